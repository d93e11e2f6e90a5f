/- Texts of a claim, side by side. -/
import Derived.Test.YtcfgafododiioaaGreatDoorC14
import Derived.Test.YtcfgafododiioaaGreatDoorC20
set_option linter.unusedSimpArgs false
set_option linter.unusedVariables false
set_option maxRecDepth 100000
namespace Go.Proofs.YtcfgafododiioaaGreatDoor
open Go Go.RowKit Go.Tum Go.ChangeMaps
abbrev zI:Obj:= .cells #[.int .u64 0,.int .i64 0,.int .i64 0,.int .i64 0,.int .u64 0,.int .u64 0,.int .u64 0,.int .u64 0,.int .u64 0,.int .i64 0] 79 (0,0)
theorem WQ.watL {q:QR} (h:WQ q):WatL q:=fun r hn hr=>by have:=h.watlen hn hr;omega
theorem WQ.ddlen {q:QR} (h:WQ q):q.dd.rows.length≤200:=by
 have:=nodup_le h.dn (m:=q.its.map Prod.fst) fun a ha=>by
  obtain⟨y,hy,rfl⟩:=List.mem_map.1 ha
  obtain⟨z,k1,-⟩:=(h.co.ded y.1).1 (by rw[nodup_lku h.dn hy];rfl)
  exact List.mem_map.2 ⟨_,look_in k1,rfl⟩
 rw[List.length_map,List.length_map] at this
 exact Nat.le_trans this h.ln
theorem WQ.entL {q:QR} (h:WQ q) (z:It) (t:UInt64):EntL {leaveQ q z with turns:=t}:=by
 have h1:=h.ln
 have h2:=h.hldlen
 have h3:=h.ddlen
 have hit:(leaveQ q z).its=q.its:=leaveQ_its q z
 have hh:(leaveQ q z).hld.length≤q.hld.length:=by
  unfold leaveQ
  repeat' split
  all_goals first|exact Nat.le_refl _|exact noK_le
 have hr:∀n,((leaveQ q z).rows n).length≤(q.rows n).length:=fun n=>by
  unfold leaveQ
  repeat' split
  all_goals first|exact Nat.le_refl _|(simp only[updN];split;(rename_i e;subst e;exact List.length_filter_le _ _);exact Nat.le_refl _)
 have hw:∀y,((leaveQ q z).wat y).isSome=true→(q.wat y).isSome=true:=fun y=>by
  unfold leaveQ
  repeat' split
  all_goals first|exact _root_.id|(simp only[delF];split;(intro k;simp at k);exact _root_.id)
 have hd:(leaveQ q z).dd.rows.length≤q.dd.rows.length:=by
  unfold leaveQ dropD
  repeat' split
  all_goals first|exact Nat.le_refl _|exact noK_le
 refine⟨by show(leaveQ q z).its.length≤_;rw[hit];omega,by show(leaveQ q z).hld.length≤_;omega,fun n hn=>by have:=(h.rowlen hn).1;have:=hr n;show((leaveQ q z).rows n).length≤_;omega,fun r hn hy=> ?_,by show(leaveQ q z).dd.rows.length≤_;omega⟩
 have:=nodup_le hn (m:=q.its.map Prod.fst) fun a ha=>by
  have k:=hy a
  rw[decide_eq_true ha] at k
  have k2:=hw a k
  rw[h.co.wat] at k2
  cases hz:look q a with
  |none=>rw[hz] at k2;simp at k2
  |some y=>exact List.mem_map.2 ⟨_,look_in hz,rfl⟩
 rw[List.length_map] at this
 omega
theorem becW_any {B:Nat} {w:World} {p:Nat} {x:XP} {q:QR} (z:It) (l:L) (h:IX B w p x q) (hB:B≤w.heap.size) (hq:WQ q) (hl:0≤z.lane∧z.lane<8) (hd:U64 l.d) (ht:U64 l.t):
 Calls Tryz.prog 76 #[pv p,itV z,lv l] w fun e w'=>e= .returned (itV (becI q z l))∧XStp B w p x (becQ q z l) w':=
 become_any z l h hB hl hq.watL (hq.entL z _) hd ht
theorem get_results (tmps:Array Value) (w:World) (b:Nat) (z:It) (h4:tmps.getD 4 undef= .pointer (some ⟨b,0,none⟩)) (m:w.heap[b]? =some (itO z)):
 (results Tryz.f30 tmps).run Tryz.prog w= .ok (.tuple #[itV z,tmps.getD 5 undef]) w:=by
 have h4':tmps[4]?.getD undef= .pointer (some ⟨b,0,none⟩):=by simpa using h4
 obtain⟨m0,m1,m2,m3,m4,m5,m6,m7,m8,m9,-⟩:=blk10 m
 simp[results,Tryz.results30,go_sem,h4',m0,m1,m2,m3,m4,m5,m6,m7,m8,m9]
set_option maxHeartbeats 1000000 in
theorem get_any {B:Nat} {w:World} {p:Nat} {x:XP} {q:QR} (i:UInt64) (h:IX B w p x q):
 Calls Tryz.prog 30 #[pv p,vU i] w fun e w'=>e= .returned (.tuple #[itV ((q.its.lookup i).getD it0),.bool (q.its.lookup i).isSome])∧Ext w w':=by
 obtain⟨⟨id,la,st,ct,du,tk,tu,sg,ps,sz⟩,hz⟩:∃z,(q.its.lookup i).getD it0=z:=⟨_,rfl⟩
 obtain⟨bo,hbo⟩:∃b,(q.its.lookup i).isSome=b:=⟨_,rfl⟩
 obtain⟨w1,hw1⟩:∃W,w.alloc zI=W:=⟨_,rfl⟩
 have e1:Ext w w1:=by rw[←hw1];exact Ext.alloc _ _
 have hlk:(Instr.lookup 129 (.map (some x.mi)) (vU i) true).run Tryz.prog w1= .ok (.tuple #[itV ⟨id,la,st,ct,du,tk,tu,sg,ps,sz⟩,.bool bo]) w1:=by
  have:=(h.im.ext e1).look_ok Tryz.underlying129 i
  rw[hz,hbo] at this
  exact this
 have c7:w1.cell? ⟨p,7,none⟩=some (.map (some x.mi)):=e1.cell (h.cells 7 _ rfl)
 rw[hz,hbo]
 clear h hz hbo
 obtain⟨w2,hw2⟩:∃W,w1.alloc (itO ⟨id,la,st,ct,du,tk,tu,sg,ps,sz⟩)=W:=⟨_,rfl⟩
 have e2:Ext w1 w2:=by rw[←hw2];exact Ext.alloc _ _
 have hb1:=e2.obj (show w1.heap[w.heap.size]? =some zI by rw[←hw1];exact heap_alloc_new _ _)
 have hb2:w2.heap[w1.heap.size]? =some (itO ⟨id,la,st,ct,du,tk,tu,sg,ps,sz⟩):=by rw[←hw2];exact heap_alloc_new _ _
 obtain⟨w3,hw3⟩:∃W,((((((((((w2).setCell ⟨w.heap.size,0,none⟩ (vU id)).setCell ⟨w.heap.size,1,none⟩ (.int .i64 la)).setCell ⟨w.heap.size,2,none⟩ (.int .i64 st)).setCell ⟨w.heap.size,3,none⟩ (.int .i64 ct)).setCell ⟨w.heap.size,4,none⟩ (vU du)).setCell ⟨w.heap.size,5,none⟩ (vU tk)).setCell ⟨w.heap.size,6,none⟩ (vU tu)).setCell ⟨w.heap.size,7,none⟩ (vU sg)).setCell ⟨w.heap.size,8,none⟩ (vU ps)).setCell ⟨w.heap.size,9,none⟩ (.int .i64 sz)=W:=⟨_,rfl⟩
 have hE3:setI w2 w.heap.size ⟨id,la,st,ct,du,tk,tu,sg,ps,sz⟩=w3:=by rw[←hw3];rfl
 have hk3:=setI_blk (y:=it0) hb1 ⟨id,la,st,ct,du,tk,tu,sg,ps,sz⟩
 have f3:=setI_fr w2 w.heap.size ⟨id,la,st,ct,du,tk,tu,sg,ps,sz⟩
 rw[hE3] at hk3 f3
 obtain⟨a0,a1,a2,a3,a4,a5,a6,a7,a8,a9,af⟩:=blk10 hb1
 obtain⟨d0,d1,d2,d3,d4,d5,d6,d7,d8,d9,-⟩:=blk10 hb2
 have af0:=af 0
 have af1:=af 1
 have af2:=af 2
 have af3:=af 3
 have af4:=af 4
 have af5:=af 5
 have af6:=af 6
 have af7:=af 7
 have af8:=af 8
 have af9:=af 9
 have HK:=hid hk3
 have HX:Hid (Ext w w3):=hid (Below.trans (e1.trans e2) (f3.below (by simp) (e1.trans e2).size))
 clear hb1 hb2 hE3 hk3 f3 e1 e2 af
 go_enter Tryz.func30,Tryz.ntmps30
 go_wp2
 refine bodyPost_ret (get_results _ w3 w.heap.size ⟨id,la,st,ct,du,tk,tu,sg,ps,sz⟩ rfl HK.out) rfl ?_
 exact⟨rfl,HX.out⟩
theorem WQ.lane8 {q:QR} (h:WQ q) (i:UInt64):0≤(getI q i).lane∧(getI q i).lane<8:=by
 unfold getI
 cases hz:look q i with
 |none=>exact⟨Int.le_refl _,by show(0:Int)<8;decide⟩
 |some z=>
  have h1:=(h.it _ (look_in hz)).ln
  have h2:=h.cf
  show 0≤z.lane∧z.lane<8
  dsimp only at h1
  omega
def withDQ (q:QR) (i:UInt64) (f:L→L×Int):Int×QR:=if(f (getI q i).l).2≠0 then((f (getI q i).l).2,q) else(0,becQ q (getI q i) (f (getI q i).l).1)
set_option maxHeartbeats 1000000 in
theorem withDead_any {B:Nat} {w:World} {p:Nat} {x:XP} {q:QR} (i:UInt64) (f:L→L×Int) (g:Nat) (h:IX B w p x q) (hB:B≤w.heap.size) (hq:WQ q)
 (eg:∀args w,Sem.run Tryz.prog (callFunc g args) w= .ok (.enter g args) w) (hg:∀l w2,Calls Tryz.prog g #[lv l] w2 fun e w3=>e= .returned (tl (f l))∧Ext w2 w3) (hu:∀z:It,U64 (f z.l).1.d∧U64 (f z.l).1.t):
 Calls Tryz.prog 84 #[pv p,vU i,.func (.func g) #[] #[]] w fun e w'=>e= .returned (.int .i64 (withDQ q i f).1)∧XStp B w p x (withDQ q i f).2 w':=by
 have hl8:=hq.lane8 i
 have hbw:=fun(w:World) (x:XP) (l:L)=>becW_any (q:=q) (w:=w) (p:=p) (x:=x) (B:=B) (getI q i) l
 obtain⟨⟨id,la,st,ct,du,tk,tu,sg,ps,sz⟩,hz⟩:∃z,getI q i=z:=⟨_,rfl⟩
 have hR:withDQ q i f=if(f (It.l ⟨id,la,st,ct,du,tk,tu,sg,ps,sz⟩)).2≠0 then((f (It.l ⟨id,la,st,ct,du,tk,tu,sg,ps,sz⟩)).2,q) else(0,becQ q ⟨id,la,st,ct,du,tk,tu,sg,ps,sz⟩ (f (It.l ⟨id,la,st,ct,du,tk,tu,sg,ps,sz⟩)).1):=by unfold withDQ;rw[hz]
 rw[hz] at hl8 hbw
 have hu1:=hu ⟨id,la,st,ct,du,tk,tu,sg,ps,sz⟩
 have hg1:=hg (It.l ⟨id,la,st,ct,du,tk,tu,sg,ps,sz⟩)
 obtain⟨⟨⟨s,c,d,t⟩,er⟩,hr⟩:∃r,f (It.l ⟨id,la,st,ct,du,tk,tu,sg,ps,sz⟩)=r:=⟨_,rfl⟩
 rw[hr] at hR hu1 hg1
 rw[hR]
 dsimp only at hu1⊢
 obtain⟨w1,hw1⟩:∃W,w.alloc (itO ⟨id,la,st,ct,du,tk,tu,sg,ps,sz⟩)=W:=⟨_,rfl⟩
 have e1:Ext w w1:=by rw[←hw1];exact Ext.alloc _ _
 have hb1:w1.heap[w.heap.size]? =some (itO ⟨id,la,st,ct,du,tk,tu,sg,ps,sz⟩):=by rw[←hw1];exact heap_alloc_new _ _
 have hlk:(Instr.lookup 129 (.map (some x.mi)) (vU i) false).run Tryz.prog w= .ok (itV ⟨id,la,st,ct,du,tk,tu,sg,ps,sz⟩) w:=by
  have:=h.im.look Tryz.underlying129 i
  have hz':(q.its.lookup i).getD it0=⟨id,la,st,ct,du,tk,tu,sg,ps,sz⟩:=hz
  rw[hz'] at this
  exact this
 have c7:=h.cells 7 (.map (some x.mi)) rfl
 obtain⟨-,-,d2,d3,d4,d5,-⟩:=blk10 hb1
 have H:=hid h
 have HB0:=hid hB
 have HWQ:=hid hq
 have HG:=hid hg1
 have HBW:=hid hbw
 have HU:=hid hu1
 have HL:=hid hl8
 have HE1:=hid e1
 have HB1:=hid hb1
 clear hz hR hg hu hr e1 hb1 h hB hq hg1 hbw hu1 hl8
 go_enter Tryz.func84,Tryz.ntmps84
 go_wp2_with fail
 clear c7 hlk d2 d3 d4 d5 hw1
 refine Calls.mono (HG.out w1) ?_
 rintro e w2 ⟨rfl,hx⟩
 have HE2:=hid (HE1.out.trans hx)
 have HB2:=hid (hx.obj HB1.out)
 obtain⟨w3,hw3⟩:∃W,w2.alloc (lfO ⟨s,c,d,t⟩)=W:=⟨_,rfl⟩
 have e3:Ext w2 w3:=by rw[←hw3];exact Ext.alloc _ _
 have hb3:w3.heap[w2.heap.size]? =some (lfO ⟨s,c,d,t⟩):=by rw[←hw3];exact heap_alloc_new _ _
 have HE3:=hid (HE2.out.trans e3)
 obtain⟨b0,b1,b2,b3,b4,b5,b6,b7,b8,b9,-⟩:=blk10 (e3.obj HB2.out)
 obtain⟨l0,l1,l2,l3⟩:=blk4 hb3
 clear hx e3 hb3 HE1 HB1 HG HE2 HB2
 by_cases he:er=0
 · subst he
   go_wp2_with fail
   refine Calls.mono (HBW.out w3 x ⟨s,c,d,t⟩ (H.out.ext HE3.out) (Nat.le_trans HB0.out HE3.out.size) HWQ.out HL.out HU.out.1 HU.out.2) ?_
   rintro e w4 ⟨rfl,hs⟩
   have HS:=hid hs
   clear hs b0 b1 b2 b3 b4 b5 b6 b7 b8 b9 l0 l1 l2 l3
   go_wp2
   go_returns
   exact⟨rfl,HS.out.pre HE3.out⟩
 · have hne:(er !=(0:Int))=true:=by simpa using he
   have HNE:=hid he
   clear he
   go_wp2
   go_returns
   exact⟨rfl,XStp.same H.out HE3.out⟩
theorem enRequeue (args:Array Value) (w:World):Sem.run Tryz.prog (callFunc 85 args) w= .ok (.enter 85 args) w:=enter_of Tryz.func85 (by kernel_rfl) (by kernel_rfl) args w
theorem enPurge (args:Array Value) (w:World):Sem.run Tryz.prog (callFunc 86 args) w= .ok (.enter 86 args) w:=enter_of Tryz.func86 (by kernel_rfl) (by kernel_rfl) args w
theorem dead_u (x:L) (s:Int):U64 (deadL x s).1.d∧U64 (deadL x s).1.t:=by
 unfold deadL
 split<;>exact⟨⟨Int.le_refl _,by show(0:Int)≤_;decide⟩,⟨Int.le_refl _,by show(0:Int)≤_;decide⟩⟩
theorem withDQ_dead (q:QR) (i:UInt64) (s:Int):withDQ q i (fun l=>deadL l s)=deadQ q i s:=by
 unfold withDQ deadQ
 rfl
theorem xrequeue_any {B:Nat} {w:World} {p:Nat} {x:XP} {q:QR} (i:UInt64) (h:IX B w p x q) (hB:B≤w.heap.size) (hq:WQ q):
 Calls Tryz.prog 36 #[pv p,vU i] w fun e w'=>e= .returned (.int .i64 (deadQ q i 1).1)∧XStp B w p x (deadQ q i 1).2 w':=by
 have hc:=withDead_any i (fun l=>deadL l 1) 85 h hB hq enRequeue (fun l w2=>requeue_any l w2) (fun z=>dead_u _ _)
 rw[withDQ_dead] at hc
 have HC:=hid hc
 clear hc h hB hq
 go_enter Tryz.func36,Tryz.ntmps36
 go_wp2_with fail
 refine HC.out.mono ?_
 rintro e w2 ⟨rfl,hs⟩
 have HS:=hid hs
 clear hs HC
 go_wp2
 go_ret
 exact⟨rfl,HS.out⟩
theorem xpurge_any {B:Nat} {w:World} {p:Nat} {x:XP} {q:QR} (i:UInt64) (h:IX B w p x q) (hB:B≤w.heap.size) (hq:WQ q):
 Calls Tryz.prog 37 #[pv p,vU i] w fun e w'=>e= .returned (.int .i64 (deadQ q i 5).1)∧XStp B w p x (deadQ q i 5).2 w':=by
 have hc:=withDead_any i (fun l=>deadL l 5) 86 h hB hq enPurge (fun l w2=>purge_any l w2) (fun z=>dead_u _ _)
 rw[withDQ_dead] at hc
 have HC:=hid hc
 clear hc h hB hq
 go_enter Tryz.func37,Tryz.ntmps37
 go_wp2_with fail
 refine HC.out.mono ?_
 rintro e w2 ⟨rfl,hs⟩
 have HS:=hid hs
 clear hs HC
 go_wp2
 go_ret
 exact⟨rfl,HS.out⟩
end Go.Proofs.YtcfgafododiioaaGreatDoor
set_option maxRecDepth 100000
namespace Go.Proofs.YtcfgafododiioaaGreatDoor
open Go Go.RowKit Go.Tum Go.ChangeMaps
theorem XStp.last {B:Nat} {w w1 w2 w3:World} {p N:Nat} {x:XP} {q':QR} {o:Obj} (h:XStp B w1 p x q' w2) (k:Ext w w1) (hN:w.heap.size≤N) (hb:w1.heap[N]? =some o) (hn:N∉x.blk p) (f:Fr [N] w2 w3):XStp B w p x q' w3:=by
 obtain⟨x2,i2,f2,n2⟩:=h
 obtain⟨-,hn2⟩:=keepF f2 n2 hb hn
 refine⟨x2,i2.fr f fun i hi a ha hm=>hn2 (by rw[List.mem_singleton] at hm;rw[←hm];exact XP.mem_blk.2 ⟨i,hi,ha⟩),?_,fun a ha=>(n2 a ha).imp id fun e=>Nat.le_trans k.size e⟩
 refine(fr_cat (Ext.fr (S:=[]) k) (fr_cat f2 f)).wider fun a ha=> ?_
 simp only[List.nil_append,List.mem_append,List.mem_singleton] at ha
 rcases ha with ha|rfl
 · exact .inl ha
 · exact .inr hN
theorem wl_results (tmps:Array Value) (w:World) (b:Nat) (z:It) (h4:tmps.getD 6 undef= .pointer (some ⟨b,0,none⟩)) (m:w.heap[b]? =some (itO z)):
 (results Tryz.f81 tmps).run Tryz.prog w= .ok (.tuple #[itV z,tmps.getD 7 undef]) w:=by
 have h4':tmps[6]?.getD undef= .pointer (some ⟨b,0,none⟩):=by simpa using h4
 obtain⟨m0,m1,m2,m3,m4,m5,m6,m7,m8,m9,-⟩:=blk10 m
 simp[results,Tryz.results81,go_sem,h4',m0,m1,m2,m3,m4,m5,m6,m7,m8,m9]
set_option maxHeartbeats 1000000 in
theorem withLease_any {B:Nat} {w:World} {p:Nat} {x:XP} {q:QR} (tok:UInt64) (f:L→L×Int) (g:Nat) (cb:Array Value) (h:IX B w p x q) (hB:B≤w.heap.size) (hq:WQ q)
 (eg:∀args w,Sem.run Tryz.prog (callFunc g args) w= .ok (.enter g args) w) (hg:∀l w2,Ext w w2→Calls Tryz.prog g (#[lv l]++cb) w2 fun e w3=>e= .returned (tl (f l))∧Ext w2 w3) (hu:∀z:It,U64 (f z.l).1.d∧U64 (f z.l).1.t):
 Calls Tryz.prog 81 #[pv p,vU tok,.func (.func g) #[] cb] w fun e w'=>e= .returned (.tuple #[itV (withQ q tok f).1,.int .i64 (withQ q tok f).2.1])∧XStp B w p x (withQ q tok f).2.2 w':=by
 obtain⟨w1,hw1⟩:∃W,w.alloc zI=W:=⟨_,rfl⟩
 have e1:Ext w w1:=by rw[←hw1];exact Ext.alloc _ _
 have hb1:w1.heap[w.heap.size]? =some zI:=by rw[←hw1];exact heap_alloc_new _ _
 have h1:=h.ext e1
 have c7:=h1.cells 7 (.map (some x.mi)) rfl
 have c17:=h1.cells 17 (.map (some x.mh)) rfl
 have hld:=h1.hm.look_ok Tryz.underlying133 tok
 have HB0:=hid hB
 have HWQ:=hid hq
 have HE1:=hid e1
 have HB1:=hid hb1
 have H1:=hid h1
 have HN0:=hid h.new_nin
 have HG:=hid hg
 have H:=hid h
 obtain⟨N0,hN0⟩:∃N,w.heap.size=N:=⟨_,rfl⟩
 have HSZ:=hid hN0
 rw[hN0] at HB1 HN0 hb1
 obtain⟨a0,a1,a2,a3,a4,a5,a6,a7,a8,a9,af⟩:=blk10 hb1
 have af0:=af 0
 have af1:=af 1
 have af2:=af 2
 have af3:=af 3
 have af4:=af 4
 have af5:=af 5
 have af6:=af 6
 have af7:=af 7
 have af8:=af 8
 have af9:=af 9
 clear h hB hq e1 hg h1 af hb1
 cases ho:q.hld.lookup tok with
 |none=>
  have hwq:withQ q tok f=(it0,9,q):=by unfold withQ;rw[ho]
  rw[hwq]
  rw[ho] at hld
  dsimp only[Option.getD,Option.isSome] at hld⊢
  obtain⟨w6,hW6⟩:∃W,((((((((((w1).setCell ⟨N0,0,none⟩ (.int .u64 0)).setCell ⟨N0,1,none⟩ (.int .i64 0)).setCell ⟨N0,2,none⟩ (.int .i64 0)).setCell ⟨N0,3,none⟩ (.int .i64 0)).setCell ⟨N0,4,none⟩ (.int .u64 0)).setCell ⟨N0,5,none⟩ (.int .u64 0)).setCell ⟨N0,6,none⟩ (.int .u64 0)).setCell ⟨N0,7,none⟩ (.int .u64 0)).setCell ⟨N0,8,none⟩ (.int .u64 0)).setCell ⟨N0,9,none⟩ (.int .i64 0)=W:=⟨_,rfl⟩
  have hE6:setI w1 N0 it0=w6:=by rw[←hW6];rfl
  have hk6:=setI_blk (y:=it0) HB1.out it0
  have f6:=setI_fr w1 N0 it0
  rw[hE6] at hk6 f6
  have HK6:=hid hk6
  have HF6:=hid f6
  clear hE6 hk6 f6
  clear ho hwq HG HWQ
  go_enter Tryz.func81,Tryz.ntmps81
  go_wp2
  refine bodyPost_ret (wl_results _ w6 N0 it0 rfl HK6.out) rfl ?_
  exact⟨rfl,(XStp.same H1.out (Ext.refl _)).last HE1.out (by have:=HSZ.out;omega) HB1.out HN0.out HF6.out⟩
 |some i=>
  have hl8:=HWQ.out.lane8 i
  have hbw:=fun(w:World) (x:XP) (l:L)=>becW_any (q:=q) (w:=w) (p:=p) (x:=x) (B:=B) (getI q i) l
  have hR:withQ q tok f=if(f (getI q i).l).2≠0 then(it0,(f (getI q i).l).2,q) else(becI q (getI q i) (f (getI q i).l).1,0,becQ q (getI q i) (f (getI q i).l).1):=by unfold withQ;rw[ho]
  obtain⟨⟨id,la,st,ct,du,tk,tu,sg,ps,sz⟩,hz⟩:∃z,getI q i=z:=⟨_,rfl⟩
  rw[hz] at hl8 hbw hR
  rw[ho] at hld
  dsimp only[Option.getD,Option.isSome] at hld
  have hu1:=hu ⟨id,la,st,ct,du,tk,tu,sg,ps,sz⟩
  have hg1:=fun w2 hx=>HG.out (It.l ⟨id,la,st,ct,du,tk,tu,sg,ps,sz⟩) w2 hx
  obtain⟨⟨⟨s,c,d,t⟩,er⟩,hr⟩:∃r,f (It.l ⟨id,la,st,ct,du,tk,tu,sg,ps,sz⟩)=r:=⟨_,rfl⟩
  rw[hr] at hR hu1 hg1
  rw[hR]
  dsimp only at hu1⊢
  obtain⟨w2,hw2⟩:∃W,w1.alloc (itO ⟨id,la,st,ct,du,tk,tu,sg,ps,sz⟩)=W:=⟨_,rfl⟩
  have e2:Ext w1 w2:=by rw[←hw2];exact Ext.alloc _ _
  have hb2:w2.heap[w1.heap.size]? =some (itO ⟨id,la,st,ct,du,tk,tu,sg,ps,sz⟩):=by rw[←hw2];exact heap_alloc_new _ _
  have hlk:(Instr.lookup 129 (.map (some x.mi)) (vU i) false).run Tryz.prog w1= .ok (itV ⟨id,la,st,ct,du,tk,tu,sg,ps,sz⟩) w1:=by
   have:=H1.out.im.look Tryz.underlying129 i
   have hz':(q.its.lookup i).getD it0=⟨id,la,st,ct,du,tk,tu,sg,ps,sz⟩:=hz
   rw[hz'] at this
   exact this
  obtain⟨-,-,d2,d3,d4,d5,-⟩:=blk10 hb2
  have HG1:=hid hg1
  have HBW:=hid hbw
  have HU:=hid hu1
  have HL:=hid hl8
  have HE2:=hid (HE1.out.trans e2)
  have HE12:=hid e2
  have HB2:=hid hb2
  obtain⟨N1,hN1⟩:∃N,w1.heap.size=N:=⟨_,rfl⟩
  rw[hN1] at HB2 d2 d3 d4 d5
  clear hz hR hg1 hbw hu1 hl8 e2 hb2 ho hr HG
  go_enter Tryz.func81,Tryz.ntmps81
  go_wp2_with fail
  clear c7 c17 hld hlk d2 d3 d4 d5 hw1 hw2 a0 af0 a1 af1 a2 af2 a3 af3 a4 af4 a5 af5 a6 af6 a7 af7 a8 af8 a9 af9
  refine Calls.mono (HG1.out w2 HE2.out) ?_
  rintro e w3 ⟨rfl,hx⟩
  have HB3:=hid (hx.obj HB2.out)
  have HX3:=hid ((HE12.out.trans hx).obj HB1.out)
  have HE3:=hid (HE2.out.trans hx)
  have H3:=hid (H1.out.ext (HE12.out.trans hx))
  obtain⟨w4,hw4⟩:∃W,w3.alloc (lfO ⟨s,c,d,t⟩)=W:=⟨_,rfl⟩
  have e4:Ext w3 w4:=by rw[←hw4];exact Ext.alloc _ _
  have hb4:w4.heap[w3.heap.size]? =some (lfO ⟨s,c,d,t⟩):=by rw[←hw4];exact heap_alloc_new _ _
  have HE4:=hid (HE3.out.trans e4)
  have HX4:=hid (e4.obj HX3.out)
  have H4:=hid (H3.out.ext e4)
  obtain⟨b0,b1,b2,b3,b4,b5,b6,b7,b8,b9,bf⟩:=blk10 (e4.obj HB3.out)
  obtain⟨l0,l1,l2,l3⟩:=blk4 hb4
  obtain⟨a0,a1,a2,a3,a4,a5,a6,a7,a8,a9,af⟩:=blk10 HX4.out
  have af0:=af 0
  have af1:=af 1
  have af2:=af 2
  have af3:=af 3
  have af4:=af 4
  have af5:=af 5
  have af6:=af 6
  have af7:=af 7
  have af8:=af 8
  have af9:=af 9
  clear hx e4 hb4 HB3 HX3 HE3 H3 HG1 HB2 HE2 HE12 af bf
  by_cases he:er=0
  · subst he
    go_wp2_with fail
    refine Calls.mono (HBW.out w4 x ⟨s,c,d,t⟩ H4.out (Nat.le_trans HB0.out HE4.out.size) HWQ.out HL.out HU.out.1 HU.out.2) ?_
    rintro e w5 ⟨rfl,hs⟩
    obtain⟨⟨yi,yl,ys,yc,yd,yt,yu,yg,yp,yz⟩,hy⟩:∃y,becI q ⟨id,la,st,ct,du,tk,tu,sg,ps,sz⟩ ⟨s,c,d,t⟩=y:=⟨_,rfl⟩
    obtain⟨x5,i5,f5,n5⟩:=hs
    obtain⟨hx5,-⟩:=keepF f5 n5 HX4.out HN0.out
    have HX5:=hid hx5
    have HS5:Hid (XStp B w4 p x (becQ q ⟨id,la,st,ct,du,tk,tu,sg,ps,sz⟩ ⟨s,c,d,t⟩) w5):=hid ⟨x5,i5,f5,n5⟩
    clear i5 f5 n5 a0 af0 b0 a1 af1 b1 a2 af2 b2 a3 af3 b3 a4 af4 b4 a5 af5 b5 a6 af6 b6 a7 af7 b7 a8 af8 b8 a9 af9 b9 l0 l1 l2 l3
    obtain⟨a0,a1,a2,a3,a4,a5,a6,a7,a8,a9,af⟩:=blk10 hx5
    have af0:=af 0
    have af1:=af 1
    have af2:=af 2
    have af3:=af 3
    have af4:=af 4
    have af5:=af 5
    have af6:=af 6
    have af7:=af 7
    have af8:=af 8
    have af9:=af 9
    obtain⟨w6,hW6⟩:∃W,((((((((((w5).setCell ⟨N0,0,none⟩ (vU yi)).setCell ⟨N0,1,none⟩ (.int .i64 yl)).setCell ⟨N0,2,none⟩ (.int .i64 ys)).setCell ⟨N0,3,none⟩ (.int .i64 yc)).setCell ⟨N0,4,none⟩ (vU yd)).setCell ⟨N0,5,none⟩ (vU yt)).setCell ⟨N0,6,none⟩ (vU yu)).setCell ⟨N0,7,none⟩ (vU yg)).setCell ⟨N0,8,none⟩ (vU yp)).setCell ⟨N0,9,none⟩ (.int .i64 yz)=W:=⟨_,rfl⟩
    have hE6:setI w5 N0 ⟨yi,yl,ys,yc,yd,yt,yu,yg,yp,yz⟩=w6:=by rw[←hW6];rfl
    have hk6:=setI_blk (y:=it0) HX5.out ⟨yi,yl,ys,yc,yd,yt,yu,yg,yp,yz⟩
    have f6:=setI_fr w5 N0 ⟨yi,yl,ys,yc,yd,yt,yu,yg,yp,yz⟩
    rw[hE6] at hk6 f6
    have HK6:=hid hk6
    have HF6:=hid f6
    clear hE6 hk6 f6
    have HY:=hid hy
    clear hx5 af
    rw[hy]
    go_wp2
    refine bodyPost_ret (wl_results _ w6 N0 ⟨yi,yl,ys,yc,yd,yt,yu,yg,yp,yz⟩ rfl HK6.out) rfl ?_
    exact⟨rfl,HS5.out.last HE4.out (by have:=HSZ.out;omega) HX4.out HN0.out HF6.out⟩
  · have hne:(er !=(0:Int))=true:=by simpa using he
    have HNE:=hid he
    obtain⟨w6,hW6⟩:∃W,((((((((((w4).setCell ⟨N0,0,none⟩ (.int .u64 0)).setCell ⟨N0,1,none⟩ (.int .i64 0)).setCell ⟨N0,2,none⟩ (.int .i64 0)).setCell ⟨N0,3,none⟩ (.int .i64 0)).setCell ⟨N0,4,none⟩ (.int .u64 0)).setCell ⟨N0,5,none⟩ (.int .u64 0)).setCell ⟨N0,6,none⟩ (.int .u64 0)).setCell ⟨N0,7,none⟩ (.int .u64 0)).setCell ⟨N0,8,none⟩ (.int .u64 0)).setCell ⟨N0,9,none⟩ (.int .i64 0)=W:=⟨_,rfl⟩
    have hE6:setI w4 N0 it0=w6:=by rw[←hW6];rfl
    have hk6:=setI_blk (y:=it0) HX4.out it0
    have f6:=setI_fr w4 N0 it0
    rw[hE6] at hk6 f6
    have HK6:=hid hk6
    have HF6:=hid f6
    clear hE6 hk6 f6
    clear he
    go_wp2
    refine bodyPost_ret (wl_results _ w6 N0 it0 rfl HK6.out) rfl ?_
    exact⟨rfl,(XStp.same H4.out (Ext.refl _)).last HE4.out (by have:=HSZ.out;omega) HX4.out HN0.out HF6.out⟩
end Go.Proofs.YtcfgafododiioaaGreatDoor
set_option maxRecDepth 100000
namespace Go.Proofs.YtcfgafododiioaaGreatDoor
open Go Go.RowKit Go.Tum Go.ChangeMaps
theorem set4L {w:World} {b:Nat} {v0 v1 v2 v3:Value} (h:w.heap[b]? =some (.cells #[v0,v1,v2,v3] 77 (0,0))) (l:L):
 (((((w).setCell ⟨b,0,none⟩ (.int .i64 l.s)).setCell ⟨b,1,none⟩ (.int .i64 l.c)).setCell ⟨b,2,none⟩ (.int .u64 l.d)).setCell ⟨b,3,none⟩ (.int .u64 l.t)).heap[b]? =some (lfO l):=by
 have h1:=Go.Joins.block_setCell (i:=3) (Go.Joins.block_setCell (i:=2) (Go.Joins.block_setCell (i:=1) (Go.Joins.block_setCell (i:=0) h (.int .i64 l.s)) (.int .i64 l.c)) (.int .u64 l.d)) (.int .u64 l.t)
 simpa using h1
theorem set4F (w:World) (b:Nat) (u0 u1 u2 u3:Value):Fr [b] w (((((w).setCell ⟨b,0,none⟩ (u0)).setCell ⟨b,1,none⟩ (u1)).setCell ⟨b,2,none⟩ (u2)).setCell ⟨b,3,none⟩ (u3)):=by
 have f:∀(w:World) (i:Nat) (u:Value),Fr [b] w (w.setCell ⟨b,i,none⟩ u):=fun w i u=>fr_setCell _ _ _ (by simp)
 exact(((f _ _ _).trans (f _ _ _)).trans (f _ _ _)).trans (f _ _ _)
theorem ack1_results (tmps:Array Value) (w:World) (b:Nat) (l:L) (h4:tmps.getD 3 undef= .pointer (some ⟨b,0,none⟩)) (m:w.heap[b]? =some (lfO l)):
 (results Tryz.f88 tmps).run Tryz.prog w= .ok (.tuple #[lv l,tmps.getD 4 undef]) w:=by
 have h4':tmps[3]?.getD undef= .pointer (some ⟨b,0,none⟩):=by simpa using h4
 obtain⟨m0,m1,m2,m3⟩:=blk4 m
 simp[results,Tryz.results88,go_sem,h4',m0,m1,m2,m3]
set_option maxHeartbeats 1000000 in
theorem ack1_any (l:L) (b:Nat) (tok:UInt64) (w:World) (hb:w.cell? ⟨b,0,none⟩=some (vU tok)):
 Calls Tryz.prog 88 (#[lv l]++ #[pv b]) w fun e w'=>e= .returned (tl (ackL l tok.toNat))∧Ext w w':=by
 obtain⟨s,c,d,t⟩:=l
 have hc:=fun w=>ack_any ⟨s,c,d,t⟩ (tok.toNat:Int) w
 obtain⟨⟨⟨rs,rc,rd,rt⟩,er⟩,hr⟩:∃r,ackL ⟨s,c,d,t⟩ tok.toNat=r:=⟨_,rfl⟩
 rw[hr] at hc
 rw[hr]
 have HC:=hid hc
 obtain⟨w1,hw1⟩:∃W,w.alloc (lfO ⟨s,c,d,t⟩)=W:=⟨_,rfl⟩
 obtain⟨w2,hw2⟩:∃W,w1.alloc (.cells #[.int .i64 0,.int .i64 0,.int .u64 0,.int .u64 0] 77 (0,0))=W:=⟨_,rfl⟩
 have e1:Ext w w1:=by rw[←hw1];exact Ext.alloc _ _
 have e2:Ext w1 w2:=by rw[←hw2];exact Ext.alloc _ _
 have hb1:=e2.obj (show w1.heap[w.heap.size]? =some (lfO ⟨s,c,d,t⟩) by rw[←hw1];exact heap_alloc_new _ _)
 have hb2:w2.heap[w1.heap.size]? =some (.cells #[.int .i64 0,.int .i64 0,.int .u64 0,.int .u64 0] 77 (0,0)):=by rw[←hw2];exact heap_alloc_new _ _
 obtain⟨l0,l1,l2,l3⟩:=blk4 hb1
 have k0:=(e1.trans e2).cell hb
 have HE2:=hid (e1.trans e2)
 have HB2:=hid hb2
 have HS1:Hid (w.heap.size≤w1.heap.size):=hid e1.size
 clear hr hc e1 e2 hb1 hb2 hb
 show Calls Tryz.prog 88 #[lv ⟨s,c,d,t⟩,pv b] w _
 go_enter Tryz.func88,Tryz.ntmps88
 go_wp2_with fail
 clear l0 l1 l2 l3 k0 hw2
 refine(HC.out w2).mono ?_
 rintro e w3 ⟨rfl,hx⟩
 have hb3:=hx.obj HB2.out
 obtain⟨m0,m1,m2,m3⟩:=blk4 hb3
 have ff:∀i,w3.frozen? ⟨w1.heap.size,i,none⟩=false:=fun i=>by simp[World.frozen?,hb3]
 have ff0:=ff 0
 have ff1:=ff 1
 have ff2:=ff 2
 have ff3:=ff 3
 obtain⟨w4,hw4⟩:∃W,((((w3).setCell ⟨w1.heap.size,0,none⟩ (.int .i64 rs)).setCell ⟨w1.heap.size,1,none⟩ (.int .i64 rc)).setCell ⟨w1.heap.size,2,none⟩ (.int .u64 rd)).setCell ⟨w1.heap.size,3,none⟩ (.int .u64 rt)=W:=⟨_,rfl⟩
 have hk4:w4.heap[w1.heap.size]? =some (lfO ⟨rs,rc,rd,rt⟩):=by rw[←hw4];exact set4L hb3 ⟨rs,rc,rd,rt⟩
 have HX4:Hid (Ext w w4):=hid (by rw[←hw4];exact Below.trans (HE2.out.trans hx) ((set4F w3 w1.heap.size _ _ _ _).below (by simp;exact HS1.out) (HE2.out.trans hx).size))
 have HK4:=hid hk4
 clear hx hb3 ff hk4
 go_wp2
 refine bodyPost_ret (ack1_results _ w4 w1.heap.size ⟨rs,rc,rd,rt⟩ rfl HK4.out) rfl ?_
 exact⟨rfl,HX4.out⟩
theorem enAck1 (args:Array Value) (w:World):Sem.run Tryz.prog (callFunc 88 args) w= .ok (.enter 88 args) w:=enter_of Tryz.func88 (by kernel_rfl) (by kernel_rfl) args w
theorem ack_u (x:L) (k:Int):U64 (ackL x k).1.d∧U64 (ackL x k).1.t:=by
 unfold ackL
 split<;>exact⟨⟨Int.le_refl _,by show(0:Int)≤_;decide⟩,⟨Int.le_refl _,by show(0:Int)≤_;decide⟩⟩
theorem ack_results (tmps:Array Value) (w:World) (b:Nat) (z:It) (h4:tmps.getD 4 undef= .pointer (some ⟨b,0,none⟩)) (m:w.heap[b]? =some (itO z)):
 (results Tryz.f43 tmps).run Tryz.prog w= .ok (.tuple #[itV z,tmps.getD 5 undef]) w:=by
 have h4':tmps[4]?.getD undef= .pointer (some ⟨b,0,none⟩):=by simpa using h4
 obtain⟨m0,m1,m2,m3,m4,m5,m6,m7,m8,m9,-⟩:=blk10 m
 simp[results,Tryz.results43,go_sem,h4',m0,m1,m2,m3,m4,m5,m6,m7,m8,m9]
set_option maxHeartbeats 1000000 in
theorem xack_any {B:Nat} {w:World} {p:Nat} {x:XP} {q:QR} (tok:UInt64) (h:IX B w p x q) (hB:B≤w.heap.size) (hq:WQ q):
 Calls Tryz.prog 43 #[pv p,vU tok] w fun e w'=>e= .returned (.tuple #[itV (ackQ q tok).1,.int .i64 (ackQ q tok).2.1])∧XStp B w p x (ackQ q tok).2.2 w':=by
 obtain⟨w1,hw1⟩:∃W,w.alloc (.cells #[vU tok] 36 (0,0))=W:=⟨_,rfl⟩
 obtain⟨w2,hw2⟩:∃W,w1.alloc zI=W:=⟨_,rfl⟩
 have e1:Ext w w1:=by rw[←hw1];exact Ext.alloc _ _
 have e2:Ext w1 w2:=by rw[←hw2];exact Ext.alloc _ _
 have hb1:=e2.obj (show w1.heap[w.heap.size]? =some (.cells #[vU tok] 36 (0,0)) by rw[←hw1];exact heap_alloc_new _ _)
 have hb2:w2.heap[w1.heap.size]? =some zI:=by rw[←hw2];exact heap_alloc_new _ _
 have k0:w2.cell? ⟨w.heap.size,0,none⟩=some (vU tok):=by rw[cell_of_row _ _ _ _ _ _ hb1];rfl
 have h2:=h.ext (e1.trans e2)
 have hc:=withLease_any tok (fun l=>ackL l tok.toNat) 88 #[pv w.heap.size] h2 (Nat.le_trans hB (e1.trans e2).size) hq enAck1 (fun l w3 hx=>ack1_any l w.heap.size tok w3 (hx.cell k0)) (fun z=>ack_u _ _)
 have hR:ackQ q tok=withQ q tok (fun l=>ackL l tok.toNat):=rfl
 rw[←hR] at hc
 obtain⟨⟨⟨yi,yl,ys,yc,yd,yt,yu,yg,yp,yz⟩,er,q'⟩,hy⟩:∃r,ackQ q tok=r:=⟨_,rfl⟩
 rw[hy] at hc⊢
 dsimp only at hc⊢
 have HC:=hid hc
 have HE2:=hid (e1.trans e2)
 have HB2:=hid hb2
 have HN1:Hid (w1.heap.size∉x.blk p):=hid fun hm=>by have h3:=(h.blk_lo _ hm).2;have h4:=e1.size;omega
 have HS1:Hid (w.heap.size≤w1.heap.size):=hid e1.size
 clear hc hR hy h2 h hB hq e1 e2 hb1 hb2
 go_enter Tryz.func43,Tryz.ntmps43
 go_wp2_with fail
 clear k0 hw2
 refine HC.out.mono ?_
 rintro e w3 ⟨rfl,hs⟩
 have HS:=hid hs
 obtain⟨x3,i3,f3,n3⟩:=hs
 obtain⟨hx3,-⟩:=keepF f3 n3 HB2.out HN1.out
 obtain⟨a0,a1,a2,a3,a4,a5,a6,a7,a8,a9,af⟩:=blk10 hx3
 have af0:=af 0
 have af1:=af 1
 have af2:=af 2
 have af3:=af 3
 have af4:=af 4
 have af5:=af 5
 have af6:=af 6
 have af7:=af 7
 have af8:=af 8
 have af9:=af 9
 obtain⟨w6,hW6⟩:∃W,((((((((((w3).setCell ⟨w1.heap.size,0,none⟩ (vU yi)).setCell ⟨w1.heap.size,1,none⟩ (.int .i64 yl)).setCell ⟨w1.heap.size,2,none⟩ (.int .i64 ys)).setCell ⟨w1.heap.size,3,none⟩ (.int .i64 yc)).setCell ⟨w1.heap.size,4,none⟩ (vU yd)).setCell ⟨w1.heap.size,5,none⟩ (vU yt)).setCell ⟨w1.heap.size,6,none⟩ (vU yu)).setCell ⟨w1.heap.size,7,none⟩ (vU yg)).setCell ⟨w1.heap.size,8,none⟩ (vU yp)).setCell ⟨w1.heap.size,9,none⟩ (.int .i64 yz)=W:=⟨_,rfl⟩
 have hE6:setI w3 w1.heap.size ⟨yi,yl,ys,yc,yd,yt,yu,yg,yp,yz⟩=w6:=by rw[←hW6];rfl
 have hk6:=setI_blk (y:=it0) hx3 ⟨yi,yl,ys,yc,yd,yt,yu,yg,yp,yz⟩
 have f6:=setI_fr w3 w1.heap.size ⟨yi,yl,ys,yc,yd,yt,yu,yg,yp,yz⟩
 rw[hE6] at hk6 f6
 have HK6:=hid hk6
 have HF6:=hid f6
 clear hE6 hk6 f6
 clear i3 f3 n3 hx3 af
 go_wp2
 refine bodyPost_ret (ack_results _ w6 w1.heap.size ⟨yi,yl,ys,yc,yd,yt,yu,yg,yp,yz⟩ rfl HK6.out) rfl ?_
 exact⟨rfl,HS.out.last HE2.out HS1.out HB2.out HN1.out HF6.out⟩
end Go.Proofs.YtcfgafododiioaaGreatDoor
