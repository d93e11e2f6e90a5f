/- Texts of a claim, side by side. -/
import Derived.Test.YtcfgafododiioaaGreatDoorC39
set_option linter.unusedSimpArgs false
set_option linter.unusedVariables false
set_option maxRecDepth 100000
namespace Go.Proofs.YtcfgafododiioaaGreatDoor
open Go Go.RowKit Go.Tum Go.ChangeMaps Go.Sort
open Go.ParB (upd Lof)
open Go.ParE (putS slotsR slots Closed)
set_option maxHeartbeats 4000000 in
theorem do_act1 {B N:Nat} {w:World} {p:Nat} {x:XP} {q:QR} (a:Ai) (h1:a.dn=1) (h:IX B w p x q) (hB:B≤w.heap.size) (hq:WI N q) (hN:N≤5000000000000000000) (ht:TB w) (hn:a.name.length≤100000) (hm: -9223372036854775808≤a.many∧a.many≤9223372036854775807):
 Calls Tryz.prog 19 #[pv p,aiV a] w fun e w'=>DoI B w p x (actI q a) e w':=by
 obtain⟨R,hR⟩:∃R,actI q a=R:=⟨_,rfl⟩
 rw[hR]
 obtain⟨k,hk⟩:∃k,kindI a=k:=⟨_,rfl⟩
 have hRk:actB q a k=R:=by rw[←hR,←hk];rfl
 obtain⟨dn,lane,many,aid,an,nm,asg,aps,asz⟩:=a
 obtain⟨w1,hw1⟩:∃W,w.alloc (.cells #[.int .i64 dn,.int .i64 lane,.int .i64 many,vU aid,vU an,vN nm,vU asg,vU aps,.int .i64 asz] 40 (0,0))=W:=⟨_,rfl⟩
 obtain⟨w2,hw2⟩:∃W,w1.alloc zAn=W:=⟨_,rfl⟩
 obtain⟨w3,hw3⟩:∃W,w2.alloc (.cells #[.int .u64 0,.int .i64 0,.int .i64 0,.int .i64 0,.int .u64 0,.int .u64 0,.int .u64 0,.int .u64 0,.int .u64 0,.int .i64 0] 79 (0,0))=W:=⟨_,rfl⟩
 obtain⟨HX,HE,HB,HT,HB2,HB3,HB4,HLO,t0,t1,t2,t3,t4,t5,t6,t7,t8⟩:=do_head h hB ht hw1 hw2 hw3
 have H0:=hid h
 have HQ:=hid hq
 have HN:=hid hN
 have HNM:=hid hn
 have HMN:=hid hm
 have HRK:=hid hRk
 obtain⟨g0,hg0⟩:∃g,w.heap.size=g:=⟨_,rfl⟩
 clear h hB hq hN ht hn hm hR hRk hg0
 try dsimp only[kindI] at hk
 dsimp only at h1
 subst h1
 go_enter Tryz.func19,Tryz.ntmps19
 have hke:k= .a1:=by rw[←hk];simp
 subst hke
 clear hk
 have hR2:=HRK.out
 rw[actB1] at hR2
 have hcall:=lease_any11 lane an HX.out HB.out HQ.out.wq (by have:=HQ.out.lo.le;have:=HN.out;omega)
 obtain⟨Z,hZ⟩:∃T,(leaseQ q lane an).1=T:=⟨_,rfl⟩
 obtain⟨E,hE⟩:∃T,(leaseQ q lane an).2.1=T:=⟨_,rfl⟩
 try dsimp only at hR2
 rw[hZ] at hcall hR2
 rw[hE] at hcall hR2
 clear hZ hE
 have HCALL:=hid hcall
 have HR2:=hid hR2
 clear hcall hR2 HRK
 go_wp2_with fail
 refine HCALL.out.mono ?_
 rintro e w5 ⟨rfl,hs⟩
 obtain⟨x5,i5,f5,n5⟩:=hs
 have hoff:∀b,w.heap.size≤b→b∉x.blk p:=fun b hb hm=>by have:=(H0.out.blk_lo b hm).2;omega
 have cHB2:=(f5.block w1.heap.size (by have:=HLO.out;omega) (hoff _ (by have:=HLO.out;omega))).trans HB2.out
 have cHB3:=(f5.block w2.heap.size (by have:=HLO.out;omega) (hoff _ (by have:=HLO.out;omega))).trans HB3.out
 have cHB4:=(f5.block w3.heap.size (by have:=HLO.out;omega) (hoff _ (by have:=HLO.out;omega))).trans HB4.out
 have HS:Hid (XStp B (w3.alloc zAn) p x _ w5):=hid ⟨x5,i5,f5,n5⟩
 clear f5 n5 hoff i5
 obtain⟨r,hr⟩:∃b,w1.heap.size=b:=⟨_,rfl⟩
 obtain⟨ib,hib⟩:∃b,w2.heap.size=b:=⟨_,rfl⟩
 obtain⟨ob,hob⟩:∃b,w3.heap.size=b:=⟨_,rfl⟩
 have HLO2:Hid (w.heap.size≤r∧r<ib∧ib<ob∧ob<(w3.alloc zAn).heap.size):=hid (by have:=HLO.out;omega)
 rw[hr] at cHB2
 rw[hib] at cHB3
 rw[hob] at cHB4
 try rw[hr]
 try rw[hib]
 try rw[hob]
 clear hr hib hob hw1 hw2 hw3
 have a0:=blk15 cHB4
 obtain⟨o0,o1,o2,o3,o4,o5,o6,o7,o8,o9,o10,o11,o12,o13,o14,ofz⟩:=a0
 have of0:=ofz 0
 obtain⟨id,la,st,ct,du,tk,tu,sg,ps,sz⟩:=Z
 have CHB3:=hid cHB3
 obtain⟨w6,hw6⟩:∃W,w5.setRow ib #[vU id,.int .i64 la,.int .i64 st,.int .i64 ct,vU du,vU tk,vU tu,vU sg,vU ps,.int .i64 sz]=W:=⟨_,rfl⟩
 have hf6:=setRow_fr w5 ib #[vU id,.int .i64 la,.int .i64 st,.int .i64 ct,vU du,vU tk,vU tu,vU sg,vU ps,.int .i64 sz]
 have hk6:=setRow_heap w5 ib _ #[vU id,.int .i64 la,.int .i64 st,.int .i64 ct,vU du,vU tk,vU tu,vU sg,vU ps,.int .i64 sz] _ _ cHB3
 rw[hw6] at hk6 hf6
 have ci6:w6.heap[ib]? =some (.cells #[vU id,.int .i64 la,.int .i64 st,.int .i64 ct,vU du,vU tk,vU tu,vU sg,vU ps,.int .i64 sz] 79 (0,0)):=hk6
 have co6:=(hf6.block ob (Array.getElem?_eq_some_iff.1 cHB4).1 (by have:=HLO2.out;simp;omega)).trans cHB4
 have cr6:=(hf6.block r (Array.getElem?_eq_some_iff.1 cHB2).1 (by have:=HLO2.out;simp;omega)).trans cHB2
 have ff6:=hf6.mono (T:=[r,ib,ob]) (by simp)
 clear hk6 hf6
 obtain⟨o0,o1,o2,o3,o4,o5,o6,o7,o8,o9,o10,o11,o12,o13,o14,ofz⟩:=blk15 co6
 have of0:=ofz 0
 obtain⟨w7,hw7⟩:∃W,(w6).setCell ⟨ob,0,none⟩ (.int .i64 E)=W:=⟨_,rfl⟩
 have co7:w7.heap[ob]? =some (.cells #[.int .i64 E,.int .u64 0,.int .u64 0,.int .i64 0,.int .i64 0,.int .i64 0,.int .u64 0,.int .u64 0,.int .u64 0,.int .u64 0,.int .u64 0,.int .i64 0,.int .i64 0,.bool false,.slice none 0 0] 49 (0,0)):=by rw[←hw7];simpa using(Go.Joins.block_setCell (i:=0) co6 (.int .i64 E))
 have f7:Fr [ob] w6 w7:=by rw[←hw7];exact(fr_setCell (S:=[ob]) _ ⟨ob,0,none⟩ (.int .i64 E) (by simp))
 have ci7:=(f7.block ib (Array.getElem?_eq_some_iff.1 ci6).1 (by have:=HLO2.out;simp;omega)).trans ci6
 have cr7:=(f7.block r (Array.getElem?_eq_some_iff.1 cr6).1 (by have:=HLO2.out;simp;omega)).trans cr6
 have ff7:=ff6.trans (f7.mono (T:=[r,ib,ob]) (by simp))
 clear f7 ofz
 have HF7:=hid ff7
 have CO7:=hid co7
 have CI7:=hid ci7
 have CR7:=hid cr7
 clear ff7 ff6 co6 ci6 cr6 cHB2 cHB3 cHB4 ci7 cr7 co7
 go_wp2_with (first|(refine wpList_store_row rfl 79 (.tmp 5) (.tmp 42) rfl ib #[vU id,.int .i64 la,.int .i64 st,.int .i64 ct,vU du,vU tk,vU tu,vU sg,vU ps,.int .i64 sz] rfl rfl 79 _ CHB3.out (by kernel_rfl) rfl (by simp[Value.oneCell']) ?_)|(refine wpList_load_row rfl 79 (.tmp 5) rfl ib rfl 79 #[vU id,.int .i64 la,.int .i64 st,.int .i64 ct,vU du,vU tk,vU tu,vU sg,vU ps,.int .i64 sz] (0,0) _ CI7.out Tryz.underlying79 rfl (by kernel_rfl) ?_))
 clear t0 t1 t2 t3 t4 t5 t6 t7 t8
 refine(item_any ⟨id,la,st,ct,du,tk,tu,sg,ps,sz⟩ _).mono ?_
 rintro e w8 ⟨rfl,hx8⟩
 have co8:=hx8.obj CO7.out
 have cr8:=hx8.obj CR7.out
 have HF8:Hid (Fr [r,ib,ob] w5 w8):=hid (HF7.out.trans (Ext.fr hx8))
 obtain⟨w9,hw9⟩:∃W,w8.setCells ob 2 [vU id,.int .i64 la,.int .i64 st,.int .i64 ct,vU du,vU tk,vU tu,vU sg,vU ps,.int .i64 sz]=W:=⟨_,rfl⟩
 have hk9:=setCells_blk [vU id,.int .i64 la,.int .i64 st,.int .i64 ct,vU du,vU tk,vU tu,vU sg,vU ps,.int .i64 sz] w8 ob 2 co8
 have hf9:=setCells_fr [vU id,.int .i64 la,.int .i64 st,.int .i64 ct,vU du,vU tk,vU tu,vU sg,vU ps,.int .i64 sz] w8 ob 2
 have HTH:Hid (w8.there ob 2 10):=hid (there_of co8 (by simp))
 rw[hw9] at hk9 hf9
 have co9:w9.heap[ob]? =some (anO {an0 with it:=⟨id,la,st,ct,du,tk,tu,sg,ps,sz⟩,e:=E} (.slice none 0 0)):=by rw[hk9];first|(simp[setA];done)|(simp[setA,an0,it0];done)
 have cr9:=(hf9.block r (Array.getElem?_eq_some_iff.1 cr8).1 (by have:=HLO2.out;simp;omega)).trans cr8
 have ff9:=HF8.out.trans (hf9.mono (T:=[r,ib,ob]) (by simp))
 have HKA:Hid ((w9.setRow r #[.int .i64 E,.int .u64 0,vU id,.int .i64 la,.int .i64 st,.int .i64 ct,vU du,vU tk,vU tu,vU sg,vU ps,.int .i64 sz,.int .i64 0,.bool false,.slice none 0 0]).heap[r]? =some (anO {an0 with it:=⟨id,la,st,ct,du,tk,tu,sg,ps,sz⟩,e:=E} (.slice none 0 0))):=hid (by rw[setRow_heap _ _ _ _ _ _ cr9];first|rfl|(simp[an0,it0];done))
 have HFA:=hid (ff9.trans ((setRow_fr w9 r #[.int .i64 E,.int .u64 0,vU id,.int .i64 la,.int .i64 st,.int .i64 ct,vU du,vU tk,vU tu,vU sg,vU ps,.int .i64 sz,.int .i64 0,.bool false,.slice none 0 0]).mono (T:=[r,ib,ob]) (by simp)))
 have CO9:Hid (w9.heap[ob]? =some (.cells #[.int .i64 E,.int .u64 0,vU id,.int .i64 la,.int .i64 st,.int .i64 ct,vU du,vU tk,vU tu,vU sg,vU ps,.int .i64 sz,.int .i64 0,.bool false,.slice none 0 0] 49 (0,0))):=hid (by rw[co9];first|rfl|(simp[an0,it0];done))
 have CR9:=hid cr9
 clear hk9 hf9 co8 cr8 co9 cr9 ff9 hx8
 go_wp2_with (first|(refine wpList_store_mid rfl 46 (.tmp 133) (.tmp 132) rfl ob 2 #[vU id,.int .i64 la,.int .i64 st,.int .i64 ct,vU du,vU tk,vU tu,vU sg,vU ps,.int .i64 sz] rfl rfl HTH.out (by kernel_rfl) (by simp[Value.oneCell']) ?_;rw[show World.setCells w8 ob 2 (Array.toList #[vU id,.int .i64 la,.int .i64 st,.int .i64 ct,vU du,vU tk,vU tu,vU sg,vU ps,.int .i64 sz])=w9 from hw9])|(refine wpList_load_row rfl 49 (.tmp 6) rfl ob rfl 49 #[.int .i64 E,.int .u64 0,vU id,.int .i64 la,.int .i64 st,.int .i64 ct,vU du,vU tk,vU tu,vU sg,vU ps,.int .i64 sz,.int .i64 0,.bool false,.slice none 0 0] (0,0) _ CO9.out Tryz.underlying49 rfl (by kernel_rfl) ?_)|(refine wpList_store_row rfl 49 (.tmp 4) (.tmp 134) rfl r #[.int .i64 E,.int .u64 0,vU id,.int .i64 la,.int .i64 st,.int .i64 ct,vU du,vU tk,vU tu,vU sg,vU ps,.int .i64 sz,.int .i64 0,.bool false,.slice none 0 0] rfl rfl 49 _ CR9.out (by kernel_rfl) rfl (by simp[Value.oneCell']) ?_))
 refine bodyPost_ret (do_results _ _ r {an0 with it:=⟨id,la,st,ct,du,tk,tu,sg,ps,sz⟩,e:=E} (.slice none 0 0) rfl HKA.out) rfl ?_
 rw[←HR2.out]
 exact⟨⟨none,0,rfl,World.ownsRow_nil _ _ _ _⟩,do_fin H0.out HE.out HS.out HFA.out (fun b hb=>by have:=HLO2.out;simp only[List.mem_cons,List.not_mem_nil,or_false] at hb;omega)⟩
set_option maxHeartbeats 4000000 in
theorem do_act2 {B N:Nat} {w:World} {p:Nat} {x:XP} {q:QR} (a:Ai) (h2:a.dn=2) (h:IX B w p x q) (hB:B≤w.heap.size) (hq:WI N q) (hN:N≤5000000000000000000) (ht:TB w) (hn:a.name.length≤100000) (hm: -9223372036854775808≤a.many∧a.many≤9223372036854775807):
 Calls Tryz.prog 19 #[pv p,aiV a] w fun e w'=>DoI B w p x (actI q a) e w':=by
 obtain⟨R,hR⟩:∃R,actI q a=R:=⟨_,rfl⟩
 rw[hR]
 obtain⟨k,hk⟩:∃k,kindI a=k:=⟨_,rfl⟩
 have hRk:actB q a k=R:=by rw[←hR,←hk];rfl
 obtain⟨dn,lane,many,aid,an,nm,asg,aps,asz⟩:=a
 obtain⟨w1,hw1⟩:∃W,w.alloc (.cells #[.int .i64 dn,.int .i64 lane,.int .i64 many,vU aid,vU an,vN nm,vU asg,vU aps,.int .i64 asz] 40 (0,0))=W:=⟨_,rfl⟩
 obtain⟨w2,hw2⟩:∃W,w1.alloc zAn=W:=⟨_,rfl⟩
 obtain⟨w3,hw3⟩:∃W,w2.alloc (.cells #[.int .u64 0,.int .i64 0,.int .i64 0,.int .i64 0,.int .u64 0,.int .u64 0,.int .u64 0,.int .u64 0,.int .u64 0,.int .i64 0] 79 (0,0))=W:=⟨_,rfl⟩
 obtain⟨HX,HE,HB,HT,HB2,HB3,HB4,HLO,t0,t1,t2,t3,t4,t5,t6,t7,t8⟩:=do_head h hB ht hw1 hw2 hw3
 have H0:=hid h
 have HQ:=hid hq
 have HN:=hid hN
 have HNM:=hid hn
 have HMN:=hid hm
 have HRK:=hid hRk
 obtain⟨g0,hg0⟩:∃g,w.heap.size=g:=⟨_,rfl⟩
 clear h hB hq hN ht hn hm hR hRk hg0
 try dsimp only[kindI] at hk
 dsimp only at h2
 subst h2
 go_enter Tryz.func19,Tryz.ntmps19
 have hke:k= .a2:=by rw[←hk];simp
 subst hke
 clear hk
 have hR2:=HRK.out
 rw[actB2] at hR2
 have hcall:=xack_any aid HX.out HB.out HQ.out.wq
 obtain⟨Z,hZ⟩:∃T,(ackQ q aid).1=T:=⟨_,rfl⟩
 obtain⟨E,hE⟩:∃T,(ackQ q aid).2.1=T:=⟨_,rfl⟩
 try dsimp only at hR2
 rw[hZ] at hcall hR2
 rw[hE] at hcall hR2
 clear hZ hE
 have HCALL:=hid hcall
 have HR2:=hid hR2
 clear hcall hR2 HRK
 go_wp2_with fail
 refine HCALL.out.mono ?_
 rintro e w5 ⟨rfl,hs⟩
 obtain⟨x5,i5,f5,n5⟩:=hs
 have hoff:∀b,w.heap.size≤b→b∉x.blk p:=fun b hb hm=>by have:=(H0.out.blk_lo b hm).2;omega
 have cHB2:=(f5.block w1.heap.size (by have:=HLO.out;omega) (hoff _ (by have:=HLO.out;omega))).trans HB2.out
 have cHB3:=(f5.block w2.heap.size (by have:=HLO.out;omega) (hoff _ (by have:=HLO.out;omega))).trans HB3.out
 have cHB4:=(f5.block w3.heap.size (by have:=HLO.out;omega) (hoff _ (by have:=HLO.out;omega))).trans HB4.out
 have HS:Hid (XStp B (w3.alloc zAn) p x _ w5):=hid ⟨x5,i5,f5,n5⟩
 clear f5 n5 hoff i5
 obtain⟨r,hr⟩:∃b,w1.heap.size=b:=⟨_,rfl⟩
 obtain⟨ib,hib⟩:∃b,w2.heap.size=b:=⟨_,rfl⟩
 obtain⟨ob,hob⟩:∃b,w3.heap.size=b:=⟨_,rfl⟩
 have HLO2:Hid (w.heap.size≤r∧r<ib∧ib<ob∧ob<(w3.alloc zAn).heap.size):=hid (by have:=HLO.out;omega)
 rw[hr] at cHB2
 rw[hib] at cHB3
 rw[hob] at cHB4
 try rw[hr]
 try rw[hib]
 try rw[hob]
 clear hr hib hob hw1 hw2 hw3
 have a0:=blk15 cHB4
 obtain⟨o0,o1,o2,o3,o4,o5,o6,o7,o8,o9,o10,o11,o12,o13,o14,ofz⟩:=a0
 have of0:=ofz 0
 obtain⟨id,la,st,ct,du,tk,tu,sg,ps,sz⟩:=Z
 have CHB3:=hid cHB3
 obtain⟨w6,hw6⟩:∃W,w5.setRow ib #[vU id,.int .i64 la,.int .i64 st,.int .i64 ct,vU du,vU tk,vU tu,vU sg,vU ps,.int .i64 sz]=W:=⟨_,rfl⟩
 have hf6:=setRow_fr w5 ib #[vU id,.int .i64 la,.int .i64 st,.int .i64 ct,vU du,vU tk,vU tu,vU sg,vU ps,.int .i64 sz]
 have hk6:=setRow_heap w5 ib _ #[vU id,.int .i64 la,.int .i64 st,.int .i64 ct,vU du,vU tk,vU tu,vU sg,vU ps,.int .i64 sz] _ _ cHB3
 rw[hw6] at hk6 hf6
 have ci6:w6.heap[ib]? =some (.cells #[vU id,.int .i64 la,.int .i64 st,.int .i64 ct,vU du,vU tk,vU tu,vU sg,vU ps,.int .i64 sz] 79 (0,0)):=hk6
 have co6:=(hf6.block ob (Array.getElem?_eq_some_iff.1 cHB4).1 (by have:=HLO2.out;simp;omega)).trans cHB4
 have cr6:=(hf6.block r (Array.getElem?_eq_some_iff.1 cHB2).1 (by have:=HLO2.out;simp;omega)).trans cHB2
 have ff6:=hf6.mono (T:=[r,ib,ob]) (by simp)
 clear hk6 hf6
 obtain⟨o0,o1,o2,o3,o4,o5,o6,o7,o8,o9,o10,o11,o12,o13,o14,ofz⟩:=blk15 co6
 have of0:=ofz 0
 obtain⟨w7,hw7⟩:∃W,(w6).setCell ⟨ob,0,none⟩ (.int .i64 E)=W:=⟨_,rfl⟩
 have co7:w7.heap[ob]? =some (.cells #[.int .i64 E,.int .u64 0,.int .u64 0,.int .i64 0,.int .i64 0,.int .i64 0,.int .u64 0,.int .u64 0,.int .u64 0,.int .u64 0,.int .u64 0,.int .i64 0,.int .i64 0,.bool false,.slice none 0 0] 49 (0,0)):=by rw[←hw7];simpa using(Go.Joins.block_setCell (i:=0) co6 (.int .i64 E))
 have f7:Fr [ob] w6 w7:=by rw[←hw7];exact(fr_setCell (S:=[ob]) _ ⟨ob,0,none⟩ (.int .i64 E) (by simp))
 have ci7:=(f7.block ib (Array.getElem?_eq_some_iff.1 ci6).1 (by have:=HLO2.out;simp;omega)).trans ci6
 have cr7:=(f7.block r (Array.getElem?_eq_some_iff.1 cr6).1 (by have:=HLO2.out;simp;omega)).trans cr6
 have ff7:=ff6.trans (f7.mono (T:=[r,ib,ob]) (by simp))
 clear f7 ofz
 have HF7:=hid ff7
 have CO7:=hid co7
 have CI7:=hid ci7
 have CR7:=hid cr7
 clear ff7 ff6 co6 ci6 cr6 cHB2 cHB3 cHB4 ci7 cr7 co7
 go_wp2_with (first|(refine wpList_store_row rfl 79 (.tmp 5) (.tmp 52) rfl ib #[vU id,.int .i64 la,.int .i64 st,.int .i64 ct,vU du,vU tk,vU tu,vU sg,vU ps,.int .i64 sz] rfl rfl 79 _ CHB3.out (by kernel_rfl) rfl (by simp[Value.oneCell']) ?_)|(refine wpList_load_row rfl 79 (.tmp 5) rfl ib rfl 79 #[vU id,.int .i64 la,.int .i64 st,.int .i64 ct,vU du,vU tk,vU tu,vU sg,vU ps,.int .i64 sz] (0,0) _ CI7.out Tryz.underlying79 rfl (by kernel_rfl) ?_))
 clear t0 t1 t2 t3 t4 t5 t6 t7 t8
 refine(item_any ⟨id,la,st,ct,du,tk,tu,sg,ps,sz⟩ _).mono ?_
 rintro e w8 ⟨rfl,hx8⟩
 have co8:=hx8.obj CO7.out
 have cr8:=hx8.obj CR7.out
 have HF8:Hid (Fr [r,ib,ob] w5 w8):=hid (HF7.out.trans (Ext.fr hx8))
 obtain⟨w9,hw9⟩:∃W,w8.setCells ob 2 [vU id,.int .i64 la,.int .i64 st,.int .i64 ct,vU du,vU tk,vU tu,vU sg,vU ps,.int .i64 sz]=W:=⟨_,rfl⟩
 have hk9:=setCells_blk [vU id,.int .i64 la,.int .i64 st,.int .i64 ct,vU du,vU tk,vU tu,vU sg,vU ps,.int .i64 sz] w8 ob 2 co8
 have hf9:=setCells_fr [vU id,.int .i64 la,.int .i64 st,.int .i64 ct,vU du,vU tk,vU tu,vU sg,vU ps,.int .i64 sz] w8 ob 2
 have HTH:Hid (w8.there ob 2 10):=hid (there_of co8 (by simp))
 rw[hw9] at hk9 hf9
 have co9:w9.heap[ob]? =some (anO {an0 with it:=⟨id,la,st,ct,du,tk,tu,sg,ps,sz⟩,e:=E} (.slice none 0 0)):=by rw[hk9];first|(simp[setA];done)|(simp[setA,an0,it0];done)
 have cr9:=(hf9.block r (Array.getElem?_eq_some_iff.1 cr8).1 (by have:=HLO2.out;simp;omega)).trans cr8
 have ff9:=HF8.out.trans (hf9.mono (T:=[r,ib,ob]) (by simp))
 have HKA:Hid ((w9.setRow r #[.int .i64 E,.int .u64 0,vU id,.int .i64 la,.int .i64 st,.int .i64 ct,vU du,vU tk,vU tu,vU sg,vU ps,.int .i64 sz,.int .i64 0,.bool false,.slice none 0 0]).heap[r]? =some (anO {an0 with it:=⟨id,la,st,ct,du,tk,tu,sg,ps,sz⟩,e:=E} (.slice none 0 0))):=hid (by rw[setRow_heap _ _ _ _ _ _ cr9];first|rfl|(simp[an0,it0];done))
 have HFA:=hid (ff9.trans ((setRow_fr w9 r #[.int .i64 E,.int .u64 0,vU id,.int .i64 la,.int .i64 st,.int .i64 ct,vU du,vU tk,vU tu,vU sg,vU ps,.int .i64 sz,.int .i64 0,.bool false,.slice none 0 0]).mono (T:=[r,ib,ob]) (by simp)))
 have CO9:Hid (w9.heap[ob]? =some (.cells #[.int .i64 E,.int .u64 0,vU id,.int .i64 la,.int .i64 st,.int .i64 ct,vU du,vU tk,vU tu,vU sg,vU ps,.int .i64 sz,.int .i64 0,.bool false,.slice none 0 0] 49 (0,0))):=hid (by rw[co9];first|rfl|(simp[an0,it0];done))
 have CR9:=hid cr9
 clear hk9 hf9 co8 cr8 co9 cr9 ff9 hx8
 go_wp2_with (first|(refine wpList_store_mid rfl 46 (.tmp 133) (.tmp 132) rfl ob 2 #[vU id,.int .i64 la,.int .i64 st,.int .i64 ct,vU du,vU tk,vU tu,vU sg,vU ps,.int .i64 sz] rfl rfl HTH.out (by kernel_rfl) (by simp[Value.oneCell']) ?_;rw[show World.setCells w8 ob 2 (Array.toList #[vU id,.int .i64 la,.int .i64 st,.int .i64 ct,vU du,vU tk,vU tu,vU sg,vU ps,.int .i64 sz])=w9 from hw9])|(refine wpList_load_row rfl 49 (.tmp 6) rfl ob rfl 49 #[.int .i64 E,.int .u64 0,vU id,.int .i64 la,.int .i64 st,.int .i64 ct,vU du,vU tk,vU tu,vU sg,vU ps,.int .i64 sz,.int .i64 0,.bool false,.slice none 0 0] (0,0) _ CO9.out Tryz.underlying49 rfl (by kernel_rfl) ?_)|(refine wpList_store_row rfl 49 (.tmp 4) (.tmp 134) rfl r #[.int .i64 E,.int .u64 0,vU id,.int .i64 la,.int .i64 st,.int .i64 ct,vU du,vU tk,vU tu,vU sg,vU ps,.int .i64 sz,.int .i64 0,.bool false,.slice none 0 0] rfl rfl 49 _ CR9.out (by kernel_rfl) rfl (by simp[Value.oneCell']) ?_))
 refine bodyPost_ret (do_results _ _ r {an0 with it:=⟨id,la,st,ct,du,tk,tu,sg,ps,sz⟩,e:=E} (.slice none 0 0) rfl HKA.out) rfl ?_
 rw[←HR2.out]
 exact⟨⟨none,0,rfl,World.ownsRow_nil _ _ _ _⟩,do_fin H0.out HE.out HS.out HFA.out (fun b hb=>by have:=HLO2.out;simp only[List.mem_cons,List.not_mem_nil,or_false] at hb;omega)⟩
set_option maxHeartbeats 4000000 in
theorem do_act3 {B N:Nat} {w:World} {p:Nat} {x:XP} {q:QR} (a:Ai) (h3:a.dn=3) (h:IX B w p x q) (hB:B≤w.heap.size) (hq:WI N q) (hN:N≤5000000000000000000) (ht:TB w) (hn:a.name.length≤100000) (hm: -9223372036854775808≤a.many∧a.many≤9223372036854775807):
 Calls Tryz.prog 19 #[pv p,aiV a] w fun e w'=>DoI B w p x (actI q a) e w':=by
 obtain⟨R,hR⟩:∃R,actI q a=R:=⟨_,rfl⟩
 rw[hR]
 obtain⟨k,hk⟩:∃k,kindI a=k:=⟨_,rfl⟩
 have hRk:actB q a k=R:=by rw[←hR,←hk];rfl
 obtain⟨dn,lane,many,aid,an,nm,asg,aps,asz⟩:=a
 obtain⟨w1,hw1⟩:∃W,w.alloc (.cells #[.int .i64 dn,.int .i64 lane,.int .i64 many,vU aid,vU an,vN nm,vU asg,vU aps,.int .i64 asz] 40 (0,0))=W:=⟨_,rfl⟩
 obtain⟨w2,hw2⟩:∃W,w1.alloc zAn=W:=⟨_,rfl⟩
 obtain⟨w3,hw3⟩:∃W,w2.alloc (.cells #[.int .u64 0,.int .i64 0,.int .i64 0,.int .i64 0,.int .u64 0,.int .u64 0,.int .u64 0,.int .u64 0,.int .u64 0,.int .i64 0] 79 (0,0))=W:=⟨_,rfl⟩
 obtain⟨HX,HE,HB,HT,HB2,HB3,HB4,HLO,t0,t1,t2,t3,t4,t5,t6,t7,t8⟩:=do_head h hB ht hw1 hw2 hw3
 have H0:=hid h
 have HQ:=hid hq
 have HN:=hid hN
 have HNM:=hid hn
 have HMN:=hid hm
 have HRK:=hid hRk
 obtain⟨g0,hg0⟩:∃g,w.heap.size=g:=⟨_,rfl⟩
 clear h hB hq hN ht hn hm hR hRk hg0
 try dsimp only[kindI] at hk
 dsimp only at h3
 subst h3
 go_enter Tryz.func19,Tryz.ntmps19
 have hke:k= .a3:=by rw[←hk];simp
 subst hke
 clear hk
 have hR2:=HRK.out
 rw[actB3] at hR2
 have hcall:=xnck_any aid an HX.out HB.out HQ.out.wq
 obtain⟨Z,hZ⟩:∃T,(nackQ q aid an).1=T:=⟨_,rfl⟩
 obtain⟨E,hE⟩:∃T,(nackQ q aid an).2.1=T:=⟨_,rfl⟩
 try dsimp only at hR2
 rw[hZ] at hcall hR2
 rw[hE] at hcall hR2
 clear hZ hE
 have HCALL:=hid hcall
 have HR2:=hid hR2
 clear hcall hR2 HRK
 go_wp2_with fail
 refine HCALL.out.mono ?_
 rintro e w5 ⟨rfl,hs⟩
 obtain⟨x5,i5,f5,n5⟩:=hs
 have hoff:∀b,w.heap.size≤b→b∉x.blk p:=fun b hb hm=>by have:=(H0.out.blk_lo b hm).2;omega
 have cHB2:=(f5.block w1.heap.size (by have:=HLO.out;omega) (hoff _ (by have:=HLO.out;omega))).trans HB2.out
 have cHB3:=(f5.block w2.heap.size (by have:=HLO.out;omega) (hoff _ (by have:=HLO.out;omega))).trans HB3.out
 have cHB4:=(f5.block w3.heap.size (by have:=HLO.out;omega) (hoff _ (by have:=HLO.out;omega))).trans HB4.out
 have HS:Hid (XStp B (w3.alloc zAn) p x _ w5):=hid ⟨x5,i5,f5,n5⟩
 clear f5 n5 hoff i5
 obtain⟨r,hr⟩:∃b,w1.heap.size=b:=⟨_,rfl⟩
 obtain⟨ib,hib⟩:∃b,w2.heap.size=b:=⟨_,rfl⟩
 obtain⟨ob,hob⟩:∃b,w3.heap.size=b:=⟨_,rfl⟩
 have HLO2:Hid (w.heap.size≤r∧r<ib∧ib<ob∧ob<(w3.alloc zAn).heap.size):=hid (by have:=HLO.out;omega)
 rw[hr] at cHB2
 rw[hib] at cHB3
 rw[hob] at cHB4
 try rw[hr]
 try rw[hib]
 try rw[hob]
 clear hr hib hob hw1 hw2 hw3
 have a0:=blk15 cHB4
 obtain⟨o0,o1,o2,o3,o4,o5,o6,o7,o8,o9,o10,o11,o12,o13,o14,ofz⟩:=a0
 have of0:=ofz 0
 obtain⟨id,la,st,ct,du,tk,tu,sg,ps,sz⟩:=Z
 have CHB3:=hid cHB3
 obtain⟨w6,hw6⟩:∃W,w5.setRow ib #[vU id,.int .i64 la,.int .i64 st,.int .i64 ct,vU du,vU tk,vU tu,vU sg,vU ps,.int .i64 sz]=W:=⟨_,rfl⟩
 have hf6:=setRow_fr w5 ib #[vU id,.int .i64 la,.int .i64 st,.int .i64 ct,vU du,vU tk,vU tu,vU sg,vU ps,.int .i64 sz]
 have hk6:=setRow_heap w5 ib _ #[vU id,.int .i64 la,.int .i64 st,.int .i64 ct,vU du,vU tk,vU tu,vU sg,vU ps,.int .i64 sz] _ _ cHB3
 rw[hw6] at hk6 hf6
 have ci6:w6.heap[ib]? =some (.cells #[vU id,.int .i64 la,.int .i64 st,.int .i64 ct,vU du,vU tk,vU tu,vU sg,vU ps,.int .i64 sz] 79 (0,0)):=hk6
 have co6:=(hf6.block ob (Array.getElem?_eq_some_iff.1 cHB4).1 (by have:=HLO2.out;simp;omega)).trans cHB4
 have cr6:=(hf6.block r (Array.getElem?_eq_some_iff.1 cHB2).1 (by have:=HLO2.out;simp;omega)).trans cHB2
 have ff6:=hf6.mono (T:=[r,ib,ob]) (by simp)
 clear hk6 hf6
 obtain⟨o0,o1,o2,o3,o4,o5,o6,o7,o8,o9,o10,o11,o12,o13,o14,ofz⟩:=blk15 co6
 have of0:=ofz 0
 obtain⟨w7,hw7⟩:∃W,(w6).setCell ⟨ob,0,none⟩ (.int .i64 E)=W:=⟨_,rfl⟩
 have co7:w7.heap[ob]? =some (.cells #[.int .i64 E,.int .u64 0,.int .u64 0,.int .i64 0,.int .i64 0,.int .i64 0,.int .u64 0,.int .u64 0,.int .u64 0,.int .u64 0,.int .u64 0,.int .i64 0,.int .i64 0,.bool false,.slice none 0 0] 49 (0,0)):=by rw[←hw7];simpa using(Go.Joins.block_setCell (i:=0) co6 (.int .i64 E))
 have f7:Fr [ob] w6 w7:=by rw[←hw7];exact(fr_setCell (S:=[ob]) _ ⟨ob,0,none⟩ (.int .i64 E) (by simp))
 have ci7:=(f7.block ib (Array.getElem?_eq_some_iff.1 ci6).1 (by have:=HLO2.out;simp;omega)).trans ci6
 have cr7:=(f7.block r (Array.getElem?_eq_some_iff.1 cr6).1 (by have:=HLO2.out;simp;omega)).trans cr6
 have ff7:=ff6.trans (f7.mono (T:=[r,ib,ob]) (by simp))
 clear f7 ofz
 have HF7:=hid ff7
 have CO7:=hid co7
 have CI7:=hid ci7
 have CR7:=hid cr7
 clear ff7 ff6 co6 ci6 cr6 cHB2 cHB3 cHB4 ci7 cr7 co7
 go_wp2_with (first|(refine wpList_store_row rfl 79 (.tmp 5) (.tmp 64) rfl ib #[vU id,.int .i64 la,.int .i64 st,.int .i64 ct,vU du,vU tk,vU tu,vU sg,vU ps,.int .i64 sz] rfl rfl 79 _ CHB3.out (by kernel_rfl) rfl (by simp[Value.oneCell']) ?_)|(refine wpList_load_row rfl 79 (.tmp 5) rfl ib rfl 79 #[vU id,.int .i64 la,.int .i64 st,.int .i64 ct,vU du,vU tk,vU tu,vU sg,vU ps,.int .i64 sz] (0,0) _ CI7.out Tryz.underlying79 rfl (by kernel_rfl) ?_))
 clear t0 t1 t2 t3 t4 t5 t6 t7 t8
 refine(item_any ⟨id,la,st,ct,du,tk,tu,sg,ps,sz⟩ _).mono ?_
 rintro e w8 ⟨rfl,hx8⟩
 have co8:=hx8.obj CO7.out
 have cr8:=hx8.obj CR7.out
 have HF8:Hid (Fr [r,ib,ob] w5 w8):=hid (HF7.out.trans (Ext.fr hx8))
 obtain⟨w9,hw9⟩:∃W,w8.setCells ob 2 [vU id,.int .i64 la,.int .i64 st,.int .i64 ct,vU du,vU tk,vU tu,vU sg,vU ps,.int .i64 sz]=W:=⟨_,rfl⟩
 have hk9:=setCells_blk [vU id,.int .i64 la,.int .i64 st,.int .i64 ct,vU du,vU tk,vU tu,vU sg,vU ps,.int .i64 sz] w8 ob 2 co8
 have hf9:=setCells_fr [vU id,.int .i64 la,.int .i64 st,.int .i64 ct,vU du,vU tk,vU tu,vU sg,vU ps,.int .i64 sz] w8 ob 2
 have HTH:Hid (w8.there ob 2 10):=hid (there_of co8 (by simp))
 rw[hw9] at hk9 hf9
 have co9:w9.heap[ob]? =some (anO {an0 with it:=⟨id,la,st,ct,du,tk,tu,sg,ps,sz⟩,e:=E} (.slice none 0 0)):=by rw[hk9];first|(simp[setA];done)|(simp[setA,an0,it0];done)
 have cr9:=(hf9.block r (Array.getElem?_eq_some_iff.1 cr8).1 (by have:=HLO2.out;simp;omega)).trans cr8
 have ff9:=HF8.out.trans (hf9.mono (T:=[r,ib,ob]) (by simp))
 have HKA:Hid ((w9.setRow r #[.int .i64 E,.int .u64 0,vU id,.int .i64 la,.int .i64 st,.int .i64 ct,vU du,vU tk,vU tu,vU sg,vU ps,.int .i64 sz,.int .i64 0,.bool false,.slice none 0 0]).heap[r]? =some (anO {an0 with it:=⟨id,la,st,ct,du,tk,tu,sg,ps,sz⟩,e:=E} (.slice none 0 0))):=hid (by rw[setRow_heap _ _ _ _ _ _ cr9];first|rfl|(simp[an0,it0];done))
 have HFA:=hid (ff9.trans ((setRow_fr w9 r #[.int .i64 E,.int .u64 0,vU id,.int .i64 la,.int .i64 st,.int .i64 ct,vU du,vU tk,vU tu,vU sg,vU ps,.int .i64 sz,.int .i64 0,.bool false,.slice none 0 0]).mono (T:=[r,ib,ob]) (by simp)))
 have CO9:Hid (w9.heap[ob]? =some (.cells #[.int .i64 E,.int .u64 0,vU id,.int .i64 la,.int .i64 st,.int .i64 ct,vU du,vU tk,vU tu,vU sg,vU ps,.int .i64 sz,.int .i64 0,.bool false,.slice none 0 0] 49 (0,0))):=hid (by rw[co9];first|rfl|(simp[an0,it0];done))
 have CR9:=hid cr9
 clear hk9 hf9 co8 cr8 co9 cr9 ff9 hx8
 go_wp2_with (first|(refine wpList_store_mid rfl 46 (.tmp 133) (.tmp 132) rfl ob 2 #[vU id,.int .i64 la,.int .i64 st,.int .i64 ct,vU du,vU tk,vU tu,vU sg,vU ps,.int .i64 sz] rfl rfl HTH.out (by kernel_rfl) (by simp[Value.oneCell']) ?_;rw[show World.setCells w8 ob 2 (Array.toList #[vU id,.int .i64 la,.int .i64 st,.int .i64 ct,vU du,vU tk,vU tu,vU sg,vU ps,.int .i64 sz])=w9 from hw9])|(refine wpList_load_row rfl 49 (.tmp 6) rfl ob rfl 49 #[.int .i64 E,.int .u64 0,vU id,.int .i64 la,.int .i64 st,.int .i64 ct,vU du,vU tk,vU tu,vU sg,vU ps,.int .i64 sz,.int .i64 0,.bool false,.slice none 0 0] (0,0) _ CO9.out Tryz.underlying49 rfl (by kernel_rfl) ?_)|(refine wpList_store_row rfl 49 (.tmp 4) (.tmp 134) rfl r #[.int .i64 E,.int .u64 0,vU id,.int .i64 la,.int .i64 st,.int .i64 ct,vU du,vU tk,vU tu,vU sg,vU ps,.int .i64 sz,.int .i64 0,.bool false,.slice none 0 0] rfl rfl 49 _ CR9.out (by kernel_rfl) rfl (by simp[Value.oneCell']) ?_))
 refine bodyPost_ret (do_results _ _ r {an0 with it:=⟨id,la,st,ct,du,tk,tu,sg,ps,sz⟩,e:=E} (.slice none 0 0) rfl HKA.out) rfl ?_
 rw[←HR2.out]
 exact⟨⟨none,0,rfl,World.ownsRow_nil _ _ _ _⟩,do_fin H0.out HE.out HS.out HFA.out (fun b hb=>by have:=HLO2.out;simp only[List.mem_cons,List.not_mem_nil,or_false] at hb;omega)⟩
end Go.Proofs.YtcfgafododiioaaGreatDoor
