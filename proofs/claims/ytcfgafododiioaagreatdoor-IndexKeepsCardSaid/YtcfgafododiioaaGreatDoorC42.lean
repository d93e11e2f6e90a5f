/- Texts of a claim, side by side. -/
import Derived.Test.YtcfgafododiioaaGreatDoorC39
import Derived.Test.YtcfgafododiioaaGreatDoorC40
import Derived.Test.YtcfgafododiioaaGreatDoorC41
set_option linter.unusedSimpArgs false
set_option linter.unusedVariables false
set_option maxRecDepth 100000
namespace Go.Proofs.YtcfgafododiioaaGreatDoor
open Go Go.RowKit Go.Tum Go.ChangeMaps Go.Sort
open Go.ParB (upd Lof)
open Go.ParE (putS slotsR slots Closed)
set_option maxHeartbeats 4000000 in
theorem do_act7 {B N:Nat} {w:World} {p:Nat} {x:XP} {q:QR} (a:Ai) (h7:a.dn=7) (h:IX B w p x q) (hB:B≤w.heap.size) (hq:WI N q) (hN:N≤5000000000000000000) (ht:TB w) (hn:a.name.length≤100000) (hm: -9223372036854775808≤a.many∧a.many≤9223372036854775807):
 Calls Tryz.prog 19 #[pv p,aiV a] w fun e w'=>DoI B w p x (actI q a) e w':=by
 obtain⟨R,hR⟩:∃R,actI q a=R:=⟨_,rfl⟩
 rw[hR]
 obtain⟨k,hk⟩:∃k,kindI a=k:=⟨_,rfl⟩
 have hRk:actB q a k=R:=by rw[←hR,←hk];rfl
 obtain⟨dn,lane,many,aid,an,nm,asg,aps,asz⟩:=a
 obtain⟨w1,hw1⟩:∃W,w.alloc (.cells #[.int .i64 dn,.int .i64 lane,.int .i64 many,vU aid,vU an,vN nm,vU asg,vU aps,.int .i64 asz] 40 (0,0))=W:=⟨_,rfl⟩
 obtain⟨w2,hw2⟩:∃W,w1.alloc zAn=W:=⟨_,rfl⟩
 obtain⟨w3,hw3⟩:∃W,w2.alloc (.cells #[.int .u64 0,.int .i64 0,.int .i64 0,.int .i64 0,.int .u64 0,.int .u64 0,.int .u64 0,.int .u64 0,.int .u64 0,.int .i64 0] 79 (0,0))=W:=⟨_,rfl⟩
 obtain⟨HX,HE,HB,HT,HB2,HB3,HB4,HLO,t0,t1,t2,t3,t4,t5,t6,t7,t8⟩:=do_head h hB ht hw1 hw2 hw3
 have H0:=hid h
 have HQ:=hid hq
 have HN:=hid hN
 have HNM:=hid hn
 have HMN:=hid hm
 have HRK:=hid hRk
 obtain⟨g0,hg0⟩:∃g,w.heap.size=g:=⟨_,rfl⟩
 clear h hB hq hN ht hn hm hR hRk hg0
 try dsimp only[kindI] at hk
 dsimp only at h7
 subst h7
 go_enter Tryz.func19,Tryz.ntmps19
 have hke:k= .a7:=by rw[←hk];simp
 subst hke
 clear hk
 have hR2:=HRK.out
 rw[actB7] at hR2
 have hcall:=xpurge_any aid HX.out HB.out HQ.out.wq
 obtain⟨E,hE⟩:∃T,(deadQ q aid 5).1=T:=⟨_,rfl⟩
 try dsimp only at hR2
 rw[hE] at hcall hR2
 clear hE
 have HCALL:=hid hcall
 have HR2:=hid hR2
 clear hcall hR2 HRK
 go_wp2_with fail
 refine HCALL.out.mono ?_
 rintro e w5 ⟨rfl,hs⟩
 obtain⟨x5,i5,f5,n5⟩:=hs
 have hoff:∀b,w.heap.size≤b→b∉x.blk p:=fun b hb hm=>by have:=(H0.out.blk_lo b hm).2;omega
 have cHB2:=(f5.block w1.heap.size (by have:=HLO.out;omega) (hoff _ (by have:=HLO.out;omega))).trans HB2.out
 have cHB3:=(f5.block w2.heap.size (by have:=HLO.out;omega) (hoff _ (by have:=HLO.out;omega))).trans HB3.out
 have cHB4:=(f5.block w3.heap.size (by have:=HLO.out;omega) (hoff _ (by have:=HLO.out;omega))).trans HB4.out
 have HS:Hid (XStp B (w3.alloc zAn) p x _ w5):=hid ⟨x5,i5,f5,n5⟩
 clear f5 n5 hoff i5
 obtain⟨r,hr⟩:∃b,w1.heap.size=b:=⟨_,rfl⟩
 obtain⟨ib,hib⟩:∃b,w2.heap.size=b:=⟨_,rfl⟩
 obtain⟨ob,hob⟩:∃b,w3.heap.size=b:=⟨_,rfl⟩
 have HLO2:Hid (w.heap.size≤r∧r<ib∧ib<ob∧ob<(w3.alloc zAn).heap.size):=hid (by have:=HLO.out;omega)
 rw[hr] at cHB2
 rw[hib] at cHB3
 rw[hob] at cHB4
 try rw[hr]
 try rw[hib]
 try rw[hob]
 clear hr hib hob hw1 hw2 hw3
 have a0:=blk15 cHB4
 obtain⟨o0,o1,o2,o3,o4,o5,o6,o7,o8,o9,o10,o11,o12,o13,o14,ofz⟩:=a0
 have of0:=ofz 0
 have ci6:w5.heap[ib]? =some (.cells #[vU it0.id,.int .i64 it0.lane,.int .i64 it0.st,.int .i64 it0.ct,vU it0.due,vU it0.tok,vU it0.turn,vU it0.seg,vU it0.pos,.int .i64 it0.size] 79 (0,0)):=cHB3
 have co6:=cHB4
 have cr6:=cHB2
 obtain⟨w6,hw6⟩:∃W,w5=W:=⟨_,rfl⟩
 have ff6:Fr [r,ib,ob] w5 w6:=by rw[←hw6];exact Fr.refl _ _
 rw[hw6] at ci6 co6 cr6
 subst hw6
 obtain⟨o0,o1,o2,o3,o4,o5,o6,o7,o8,o9,o10,o11,o12,o13,o14,ofz⟩:=blk15 co6
 have of0:=ofz 0
 obtain⟨w7,hw7⟩:∃W,(w5).setCell ⟨ob,0,none⟩ (.int .i64 E)=W:=⟨_,rfl⟩
 have co7:w7.heap[ob]? =some (.cells #[.int .i64 E,.int .u64 0,.int .u64 0,.int .i64 0,.int .i64 0,.int .i64 0,.int .u64 0,.int .u64 0,.int .u64 0,.int .u64 0,.int .u64 0,.int .i64 0,.int .i64 0,.bool false,.slice none 0 0] 49 (0,0)):=by rw[←hw7];simpa using(Go.Joins.block_setCell (i:=0) co6 (.int .i64 E))
 have f7:Fr [ob] w5 w7:=by rw[←hw7];exact(fr_setCell (S:=[ob]) _ ⟨ob,0,none⟩ (.int .i64 E) (by simp))
 have ci7:=(f7.block ib (Array.getElem?_eq_some_iff.1 ci6).1 (by have:=HLO2.out;simp;omega)).trans ci6
 have cr7:=(f7.block r (Array.getElem?_eq_some_iff.1 cr6).1 (by have:=HLO2.out;simp;omega)).trans cr6
 have ff7:=ff6.trans (f7.mono (T:=[r,ib,ob]) (by simp))
 clear f7 ofz
 have HF7:=hid ff7
 have CO7:=hid co7
 have CI7:=hid ci7
 have CR7:=hid cr7
 clear ff7 ff6 co6 ci6 cr6 cHB2 cHB3 cHB4 ci7 cr7 co7
 go_wp2_with (first|(refine wpList_load_row rfl 79 (.tmp 5) rfl ib rfl 79 #[vU it0.id,.int .i64 it0.lane,.int .i64 it0.st,.int .i64 it0.ct,vU it0.due,vU it0.tok,vU it0.turn,vU it0.seg,vU it0.pos,.int .i64 it0.size] (0,0) _ CI7.out Tryz.underlying79 rfl (by kernel_rfl) ?_))
 clear t0 t1 t2 t3 t4 t5 t6 t7 t8
 refine(item_any it0 _).mono ?_
 rintro e w8 ⟨rfl,hx8⟩
 have co8:=hx8.obj CO7.out
 have cr8:=hx8.obj CR7.out
 have HF8:Hid (Fr [r,ib,ob] w5 w8):=hid (HF7.out.trans (Ext.fr hx8))
 obtain⟨w9,hw9⟩:∃W,w8.setCells ob 2 [vU it0.id,.int .i64 it0.lane,.int .i64 it0.st,.int .i64 it0.ct,vU it0.due,vU it0.tok,vU it0.turn,vU it0.seg,vU it0.pos,.int .i64 it0.size]=W:=⟨_,rfl⟩
 have hk9:=setCells_blk [vU it0.id,.int .i64 it0.lane,.int .i64 it0.st,.int .i64 it0.ct,vU it0.due,vU it0.tok,vU it0.turn,vU it0.seg,vU it0.pos,.int .i64 it0.size] w8 ob 2 co8
 have hf9:=setCells_fr [vU it0.id,.int .i64 it0.lane,.int .i64 it0.st,.int .i64 it0.ct,vU it0.due,vU it0.tok,vU it0.turn,vU it0.seg,vU it0.pos,.int .i64 it0.size] w8 ob 2
 have HTH:Hid (w8.there ob 2 10):=hid (there_of co8 (by simp))
 rw[hw9] at hk9 hf9
 have co9:w9.heap[ob]? =some (anO {an0 with e:=E} (.slice none 0 0)):=by rw[hk9];first|(simp[setA];done)|(simp[setA,an0,it0];done)
 have cr9:=(hf9.block r (Array.getElem?_eq_some_iff.1 cr8).1 (by have:=HLO2.out;simp;omega)).trans cr8
 have ff9:=HF8.out.trans (hf9.mono (T:=[r,ib,ob]) (by simp))
 have HKA:Hid ((w9.setRow r #[.int .i64 E,.int .u64 0,vU it0.id,.int .i64 it0.lane,.int .i64 it0.st,.int .i64 it0.ct,vU it0.due,vU it0.tok,vU it0.turn,vU it0.seg,vU it0.pos,.int .i64 it0.size,.int .i64 0,.bool false,.slice none 0 0]).heap[r]? =some (anO {an0 with e:=E} (.slice none 0 0))):=hid (by rw[setRow_heap _ _ _ _ _ _ cr9];first|rfl|(simp[an0,it0];done))
 have HFA:=hid (ff9.trans ((setRow_fr w9 r #[.int .i64 E,.int .u64 0,vU it0.id,.int .i64 it0.lane,.int .i64 it0.st,.int .i64 it0.ct,vU it0.due,vU it0.tok,vU it0.turn,vU it0.seg,vU it0.pos,.int .i64 it0.size,.int .i64 0,.bool false,.slice none 0 0]).mono (T:=[r,ib,ob]) (by simp)))
 have CO9:Hid (w9.heap[ob]? =some (.cells #[.int .i64 E,.int .u64 0,vU it0.id,.int .i64 it0.lane,.int .i64 it0.st,.int .i64 it0.ct,vU it0.due,vU it0.tok,vU it0.turn,vU it0.seg,vU it0.pos,.int .i64 it0.size,.int .i64 0,.bool false,.slice none 0 0] 49 (0,0))):=hid (by rw[co9];first|rfl|(simp[an0,it0];done))
 have CR9:=hid cr9
 clear hk9 hf9 co8 cr8 co9 cr9 ff9 hx8
 go_wp2_with (first|(refine wpList_store_mid rfl 46 (.tmp 133) (.tmp 132) rfl ob 2 #[vU it0.id,.int .i64 it0.lane,.int .i64 it0.st,.int .i64 it0.ct,vU it0.due,vU it0.tok,vU it0.turn,vU it0.seg,vU it0.pos,.int .i64 it0.size] rfl rfl HTH.out (by kernel_rfl) (by simp[Value.oneCell']) ?_;rw[show World.setCells w8 ob 2 (Array.toList #[vU it0.id,.int .i64 it0.lane,.int .i64 it0.st,.int .i64 it0.ct,vU it0.due,vU it0.tok,vU it0.turn,vU it0.seg,vU it0.pos,.int .i64 it0.size])=w9 from hw9])|(refine wpList_load_row rfl 49 (.tmp 6) rfl ob rfl 49 #[.int .i64 E,.int .u64 0,vU it0.id,.int .i64 it0.lane,.int .i64 it0.st,.int .i64 it0.ct,vU it0.due,vU it0.tok,vU it0.turn,vU it0.seg,vU it0.pos,.int .i64 it0.size,.int .i64 0,.bool false,.slice none 0 0] (0,0) _ CO9.out Tryz.underlying49 rfl (by kernel_rfl) ?_)|(refine wpList_store_row rfl 49 (.tmp 4) (.tmp 134) rfl r #[.int .i64 E,.int .u64 0,vU it0.id,.int .i64 it0.lane,.int .i64 it0.st,.int .i64 it0.ct,vU it0.due,vU it0.tok,vU it0.turn,vU it0.seg,vU it0.pos,.int .i64 it0.size,.int .i64 0,.bool false,.slice none 0 0] rfl rfl 49 _ CR9.out (by kernel_rfl) rfl (by simp[Value.oneCell']) ?_))
 refine bodyPost_ret (do_results _ _ r {an0 with e:=E} (.slice none 0 0) rfl HKA.out) rfl ?_
 rw[←HR2.out]
 exact⟨⟨none,0,rfl,World.ownsRow_nil _ _ _ _⟩,do_fin H0.out HE.out HS.out HFA.out (fun b hb=>by have:=HLO2.out;simp only[List.mem_cons,List.not_mem_nil,or_false] at hb;omega)⟩
set_option maxHeartbeats 4000000 in
theorem do_act8 {B N:Nat} {w:World} {p:Nat} {x:XP} {q:QR} (a:Ai) (h8:a.dn=8) (h:IX B w p x q) (hB:B≤w.heap.size) (hq:WI N q) (hN:N≤5000000000000000000) (ht:TB w) (hn:a.name.length≤100000) (hm: -9223372036854775808≤a.many∧a.many≤9223372036854775807):
 Calls Tryz.prog 19 #[pv p,aiV a] w fun e w'=>DoI B w p x (actI q a) e w':=by
 obtain⟨R,hR⟩:∃R,actI q a=R:=⟨_,rfl⟩
 rw[hR]
 obtain⟨k,hk⟩:∃k,kindI a=k:=⟨_,rfl⟩
 have hRk:actB q a k=R:=by rw[←hR,←hk];rfl
 obtain⟨dn,lane,many,aid,an,nm,asg,aps,asz⟩:=a
 obtain⟨w1,hw1⟩:∃W,w.alloc (.cells #[.int .i64 dn,.int .i64 lane,.int .i64 many,vU aid,vU an,vN nm,vU asg,vU aps,.int .i64 asz] 40 (0,0))=W:=⟨_,rfl⟩
 obtain⟨w2,hw2⟩:∃W,w1.alloc zAn=W:=⟨_,rfl⟩
 obtain⟨w3,hw3⟩:∃W,w2.alloc (.cells #[.int .u64 0,.int .i64 0,.int .i64 0,.int .i64 0,.int .u64 0,.int .u64 0,.int .u64 0,.int .u64 0,.int .u64 0,.int .i64 0] 79 (0,0))=W:=⟨_,rfl⟩
 obtain⟨HX,HE,HB,HT,HB2,HB3,HB4,HLO,t0,t1,t2,t3,t4,t5,t6,t7,t8⟩:=do_head h hB ht hw1 hw2 hw3
 have H0:=hid h
 have HQ:=hid hq
 have HN:=hid hN
 have HNM:=hid hn
 have HMN:=hid hm
 have HRK:=hid hRk
 obtain⟨g0,hg0⟩:∃g,w.heap.size=g:=⟨_,rfl⟩
 clear h hB hq hN ht hn hm hR hRk hg0
 try dsimp only[kindI] at hk
 dsimp only at h8
 subst h8
 go_enter Tryz.func19,Tryz.ntmps19
 have hke:k= .a8:=by rw[←hk];simp
 subst hke
 clear hk
 have hR2:=HRK.out
 rw[actB8] at hR2
 have hcall:=seen_any nm many HMN.out.1 HMN.out.2 HX.out HB.out HQ.out.wd HT.out HNM.out
 obtain⟨S,hS⟩:∃T,(nextD q.dd nm many).1=T:=⟨_,rfl⟩
 obtain⟨E,hE⟩:∃T,(nextD q.dd nm many).2.1=T:=⟨_,rfl⟩
 try dsimp only at hR2
 rw[hS] at hcall hR2
 rw[hE] at hcall hR2
 clear hS hE
 have HCALL:=hid hcall
 have HR2:=hid hR2
 clear hcall hR2 HRK
 go_wp2_with fail
 refine HCALL.out.mono ?_
 rintro e w5 ⟨⟨v,rfl,ho⟩,hs⟩
 obtain⟨ao,cap,rfl⟩:=row_shape ho
 have HO:=hid ho
 clear ho
 obtain⟨x5,i5,f5,n5⟩:=hs
 have hoff:∀b,w.heap.size≤b→b∉x.blk p:=fun b hb hm=>by have:=(H0.out.blk_lo b hm).2;omega
 have cHB2:=(f5.block w1.heap.size (by have:=HLO.out;omega) (hoff _ (by have:=HLO.out;omega))).trans HB2.out
 have cHB3:=(f5.block w2.heap.size (by have:=HLO.out;omega) (hoff _ (by have:=HLO.out;omega))).trans HB3.out
 have cHB4:=(f5.block w3.heap.size (by have:=HLO.out;omega) (hoff _ (by have:=HLO.out;omega))).trans HB4.out
 have HS:Hid (XStp B (w3.alloc zAn) p x _ w5):=hid ⟨x5,i5,f5,n5⟩
 clear f5 n5 hoff i5
 obtain⟨r,hr⟩:∃b,w1.heap.size=b:=⟨_,rfl⟩
 obtain⟨ib,hib⟩:∃b,w2.heap.size=b:=⟨_,rfl⟩
 obtain⟨ob,hob⟩:∃b,w3.heap.size=b:=⟨_,rfl⟩
 have HLO2:Hid (w.heap.size≤r∧r<ib∧ib<ob∧ob<(w3.alloc zAn).heap.size):=hid (by have:=HLO.out;omega)
 rw[hr] at cHB2
 rw[hib] at cHB3
 rw[hob] at cHB4
 try rw[hr]
 try rw[hib]
 try rw[hob]
 clear hr hib hob hw1 hw2 hw3
 have a0:=blk15 cHB4
 obtain⟨o0,o1,o2,o3,o4,o5,o6,o7,o8,o9,o10,o11,o12,o13,o14,ofz⟩:=a0
 have of0:=ofz 0
 have of14:=ofz 14
 have ci6:w5.heap[ib]? =some (.cells #[vU it0.id,.int .i64 it0.lane,.int .i64 it0.st,.int .i64 it0.ct,vU it0.due,vU it0.tok,vU it0.turn,vU it0.seg,vU it0.pos,.int .i64 it0.size] 79 (0,0)):=cHB3
 have co6:=cHB4
 have cr6:=cHB2
 obtain⟨w6,hw6⟩:∃W,w5=W:=⟨_,rfl⟩
 have ff6:Fr [r,ib,ob] w5 w6:=by rw[←hw6];exact Fr.refl _ _
 rw[hw6] at ci6 co6 cr6
 subst hw6
 obtain⟨o0,o1,o2,o3,o4,o5,o6,o7,o8,o9,o10,o11,o12,o13,o14,ofz⟩:=blk15 co6
 have of0:=ofz 0
 have of14:=ofz 14
 obtain⟨w7,hw7⟩:∃W,((w5).setCell ⟨ob,14,none⟩ (.slice ao S.length cap)).setCell ⟨ob,0,none⟩ (.int .i64 E)=W:=⟨_,rfl⟩
 have co7:w7.heap[ob]? =some (.cells #[.int .i64 E,.int .u64 0,.int .u64 0,.int .i64 0,.int .i64 0,.int .i64 0,.int .u64 0,.int .u64 0,.int .u64 0,.int .u64 0,.int .u64 0,.int .i64 0,.int .i64 0,.bool false,.slice ao S.length cap] 49 (0,0)):=by rw[←hw7];simpa using(Go.Joins.block_setCell (i:=0) (Go.Joins.block_setCell (i:=14) co6 (.slice ao S.length cap)) (.int .i64 E))
 have f7:Fr [ob] w5 w7:=by rw[←hw7];exact((fr_setCell (S:=[ob]) _ ⟨ob,14,none⟩ (.slice ao S.length cap) (by simp))).trans (fr_setCell (S:=[ob]) _ ⟨ob,0,none⟩ (.int .i64 E) (by simp))
 have ci7:=(f7.block ib (Array.getElem?_eq_some_iff.1 ci6).1 (by have:=HLO2.out;simp;omega)).trans ci6
 have cr7:=(f7.block r (Array.getElem?_eq_some_iff.1 cr6).1 (by have:=HLO2.out;simp;omega)).trans cr6
 have ff7:=ff6.trans (f7.mono (T:=[r,ib,ob]) (by simp))
 clear f7 ofz
 have HF7:=hid ff7
 have CO7:=hid co7
 have CI7:=hid ci7
 have CR7:=hid cr7
 clear ff7 ff6 co6 ci6 cr6 cHB2 cHB3 cHB4 ci7 cr7 co7
 go_wp2_with (first|(refine wpList_load_row rfl 79 (.tmp 5) rfl ib rfl 79 #[vU it0.id,.int .i64 it0.lane,.int .i64 it0.st,.int .i64 it0.ct,vU it0.due,vU it0.tok,vU it0.turn,vU it0.seg,vU it0.pos,.int .i64 it0.size] (0,0) _ CI7.out Tryz.underlying79 rfl (by kernel_rfl) ?_))
 clear t0 t1 t2 t3 t4 t5 t6 t7 t8
 refine(item_any it0 _).mono ?_
 rintro e w8 ⟨rfl,hx8⟩
 have co8:=hx8.obj CO7.out
 have cr8:=hx8.obj CR7.out
 have HF8:Hid (Fr [r,ib,ob] w5 w8):=hid (HF7.out.trans (Ext.fr hx8))
 obtain⟨w9,hw9⟩:∃W,w8.setCells ob 2 [vU it0.id,.int .i64 it0.lane,.int .i64 it0.st,.int .i64 it0.ct,vU it0.due,vU it0.tok,vU it0.turn,vU it0.seg,vU it0.pos,.int .i64 it0.size]=W:=⟨_,rfl⟩
 have hk9:=setCells_blk [vU it0.id,.int .i64 it0.lane,.int .i64 it0.st,.int .i64 it0.ct,vU it0.due,vU it0.tok,vU it0.turn,vU it0.seg,vU it0.pos,.int .i64 it0.size] w8 ob 2 co8
 have hf9:=setCells_fr [vU it0.id,.int .i64 it0.lane,.int .i64 it0.st,.int .i64 it0.ct,vU it0.due,vU it0.tok,vU it0.turn,vU it0.seg,vU it0.pos,.int .i64 it0.size] w8 ob 2
 have HTH:Hid (w8.there ob 2 10):=hid (there_of co8 (by simp))
 rw[hw9] at hk9 hf9
 have co9:w9.heap[ob]? =some (anO {an0 with ids:=S,e:=E} (.slice ao S.length cap)):=by rw[hk9];first|(simp[setA];done)|(simp[setA,an0,it0];done)
 have cr9:=(hf9.block r (Array.getElem?_eq_some_iff.1 cr8).1 (by have:=HLO2.out;simp;omega)).trans cr8
 have ff9:=HF8.out.trans (hf9.mono (T:=[r,ib,ob]) (by simp))
 have HKA:Hid ((w9.setRow r #[.int .i64 E,.int .u64 0,vU it0.id,.int .i64 it0.lane,.int .i64 it0.st,.int .i64 it0.ct,vU it0.due,vU it0.tok,vU it0.turn,vU it0.seg,vU it0.pos,.int .i64 it0.size,.int .i64 0,.bool false,.slice ao S.length cap]).heap[r]? =some (anO {an0 with ids:=S,e:=E} (.slice ao S.length cap))):=hid (by rw[setRow_heap _ _ _ _ _ _ cr9];first|rfl|(simp[an0,it0];done))
 have HFA:=hid (ff9.trans ((setRow_fr w9 r #[.int .i64 E,.int .u64 0,vU it0.id,.int .i64 it0.lane,.int .i64 it0.st,.int .i64 it0.ct,vU it0.due,vU it0.tok,vU it0.turn,vU it0.seg,vU it0.pos,.int .i64 it0.size,.int .i64 0,.bool false,.slice ao S.length cap]).mono (T:=[r,ib,ob]) (by simp)))
 have CO9:Hid (w9.heap[ob]? =some (.cells #[.int .i64 E,.int .u64 0,vU it0.id,.int .i64 it0.lane,.int .i64 it0.st,.int .i64 it0.ct,vU it0.due,vU it0.tok,vU it0.turn,vU it0.seg,vU it0.pos,.int .i64 it0.size,.int .i64 0,.bool false,.slice ao S.length cap] 49 (0,0))):=hid (by rw[co9];first|rfl|(simp[an0,it0];done))
 have CR9:=hid cr9
 clear hk9 hf9 co8 cr8 co9 cr9 ff9 hx8
 go_wp2_with (first|(refine wpList_store_mid rfl 46 (.tmp 133) (.tmp 132) rfl ob 2 #[vU it0.id,.int .i64 it0.lane,.int .i64 it0.st,.int .i64 it0.ct,vU it0.due,vU it0.tok,vU it0.turn,vU it0.seg,vU it0.pos,.int .i64 it0.size] rfl rfl HTH.out (by kernel_rfl) (by simp[Value.oneCell']) ?_;rw[show World.setCells w8 ob 2 (Array.toList #[vU it0.id,.int .i64 it0.lane,.int .i64 it0.st,.int .i64 it0.ct,vU it0.due,vU it0.tok,vU it0.turn,vU it0.seg,vU it0.pos,.int .i64 it0.size])=w9 from hw9])|(refine wpList_load_row rfl 49 (.tmp 6) rfl ob rfl 49 #[.int .i64 E,.int .u64 0,vU it0.id,.int .i64 it0.lane,.int .i64 it0.st,.int .i64 it0.ct,vU it0.due,vU it0.tok,vU it0.turn,vU it0.seg,vU it0.pos,.int .i64 it0.size,.int .i64 0,.bool false,.slice ao S.length cap] (0,0) _ CO9.out Tryz.underlying49 rfl (by kernel_rfl) ?_)|(refine wpList_store_row rfl 49 (.tmp 4) (.tmp 134) rfl r #[.int .i64 E,.int .u64 0,vU it0.id,.int .i64 it0.lane,.int .i64 it0.st,.int .i64 it0.ct,vU it0.due,vU it0.tok,vU it0.turn,vU it0.seg,vU it0.pos,.int .i64 it0.size,.int .i64 0,.bool false,.slice ao S.length cap] rfl rfl 49 _ CR9.out (by kernel_rfl) rfl (by simp[Value.oneCell']) ?_))
 refine bodyPost_ret (do_results _ _ r {an0 with ids:=S,e:=E} (.slice ao S.length cap) rfl HKA.out) rfl ?_
 rw[←HR2.out]
 refine⟨⟨ao,cap,rfl,?_⟩,do_fin H0.out HE.out HS.out HFA.out (fun b hb=>by have:=HLO2.out;simp only[List.mem_cons,List.not_mem_nil,or_false] at hb;omega)⟩
 refine own_lower (ownsRow_fr HO.out HFA.out fun a ha hm=> ?_) HE.out.size
 have h1:=row_lo HO.out a ha
 have h2:=HLO2.out
 simp at hm
 omega
set_option maxHeartbeats 4000000 in
theorem do_act9 {B N:Nat} {w:World} {p:Nat} {x:XP} {q:QR} (a:Ai) (h9:a.dn=9) (h:IX B w p x q) (hB:B≤w.heap.size) (hq:WI N q) (hN:N≤5000000000000000000) (ht:TB w) (hn:a.name.length≤100000) (hm: -9223372036854775808≤a.many∧a.many≤9223372036854775807):
 Calls Tryz.prog 19 #[pv p,aiV a] w fun e w'=>DoI B w p x (actI q a) e w':=by
 obtain⟨R,hR⟩:∃R,actI q a=R:=⟨_,rfl⟩
 rw[hR]
 obtain⟨k,hk⟩:∃k,kindI a=k:=⟨_,rfl⟩
 have hRk:actB q a k=R:=by rw[←hR,←hk];rfl
 obtain⟨dn,lane,many,aid,an,nm,asg,aps,asz⟩:=a
 obtain⟨w1,hw1⟩:∃W,w.alloc (.cells #[.int .i64 dn,.int .i64 lane,.int .i64 many,vU aid,vU an,vN nm,vU asg,vU aps,.int .i64 asz] 40 (0,0))=W:=⟨_,rfl⟩
 obtain⟨w2,hw2⟩:∃W,w1.alloc zAn=W:=⟨_,rfl⟩
 obtain⟨w3,hw3⟩:∃W,w2.alloc (.cells #[.int .u64 0,.int .i64 0,.int .i64 0,.int .i64 0,.int .u64 0,.int .u64 0,.int .u64 0,.int .u64 0,.int .u64 0,.int .i64 0] 79 (0,0))=W:=⟨_,rfl⟩
 obtain⟨HX,HE,HB,HT,HB2,HB3,HB4,HLO,t0,t1,t2,t3,t4,t5,t6,t7,t8⟩:=do_head h hB ht hw1 hw2 hw3
 have H0:=hid h
 have HQ:=hid hq
 have HN:=hid hN
 have HNM:=hid hn
 have HMN:=hid hm
 have HRK:=hid hRk
 obtain⟨g0,hg0⟩:∃g,w.heap.size=g:=⟨_,rfl⟩
 clear h hB hq hN ht hn hm hR hRk hg0
 try dsimp only[kindI] at hk
 dsimp only at h9
 subst h9
 go_enter Tryz.func19,Tryz.ntmps19
 have hke:k= .a9:=by rw[←hk];simp
 subst hke
 clear hk
 have hR2:=HRK.out
 rw[actB9] at hR2
 have hcall:=reset_any11 HX.out HB.out HQ.out.wq (by have:=HQ.out.lo.tu;have:=HN.out;omega)
 try dsimp only at hR2
 skip
 have HCALL:=hid hcall
 have HR2:=hid hR2
 clear hcall hR2 HRK
 go_wp2_with fail
 refine HCALL.out.mono ?_
 rintro e w5 ⟨⟨u,rfl⟩,hs⟩
 obtain⟨x5,i5,f5,n5⟩:=hs
 have hoff:∀b,w.heap.size≤b→b∉x.blk p:=fun b hb hm=>by have:=(H0.out.blk_lo b hm).2;omega
 have cHB2:=(f5.block w1.heap.size (by have:=HLO.out;omega) (hoff _ (by have:=HLO.out;omega))).trans HB2.out
 have cHB3:=(f5.block w2.heap.size (by have:=HLO.out;omega) (hoff _ (by have:=HLO.out;omega))).trans HB3.out
 have cHB4:=(f5.block w3.heap.size (by have:=HLO.out;omega) (hoff _ (by have:=HLO.out;omega))).trans HB4.out
 have HS:Hid (XStp B (w3.alloc zAn) p x _ w5):=hid ⟨x5,i5,f5,n5⟩
 clear f5 n5 hoff i5
 obtain⟨r,hr⟩:∃b,w1.heap.size=b:=⟨_,rfl⟩
 obtain⟨ib,hib⟩:∃b,w2.heap.size=b:=⟨_,rfl⟩
 obtain⟨ob,hob⟩:∃b,w3.heap.size=b:=⟨_,rfl⟩
 have HLO2:Hid (w.heap.size≤r∧r<ib∧ib<ob∧ob<(w3.alloc zAn).heap.size):=hid (by have:=HLO.out;omega)
 rw[hr] at cHB2
 rw[hib] at cHB3
 rw[hob] at cHB4
 try rw[hr]
 try rw[hib]
 try rw[hob]
 clear hr hib hob hw1 hw2 hw3
 have a0:=blk15 cHB4
 obtain⟨o0,o1,o2,o3,o4,o5,o6,o7,o8,o9,o10,o11,o12,o13,o14,ofz⟩:=a0
 have ci6:w5.heap[ib]? =some (.cells #[vU it0.id,.int .i64 it0.lane,.int .i64 it0.st,.int .i64 it0.ct,vU it0.due,vU it0.tok,vU it0.turn,vU it0.seg,vU it0.pos,.int .i64 it0.size] 79 (0,0)):=cHB3
 have co6:=cHB4
 have cr6:=cHB2
 obtain⟨w6,hw6⟩:∃W,w5=W:=⟨_,rfl⟩
 have ff6:Fr [r,ib,ob] w5 w6:=by rw[←hw6];exact Fr.refl _ _
 rw[hw6] at ci6 co6 cr6
 subst hw6
 have co7:=co6
 have ci7:=ci6
 have cr7:=cr6
 have ff7:=ff6
 have HF7:=hid ff7
 have CO7:=hid co7
 have CI7:=hid ci7
 have CR7:=hid cr7
 clear ff7 ff6 co6 ci6 cr6 cHB2 cHB3 cHB4 ci7 cr7 co7
 go_wp2_with (first|(refine wpList_load_row rfl 79 (.tmp 5) rfl ib rfl 79 #[vU it0.id,.int .i64 it0.lane,.int .i64 it0.st,.int .i64 it0.ct,vU it0.due,vU it0.tok,vU it0.turn,vU it0.seg,vU it0.pos,.int .i64 it0.size] (0,0) _ CI7.out Tryz.underlying79 rfl (by kernel_rfl) ?_))
 clear t0 t1 t2 t3 t4 t5 t6 t7 t8
 refine(item_any it0 _).mono ?_
 rintro e w8 ⟨rfl,hx8⟩
 have co8:=hx8.obj CO7.out
 have cr8:=hx8.obj CR7.out
 have HF8:Hid (Fr [r,ib,ob] w5 w8):=hid (HF7.out.trans (Ext.fr hx8))
 obtain⟨w9,hw9⟩:∃W,w8.setCells ob 2 [vU it0.id,.int .i64 it0.lane,.int .i64 it0.st,.int .i64 it0.ct,vU it0.due,vU it0.tok,vU it0.turn,vU it0.seg,vU it0.pos,.int .i64 it0.size]=W:=⟨_,rfl⟩
 have hk9:=setCells_blk [vU it0.id,.int .i64 it0.lane,.int .i64 it0.st,.int .i64 it0.ct,vU it0.due,vU it0.tok,vU it0.turn,vU it0.seg,vU it0.pos,.int .i64 it0.size] w8 ob 2 co8
 have hf9:=setCells_fr [vU it0.id,.int .i64 it0.lane,.int .i64 it0.st,.int .i64 it0.ct,vU it0.due,vU it0.tok,vU it0.turn,vU it0.seg,vU it0.pos,.int .i64 it0.size] w8 ob 2
 have HTH:Hid (w8.there ob 2 10):=hid (there_of co8 (by simp))
 rw[hw9] at hk9 hf9
 have co9:w9.heap[ob]? =some (anO an0 (.slice none 0 0)):=by rw[hk9];first|(simp[setA];done)|(simp[setA,an0,it0];done)
 have cr9:=(hf9.block r (Array.getElem?_eq_some_iff.1 cr8).1 (by have:=HLO2.out;simp;omega)).trans cr8
 have ff9:=HF8.out.trans (hf9.mono (T:=[r,ib,ob]) (by simp))
 have HKA:Hid ((w9.setRow r #[.int .i64 0,.int .u64 0,vU it0.id,.int .i64 it0.lane,.int .i64 it0.st,.int .i64 it0.ct,vU it0.due,vU it0.tok,vU it0.turn,vU it0.seg,vU it0.pos,.int .i64 it0.size,.int .i64 0,.bool false,.slice none 0 0]).heap[r]? =some (anO an0 (.slice none 0 0))):=hid (by rw[setRow_heap _ _ _ _ _ _ cr9];first|rfl|(simp[an0,it0];done))
 have HFA:=hid (ff9.trans ((setRow_fr w9 r #[.int .i64 0,.int .u64 0,vU it0.id,.int .i64 it0.lane,.int .i64 it0.st,.int .i64 it0.ct,vU it0.due,vU it0.tok,vU it0.turn,vU it0.seg,vU it0.pos,.int .i64 it0.size,.int .i64 0,.bool false,.slice none 0 0]).mono (T:=[r,ib,ob]) (by simp)))
 have CO9:Hid (w9.heap[ob]? =some (.cells #[.int .i64 0,.int .u64 0,vU it0.id,.int .i64 it0.lane,.int .i64 it0.st,.int .i64 it0.ct,vU it0.due,vU it0.tok,vU it0.turn,vU it0.seg,vU it0.pos,.int .i64 it0.size,.int .i64 0,.bool false,.slice none 0 0] 49 (0,0))):=hid (by rw[co9];first|rfl|(simp[an0,it0];done))
 have CR9:=hid cr9
 clear hk9 hf9 co8 cr8 co9 cr9 ff9 hx8
 go_wp2_with (first|(refine wpList_store_mid rfl 46 (.tmp 133) (.tmp 132) rfl ob 2 #[vU it0.id,.int .i64 it0.lane,.int .i64 it0.st,.int .i64 it0.ct,vU it0.due,vU it0.tok,vU it0.turn,vU it0.seg,vU it0.pos,.int .i64 it0.size] rfl rfl HTH.out (by kernel_rfl) (by simp[Value.oneCell']) ?_;rw[show World.setCells w8 ob 2 (Array.toList #[vU it0.id,.int .i64 it0.lane,.int .i64 it0.st,.int .i64 it0.ct,vU it0.due,vU it0.tok,vU it0.turn,vU it0.seg,vU it0.pos,.int .i64 it0.size])=w9 from hw9])|(refine wpList_load_row rfl 49 (.tmp 6) rfl ob rfl 49 #[.int .i64 0,.int .u64 0,vU it0.id,.int .i64 it0.lane,.int .i64 it0.st,.int .i64 it0.ct,vU it0.due,vU it0.tok,vU it0.turn,vU it0.seg,vU it0.pos,.int .i64 it0.size,.int .i64 0,.bool false,.slice none 0 0] (0,0) _ CO9.out Tryz.underlying49 rfl (by kernel_rfl) ?_)|(refine wpList_store_row rfl 49 (.tmp 4) (.tmp 134) rfl r #[.int .i64 0,.int .u64 0,vU it0.id,.int .i64 it0.lane,.int .i64 it0.st,.int .i64 it0.ct,vU it0.due,vU it0.tok,vU it0.turn,vU it0.seg,vU it0.pos,.int .i64 it0.size,.int .i64 0,.bool false,.slice none 0 0] rfl rfl 49 _ CR9.out (by kernel_rfl) rfl (by simp[Value.oneCell']) ?_))
 refine bodyPost_ret (do_results _ _ r an0 (.slice none 0 0) rfl HKA.out) rfl ?_
 rw[←HR2.out]
 exact⟨⟨none,0,rfl,World.ownsRow_nil _ _ _ _⟩,do_fin H0.out HE.out HS.out HFA.out (fun b hb=>by have:=HLO2.out;simp only[List.mem_cons,List.not_mem_nil,or_false] at hb;omega)⟩
end Go.Proofs.YtcfgafododiioaaGreatDoor
set_option maxRecDepth 100000
namespace Go.Proofs.YtcfgafododiioaaGreatDoor
open Go Go.RowKit Go.Tum Go.ChangeMaps Go.Sort
open Go.ParB (upd Lof)
open Go.ParE (putS slotsR slots Closed)
theorem do_any11 {B N:Nat} {w:World} {p:Nat} {x:XP} {q:QR} (a:Ai) (h:IX B w p x q) (hB:B≤w.heap.size) (hq:WI N q) (hN:N≤5000000000000000000) (ht:TB w) (hn:a.name.length≤100000) (hm: -9223372036854775808≤a.many∧a.many≤9223372036854775807):
 Calls Tryz.prog 19 #[pv p,aiV a] w fun e w'=>DoI B w p x (actI q a) e w':=by
 by_cases h0:a.dn=0
 · exact do_act0 a h0 h hB hq hN ht hn hm
 by_cases h1:a.dn=1
 · exact do_act1 a h1 h hB hq hN ht hn hm
 by_cases h2:a.dn=2
 · exact do_act2 a h2 h hB hq hN ht hn hm
 by_cases h3:a.dn=3
 · exact do_act3 a h3 h hB hq hN ht hn hm
 by_cases h4:a.dn=4
 · exact do_act4 a h4 h hB hq hN ht hn hm
 by_cases h5:a.dn=5
 · exact do_act5 a h5 h hB hq hN ht hn hm
 by_cases h6:a.dn=6
 · exact do_act6 a h6 h hB hq hN ht hn hm
 by_cases h7:a.dn=7
 · exact do_act7 a h7 h hB hq hN ht hn hm
 by_cases h8:a.dn=8
 · exact do_act8 a h8 h hB hq hN ht hn hm
 by_cases h9:a.dn=9
 · exact do_act9 a h9 h hB hq hN ht hn hm
 by_cases h10:a.dn=10
 · exact do_act10 a h10 h hB hq hN ht hn hm
 refine do_act11 a ?_ (by simpa using h0) (by simpa using h1) (by simpa using h2) (by simpa using h3) (by simpa using h4) (by simpa using h5) (by simpa using h6) (by simpa using h7) (by simpa using h8) (by simpa using h9) (by simpa using h10) h hB hq hN ht hn hm
 unfold kindI
 rw[if_neg h0,if_neg h1,if_neg h2,if_neg h3,if_neg h4,if_neg h5,if_neg h6,if_neg h7,if_neg h8,if_neg h9,if_neg h10]
end Go.Proofs.YtcfgafododiioaaGreatDoor
