/- Texts of a claim, side by side. -/
import Derived.Test.YtcfgafododiioaaGreatDoorC11
import Derived.Test.YtcfgafododiioaaGreatDoorC23
set_option linter.unusedSimpArgs false
set_option linter.unusedVariables false
set_option maxRecDepth 100000
namespace Go.Proofs.YtcfgafododiioaaGreatDoor
open Go Go.RowKit Go.Tum Go.ChangeMaps
open Go.ParB (upd Lof)
open Go.ParE (putS slotsR slots Closed)
def LeaA (W:World) (a b:Bool) (v:Value) (w':World):Prop:=Ext W w'∧(b=true→∃g,v=pv g∧w'.heap[g]? =some (.cells #[.int .i64 0,.int .i64 0,.int .u64 0,.int .u64 0] 77 (0,0))∧W.heap.size≤g)
def LeaF (W:World) (r:L) (v:Value) (w':World):Prop:=Ext W w'∧∃g,v=pv g∧w'.heap[g]? =some (lfO r)∧W.heap.size≤g
theorem LeaA.turn {W w w':World} {a a' b:Bool} {v:Value} (h:LeaA W a b v w) (k:Ext w w'):LeaA W a' b v w':=⟨h.1.trans k,fun hb=>by
 obtain⟨g,rfl,hg,hl⟩:=h.2 hb
 exact⟨g,rfl,k.obj hg,hl⟩⟩
theorem LeaA.make {W w:World} {a b:Bool} {v:Value} (h:LeaA W a b v w):LeaA W a true (pv w.heap.size) (w.alloc (.cells #[.int .i64 0,.int .i64 0,.int .u64 0,.int .u64 0] 77 (0,0))):=⟨h.1.trans (Ext.alloc _ _),fun _=>⟨w.heap.size,rfl,heap_alloc_new _ _,h.1.size⟩⟩
theorem le_results (tmps:Array Value) (w:World) (b:Nat) (z:It) (h4:tmps.getD 6 undef= .pointer (some ⟨b,0,none⟩)) (m:w.heap[b]? =some (itO z)):
 (results Tryz.f33 tmps).run Tryz.prog w= .ok (.tuple #[itV z,tmps.getD 7 undef]) w:=by
 have h4':tmps[6]?.getD undef= .pointer (some ⟨b,0,none⟩):=by simpa using h4
 obtain⟨m0,m1,m2,m3,m4,m5,m6,m7,m8,m9,-⟩:=blk10 m
 simp[results,Tryz.results33,go_sem,h4',m0,m1,m2,m3,m4,m5,m6,m7,m8,m9]
set_option maxHeartbeats 4000000 in
theorem lease_any11 {B:Nat} {w:World} {p:Nat} {x:XP} {q:QR} (lane:Int) (span:UInt64) (h:IX B w p x q) (hB:B≤w.heap.size) (hq:WQ q) (hb:q.leases.toNat<18446744073709551615):
 Calls Tryz.prog 33 #[pv p,.int .i64 lane,vU span] w fun e w'=>e= .returned (.tuple #[itV (leaseQ q lane span).1,.int .i64 (leaseQ q lane span).2.1])∧XStp B w p x (leaseQ q lane span).2.2 w':=by
 obtain⟨w1,hw1⟩:∃W,w.alloc zI=W:=⟨_,rfl⟩
 have e1:Ext w w1:=by rw[←hw1];exact Ext.alloc _ _
 have hb1:w1.heap[w.heap.size]? =some zI:=by rw[←hw1];exact heap_alloc_new _ _
 have HB0:=hid hB
 have HQ:=hid hq
 have HE1:=hid e1
 have HB1:=hid hb1
 have H1:=hid (h.ext e1)
 have HN0:=hid h.new_nin
 have HLB:=hid hb
 obtain⟨N0,hN0⟩:∃N,w.heap.size=N:=⟨_,rfl⟩
 have HSZ:=hid hN0
 rw[hN0] at HB1 HN0
 have HPL:Hid (p<w.heap.size):=hid (Array.getElem?_eq_some_iff.1 h.hd).1
 clear h hB hq e1 hb1 hb
 by_cases hs0:span=0
 · have g0:(((span.toNat:Nat):Int)==0)=true:=by rw[hs0];rfl
   have hR:leaseQ q lane span=(it0,1,q):=by unfold leaseQ;rw[if_pos hs0]
   rw[hR]
   have HRR:Hid ((it0,(1:Int),q)=(it0,(1:Int),q)):=hid rfl
   clear hs0 hR
   go_enter Tryz.func33,Tryz.ntmps33
   obtain⟨w6,hW6⟩:∃W,((((((((((w1).setCell ⟨N0,0,none⟩ (.int .u64 0)).setCell ⟨N0,1,none⟩ (.int .i64 0)).setCell ⟨N0,2,none⟩ (.int .i64 0)).setCell ⟨N0,3,none⟩ (.int .i64 0)).setCell ⟨N0,4,none⟩ (.int .u64 0)).setCell ⟨N0,5,none⟩ (.int .u64 0)).setCell ⟨N0,6,none⟩ (.int .u64 0)).setCell ⟨N0,7,none⟩ (.int .u64 0)).setCell ⟨N0,8,none⟩ (.int .u64 0)).setCell ⟨N0,9,none⟩ (.int .i64 0)=W:=⟨_,rfl⟩
   have hE6:setI w1 N0 it0=w6:=by rw[←hW6];rfl
   have hk6:=setI_blk (y:=it0) HB1.out it0
   have f6:=setI_fr w1 N0 it0
   rw[hE6] at hk6 f6
   have HK6:=hid hk6
   have HF6:=hid f6
   clear hE6 hk6 f6
   obtain⟨a0,a1,a2,a3,a4,a5,a6,a7,a8,a9,af⟩:=blk10 HB1.out
   have af0:=af 0
   have af1:=af 1
   have af2:=af 2
   have af3:=af 3
   have af4:=af 4
   have af5:=af 5
   have af6:=af 6
   have af7:=af 7
   have af8:=af 8
   have af9:=af 9
   clear af
   go_wp2
   refine bodyPost_ret (le_results _ w6 N0 it0 rfl HK6.out) rfl ?_
   first|rw[HRR.out]|skip
   exact⟨rfl,(XStp.same H1.out (Ext.refl _)).last HE1.out (by have:=HSZ.out;omega) HB1.out HN0.out HF6.out⟩
 have g0:(((span.toNat:Nat):Int)==0)=false:=by
  rw[beq_eq_false_iff_ne]
  intro e
  exact hs0 (UInt64.toNat_inj.1 (by rw[show(0:UInt64).toNat=0 from rfl];omega))
 have hpk:=peek_any lane H1.out HQ.out
 have hsome:=peekQ_some HQ.out lane
 have hR:leaseQ q lane span=if(peekQ q lane).2≠0 then(it0,(peekQ q lane).2,q) else if(leaseL (peekQ q lane).1.l q.now.toNat span.toNat (q.leases+1).toNat).2≠0 then(it0,(leaseL (peekQ q lane).1.l q.now.toNat span.toNat (q.leases+1).toNat).2,q)
  else(becI q (peekQ q lane).1 (leaseL (peekQ q lane).1.l q.now.toNat span.toNat (q.leases+1).toNat).1,0,becQ {q with leases:=q.leases+1} (peekQ q lane).1 (leaseL (peekQ q lane).1.l q.now.toNat span.toNat (q.leases+1).toNat).1):=by
  unfold leaseQ;rw[if_neg hs0]
 obtain⟨⟨⟨id,la,st,ct,du,tk,tu,sg,ps,sz⟩,pe⟩,hpq⟩:∃r,peekQ q lane=r:=⟨_,rfl⟩
 rw[hpq] at hpk hsome hR
 obtain⟨R,hR0⟩:∃R,leaseQ q lane span=R:=⟨_,rfl⟩
 rw[hR0] at hR⊢
 dsimp only at hpk hsome hR
 have HR:=hid hR
 have HPK:=hid hpk
 have HSM:=hid hsome
 clear hpk hsome hpq hR hR0 hs0
 go_enter Tryz.func33,Tryz.ntmps33
 go_wp2_with fail
 clear g0
 refine HPK.out.mono ?_
 rintro e w2 ⟨rfl,hx⟩
 obtain⟨w3,hw3⟩:∃W,w2.alloc (itO ⟨id,la,st,ct,du,tk,tu,sg,ps,sz⟩)=W:=⟨_,rfl⟩
 have e3:Ext w2 w3:=by rw[←hw3];exact Ext.alloc _ _
 have hb3:w3.heap[w2.heap.size]? =some (itO ⟨id,la,st,ct,du,tk,tu,sg,ps,sz⟩):=by rw[←hw3];exact heap_alloc_new _ _
 have HE3:=hid (HE1.out.trans (hx.trans e3))
 have H3:=hid (H1.out.ext (hx.trans e3))
 have HX3:=hid ((hx.trans e3).obj HB1.out)
 have HZ3:=hid hb3
 obtain⟨N1,hN1⟩:∃N,w2.heap.size=N:=⟨_,rfl⟩
 rw[hN1] at HZ3
 have HN1:Hid (w.heap.size≤N1):=hid (by have:=(HE1.out.trans hx).size;omega)
 clear hx e3 hb3 HPK
 by_cases hpe:pe=0
 case neg=>
  have hne:(pe !=(0:Int))=true:=by simpa using hpe
  have hRR:=HR.out
  rw[if_pos hpe] at hRR
  have HRR:=hid hRR
  clear hpe HSM hRR
  obtain⟨w6,hW6⟩:∃W,((((((((((w3).setCell ⟨N0,0,none⟩ (.int .u64 0)).setCell ⟨N0,1,none⟩ (.int .i64 0)).setCell ⟨N0,2,none⟩ (.int .i64 0)).setCell ⟨N0,3,none⟩ (.int .i64 0)).setCell ⟨N0,4,none⟩ (.int .u64 0)).setCell ⟨N0,5,none⟩ (.int .u64 0)).setCell ⟨N0,6,none⟩ (.int .u64 0)).setCell ⟨N0,7,none⟩ (.int .u64 0)).setCell ⟨N0,8,none⟩ (.int .u64 0)).setCell ⟨N0,9,none⟩ (.int .i64 0)=W:=⟨_,rfl⟩
  have hE6:setI w3 N0 it0=w6:=by rw[←hW6];rfl
  have hk6:=setI_blk (y:=it0) HX3.out it0
  have f6:=setI_fr w3 N0 it0
  rw[hE6] at hk6 f6
  have HK6:=hid hk6
  have HF6:=hid f6
  clear hE6 hk6 f6
  obtain⟨a0,a1,a2,a3,a4,a5,a6,a7,a8,a9,af⟩:=blk10 HX3.out
  have af0:=af 0
  have af1:=af 1
  have af2:=af 2
  have af3:=af 3
  have af4:=af 4
  have af5:=af 5
  have af6:=af 6
  have af7:=af 7
  have af8:=af 8
  have af9:=af 9
  clear af
  go_wp2
  refine bodyPost_ret (le_results _ w6 N0 it0 rfl HK6.out) rfl ?_
  first|rw[HRR.out]|skip
  exact⟨rfl,(XStp.same H3.out (Ext.refl _)).last HE3.out (by have:=HSZ.out;omega) HX3.out HN0.out HF6.out⟩
 subst hpe
 obtain⟨iz,hiz,hst⟩:=HSM.out rfl
 have hl8:0≤la∧la<8:=by
  have k1:=(HQ.out.it _ (look_in hiz)).ln
  have k2:=HQ.out.cf
  dsimp only at k1
  omega
 have HL:=hid hl8
 obtain⟨⟨⟨s,c,d,t⟩,er⟩,hr⟩:∃r,leaseL (It.l ⟨id,la,st,ct,du,tk,tu,sg,ps,sz⟩) q.now.toNat span.toNat (q.leases+1).toNat=r:=⟨_,rfl⟩
 have hu:U64 d∧U64 t:=by
  have h1:=q.now.toNat_lt
  have h2:=span.toNat_lt
  have h3:=(q.leases+1).toNat_lt
  unfold leaseL at hr
  repeat' split at hr
  all_goals
   simp only[Prod.mk.injEq,L.mk.injEq] at hr
   obtain⟨⟨-,-,rfl,rfl⟩,-⟩:=hr
  · exact⟨⟨Int.le_refl _,by decide⟩,⟨Int.le_refl _,by decide⟩⟩
  · exact⟨⟨Int.le_refl _,by decide⟩,⟨Int.le_refl _,by decide⟩⟩
  · exact⟨⟨Int.le_refl _,by decide⟩,⟨Int.le_refl _,by decide⟩⟩
  · rename_i h4
    unfold overP at h4
    exact⟨⟨by omega,by omega⟩,⟨by omega,by omega⟩⟩
 have HU:=hid hu
 have hc:=fun w=>lease_any (It.l ⟨id,la,st,ct,du,tk,tu,sg,ps,sz⟩) (q.now.toNat:Int) (span.toNat:Int) ((q.leases+1).toNat:Int) ⟨Int.natCast_nonneg _,by have:=q.now.toNat_lt;omega⟩ ⟨Int.natCast_nonneg _,by have:=span.toNat_lt;omega⟩ w
 rw[hr] at hc
 have HC:=hid hc
 have hRR:=HR.out
 rw[if_neg (by simp),hr] at hRR
 dsimp only at hRR
 have HRR:=hid hRR
 obtain⟨d0,d1,d2,d3,d4,d5,d6,d7,d8,d9,-⟩:=blk10 HZ3.out
 have D2:=hid d2
 have D3:=hid d3
 have D4:=hid d4
 have D5:=hid d5
 have C3:Hid (w3.cell? ⟨p,3,none⟩=some (vU q.now)):=hid (H3.out.cells 3 _ rfl)
 have C5:Hid (w3.cell? ⟨p,5,none⟩=some (vU q.leases)):=hid (H3.out.cells 5 _ rfl)
 obtain⟨TL,hTL⟩:∃t,q.leases+1=t:=⟨_,rfl⟩
 have hadd:=u64_add1 q.leases
 rw[hTL] at hadd hc
 have HADD:=hid hadd
 have HTL:=hid hTL
 rw[hTL] at HC
 clear hiz hst hl8 hr hu hc hRR d0 d1 d2 d3 d4 d5 d6 d7 d8 d9 hadd hTL
 go_wp2_with fail
 refine ParE.wp_region_e (l:=[_,_,_,_,_,_,_,_,_,_,_,_,_,_,_,_,_,_,_]) rfl (Rg.Yy 12 16 10 17 (LeaA w3) (LeaF w3 ⟨s,c,d,t⟩)) (ParC.VC [ParC.EQ (Value.pointer (some ⟨N1,2,none⟩)),ParC.EQ (lv (It.l ⟨id,la,st,ct,du,tk,tu,sg,ps,sz⟩)),ParC.EQ (pv p),ParC.EQ (pv p),ParC.EQ (Value.pointer (some ⟨p,3,none⟩)),ParC.EQ (vU q.now),ParC.EQ (vU span),ParC.EQ (pv p),ParC.EQ (pv p),ParC.EQ (Value.pointer (some ⟨p,5,none⟩)),ParC.EQ (vU q.leases),ParC.EQ (vU TL),ParC.EQ (tl (⟨s,c,d,t⟩,er)),ParC.EQ (tl (⟨s,c,d,t⟩,er)),ParC.EQ (lv ⟨s,c,d,t⟩),ParC.EQ (Value.int .i64 er),(fun _=>True),fun _=>True,ParC.EQ (Value.int .i64 er)]) (by kernel_rfl) (by kernel_rfl) (Rg.Yy.start fun v=>⟨Ext.draw _,fun k=>by cases k⟩) ?_ ?_
 · refine⟨fun _ _ _ hR _ _ _ hk=>Par.pv [(8,pv N1)] hk (by kernel_rfl) ⟨hR.other (by decide),rfl⟩,?_⟩
   refine⟨fun L ρ w' hR hC hL hd hk=> ?_,?_⟩
   · obtain⟨(e0:ρ (.tmp 25)=Value.pointer (some ⟨N1,2,none⟩)),-⟩:=hk;refine Par.val_k fun K hK=> ?_;unfold Par.val
     (have h17:=hC.notyet 17 1 hL (by kernel_rfl);have hx:=(hR.q h17).1;have cc0:=hx.cell D2.out;have cc1:=hx.cell D3.out;have cc2:=hx.cell D4.out;have cc3:=hx.cell D5.out;go_simp;exact hK _ _ ⟨hR.other (by decide),rfl⟩)
   refine⟨fun L ρ w' hR hC hL hd hk=> ?_,?_⟩
   · obtain⟨(e0:ρ (.tmp 0)=pv p),-⟩:=hk;refine Par.val_k fun K hK=> ?_;unfold Par.val
     (go_simp;exact hK _ _ ⟨hR.other (by decide),rfl⟩)
   refine⟨fun L ρ w' hR hC hL hd hk=> ?_,?_⟩
   · obtain⟨(e0:ρ (.tmp 27)=pv p),-⟩:=hk;refine Par.val_k fun K hK=> ?_;unfold Par.val
     (go_simp;exact hK _ _ ⟨hR.other (by decide),rfl⟩)
   refine⟨fun _ _ _ hR _ _ _ hk=>Par.pv [(28,pv p)] hk (by kernel_rfl) ⟨hR.other (by decide),rfl⟩,?_⟩
   refine⟨fun L ρ w' hR hC hL hd hk=> ?_,?_⟩
   · obtain⟨(e0:ρ (.tmp 29)=Value.pointer (some ⟨p,3,none⟩)),-⟩:=hk;refine Par.val_k fun K hK=> ?_;unfold Par.val
     (have h17:=hC.notyet 17 5 hL (by kernel_rfl);have hx:=(hR.q h17).1;have cc:=hx.cell C3.out;go_simp;exact hK _ _ ⟨hR.other (by decide),rfl⟩)
   refine⟨fun L ρ w' hR hC hL hd hk=> ?_,?_⟩
   · obtain⟨(e0:ρ (.tmp 2)=vU span),-⟩:=hk;refine Par.val_k fun K hK=> ?_;unfold Par.val
     (go_simp;exact hK _ _ ⟨hR.other (by decide),rfl⟩)
   refine⟨fun L ρ w' hR hC hL hd hk=> ?_,?_⟩
   · obtain⟨(e0:ρ (.tmp 0)=pv p),-⟩:=hk;refine Par.val_k fun K hK=> ?_;unfold Par.val
     (go_simp;exact hK _ _ ⟨hR.other (by decide),rfl⟩)
   refine⟨fun L ρ w' hR hC hL hd hk=> ?_,?_⟩
   · obtain⟨(e0:ρ (.tmp 32)=pv p),-⟩:=hk;refine Par.val_k fun K hK=> ?_;unfold Par.val
     (go_simp;exact hK _ _ ⟨hR.other (by decide),rfl⟩)
   refine⟨fun _ _ _ hR _ _ _ hk=>Par.pv [(33,pv p)] hk (by kernel_rfl) ⟨hR.other (by decide),rfl⟩,?_⟩
   refine⟨fun L ρ w' hR hC hL hd hk=> ?_,?_⟩
   · obtain⟨(e0:ρ (.tmp 34)=Value.pointer (some ⟨p,5,none⟩)),-⟩:=hk;refine Par.val_k fun K hK=> ?_;unfold Par.val
     (have h17:=hC.notyet 17 10 hL (by kernel_rfl);have hx:=(hR.q h17).1;have cc:=hx.cell C5.out;go_simp;exact hK _ _ ⟨hR.other (by decide),rfl⟩)
   refine⟨fun L ρ w' hR hC hL hd hk=> ?_,?_⟩
   · obtain⟨(e0:ρ (.tmp 35)=vU q.leases),(e1:ρ (Operand.const (Value.int IntKind.u64 1))=(Value.int IntKind.u64 1)),-⟩:=hk;refine Par.val_k fun K hK=> ?_;unfold Par.val
     (have hadd:=HADD.out;go_simp;exact hK _ _ ⟨hR.other (by decide),rfl⟩)
   refine⟨fun L ρ w' hR hC hL hd hk=> ?_,?_⟩
   · obtain⟨e0,(e1:ρ (.tmp 26)=lv (It.l ⟨id,la,st,ct,du,tk,tu,sg,ps,sz⟩)),(e2:ρ (.tmp 30)=vU q.now),(e3:ρ (.tmp 31)=vU span),(e4:ρ (.tmp 36)=vU TL),-⟩:=hk;refine Par.val_k fun K hK=> ?_;unfold Par.val
     (have h17:=hC.notyet 17 12 hL (by kernel_rfl);refine Par.val_call Tryz.func78 (by kernel_rfl) rfl e0 ?_;simp only[List.map_toArray,List.map_cons,List.map_nil,e1,e2,e3,e4];refine(HC.out _).mono ?_;rintro e w5 ⟨rfl,hx⟩;exact⟨_,rfl,hK _ _ ⟨hR.a h17 hL (by decide) (by decide) fun k=>LeaA.turn k hx,rfl⟩⟩)
   refine⟨fun L ρ w' hR hC hL hd hk=> ?_,?_⟩
   · obtain⟨(e0:ρ (.tmp 37)=tl (⟨s,c,d,t⟩,er)),-⟩:=hk;refine Par.val_k fun K hK=> ?_;unfold Par.val
     (go_simp;exact hK _ _ ⟨hR.other (by decide),rfl⟩)
   refine⟨fun L ρ w' hR hC hL hd hk=> ?_,?_⟩
   · obtain⟨(e0:ρ (.tmp 24)=tl (⟨s,c,d,t⟩,er)),-⟩:=hk;refine Par.val_k fun K hK=> ?_;unfold Par.val
     (go_simp;exact hK _ _ ⟨hR.other (by decide),rfl⟩)
   refine⟨fun L ρ w' hR hC hL hd hk=> ?_,?_⟩
   · obtain⟨(e0:ρ (.tmp 24)=tl (⟨s,c,d,t⟩,er)),-⟩:=hk;refine Par.val_k fun K hK=> ?_;unfold Par.val
     (go_simp;exact hK _ _ ⟨hR.other (by decide),rfl⟩)
   refine⟨fun L ρ w' hR hC hL hd hk=> ?_,?_⟩
   · obtain⟨-⟩:=hk;refine Par.val_k fun K hK=> ?_;unfold Par.val
     (have h17:=hC.notyet 17 16 hL (by kernel_rfl);go_simp;exact hK _ _ ⟨hR.b h17 hL (by decide) fun k=>LeaA.make k,trivial⟩)
   refine⟨fun L ρ w' hR hC hL hd hk=> ?_,?_⟩
   · obtain⟨(e0:(fun _=>True) (ρ (.tmp 10))),(e1:ρ (.tmp 38)=lv ⟨s,c,d,t⟩),-⟩:=hk;refine Par.val_k fun K hK=> ?_;unfold Par.val
     (have h16:=hC.before 16 (i:=17) rfl hd (by kernel_rfl);have hq:=hR.q hL;rw[h16] at hq;obtain⟨hx,hq2⟩:=hq;obtain⟨g,hg,hz,hl⟩:=hq2 rfl;have eg:ρ (.tmp 10)=pv g:=hg;obtain⟨cc0,cc1,cc2,cc3⟩:=blk4 hz;have ff0:=frz hz 0;have ff1:=frz hz 1;have ff2:=frz hz 2;have ff3:=frz hz 3;have hk:=set4L hz ⟨s,c,d,t⟩;have hX:=Below.trans hx ((set4F _ g (.int .i64 s) (.int .i64 c) (.int .u64 d) (.int .u64 t)).below (by simp;exact hl) hx.size);have hF:=hid (show LeaF w3 ⟨s,c,d,t⟩ (pv g) _ from⟨hX,g,rfl,hk,hl⟩);rw[←hg] at hF;clear hk hX hq2 hz hg hx;go_simp;exact hK _ _ ⟨hR.z (by decide) hF.out,trivial⟩)
   refine⟨fun L ρ w' hR hC hL hd hk=> ?_,?_⟩
   · obtain⟨(e0:ρ (.tmp 39)=Value.int .i64 er),-⟩:=hk;refine Par.val_k fun K hK=> ?_;unfold Par.val
     (go_simp;exact hK _ _ ⟨hR.other (by decide),rfl⟩)
   trivial
 intro a' w' inv hR
 have q10:(fun _=>True) (a'.tmps.getD 10 undef):=inv.done 16 _ 10 rfl rfl rfl
 have hq:=Par.donesC inv;simp only[Par.donesV,ParC.EQ,true_and,and_true] at hq
 clear inv
 simp only[List.filterMap_cons,List.filterMap_nil,Par.putAll,Act.put,List.setIfInBounds_toArray,List.set_cons_succ,List.set_cons_zero,hq]
 clear hq
 obtain⟨hx,g,hg,hz,hl⟩:=Rg.Yy.fin hR (by decide);have HX5:=hid hx;have HG5:=hid hz;have HGS:=hid hl;have hg10:a'.tmps.getD 10 undef=pv g:=hg;rw[hg10];clear hx hz hg hl hR
 generalize a'.tmps.getD 10 undef=u10 at*
 try clear a'
 have H5:=hid (H3.out.ext HX5.out)
 have HE5:=hid (HE3.out.trans HX5.out)
 have HB5:=hid (HX5.out.obj HX3.out)
 have HZ5:=hid (HX5.out.obj HZ3.out)
 have HGL:Hid (w.heap.size≤g):=hid (Nat.le_trans HE3.out.size HGS.out)
 clear HX3 HE3 H3 HC D2 D3 D4 D5 C3 C5 HZ3
 obtain⟨w5,hw5⟩:∃W,w'=W:=⟨_,rfl⟩
 rw[hw5] at HX5 HG5 H5 HE5 HB5 HZ5⊢
 clear hw5
 by_cases he:er=0
 case neg=>
  have hne:(er !=(0:Int))=true:=by simpa using he
  have hRR2:=HRR.out
  rw[if_pos he] at hRR2
  have HRR:=hid hRR2
  clear he hRR2
  obtain⟨w6,hW6⟩:∃W,((((((((((w5).setCell ⟨N0,0,none⟩ (.int .u64 0)).setCell ⟨N0,1,none⟩ (.int .i64 0)).setCell ⟨N0,2,none⟩ (.int .i64 0)).setCell ⟨N0,3,none⟩ (.int .i64 0)).setCell ⟨N0,4,none⟩ (.int .u64 0)).setCell ⟨N0,5,none⟩ (.int .u64 0)).setCell ⟨N0,6,none⟩ (.int .u64 0)).setCell ⟨N0,7,none⟩ (.int .u64 0)).setCell ⟨N0,8,none⟩ (.int .u64 0)).setCell ⟨N0,9,none⟩ (.int .i64 0)=W:=⟨_,rfl⟩
  have hE6:setI w5 N0 it0=w6:=by rw[←hW6];rfl
  have hk6:=setI_blk (y:=it0) HB5.out it0
  have f6:=setI_fr w5 N0 it0
  rw[hE6] at hk6 f6
  have HK6:=hid hk6
  have HF6:=hid f6
  clear hE6 hk6 f6
  obtain⟨a0,a1,a2,a3,a4,a5,a6,a7,a8,a9,af⟩:=blk10 HB5.out
  have af0:=af 0
  have af1:=af 1
  have af2:=af 2
  have af3:=af 3
  have af4:=af 4
  have af5:=af 5
  have af6:=af 6
  have af7:=af 7
  have af8:=af 8
  have af9:=af 9
  clear af
  go_wp2
  refine bodyPost_ret (le_results _ w6 N0 it0 rfl HK6.out) rfl ?_
  first|rw[HRR.out]|skip
  exact⟨rfl,(XStp.same H5.out (Ext.refl _)).last HE5.out (by have:=HSZ.out;omega) HB5.out HN0.out HF6.out⟩
 subst he
 have hRR2:=HRR.out
 rw[if_neg (by simp)] at hRR2
 have HRR:=hid hRR2
 clear hRR2
 have hc5:w5.cell? ⟨p,5,none⟩=some (vU q.leases):=H5.out.cells 5 _ rfl
 have hf5:=H5.out.froz 5
 have hadd:=HADD.out
 have hpN0:N0≠p:=fun e=>by have:=HPL.out;have:=HSZ.out;omega
 have hpN1:N1≠p:=fun e=>by have:=HPL.out;have:=HN1.out;omega
 have hpg:g≠p:=fun e=>by have:=HPL.out;have:=HGL.out;omega
 have hpN1':=Ne.symm hpN1
 have hpg':=Ne.symm hpg
 obtain⟨w6,hw6⟩:∃W,w5.setCell ⟨p,5,none⟩ (vU TL)=W:=⟨_,rfl⟩
 have fp:Fr [p] w5 w6:=by rw[←hw6];exact fr_setCell _ _ _ (by simp)
 have i6:IX B w6 p x {q with leases:=q.leases+1}:=by rw[←hw6];exact H5.out.own {q with leases:=q.leases+1} 5 (vU TL) (by rw[←HTL.out];rfl) rfl rfl rfl rfl rfl
 have hb6:=(fp.block N0 (Array.getElem?_eq_some_iff.1 HB5.out).1 (by simpa using hpN0)).trans HB5.out
 have hz6:=(fp.block N1 (Array.getElem?_eq_some_iff.1 HZ5.out).1 (by simpa using hpN1)).trans HZ5.out
 have hg6:=(fp.block g (Array.getElem?_eq_some_iff.1 HG5.out).1 (by simpa using hpg)).trans HG5.out
 have hbec:=becW_any ⟨id,la,st,ct,du,tk,tu,sg,ps,sz⟩ ⟨s,c,d,t⟩ i6 (Nat.le_trans HB0.out (Nat.le_trans HE5.out.size fp.size)) (HQ.out.leases HLB.out) HL.out HU.out.1 HU.out.2
 obtain⟨b0,b1,b2,b3,b4,b5,b6,b7,b8,b9,-⟩:=blk10 hz6
 obtain⟨l0,l1,l2,l3⟩:=blk4 hg6
 have HBC:=hid hbec
 have HFP:=hid fp
 have HB6:=hid hb6
 clear i6 hb6 hz6 hg6 hbec fp
 go_wp2_with fail
 clear b0 b1 b2 b3 b4 b5 b6 b7 b8 b9 l0 l1 l2 l3 hc5 hf5
 refine Calls.mono HBC.out ?_
 rintro e w7 ⟨rfl,hs⟩
 obtain⟨⟨yi,yl,ys,yc,yd,yt,yu,yg,yp,yz⟩,hy⟩:∃y,becI {q with leases:=q.leases+1} ⟨id,la,st,ct,du,tk,tu,sg,ps,sz⟩ ⟨s,c,d,t⟩=y:=⟨_,rfl⟩
 have hy2:becI q ⟨id,la,st,ct,du,tk,tu,sg,ps,sz⟩ ⟨s,c,d,t⟩=⟨yi,yl,ys,yc,yd,yt,yu,yg,yp,yz⟩:=hy
 have hS:=XStp.then (x:=x) (x1:=x) (HFP.out.mono fun a ha=>by rw[List.mem_singleton] at ha;rw[ha];exact XP.mem_blk.2 ⟨0,by decide,by simp[XP.comp]⟩) (fun a ha=> .inl ha) hs
 obtain⟨x7,i7,f7,n7⟩:=hs
 obtain⟨hx7,-⟩:=keepF f7 n7 HB6.out HN0.out
 have HS:=hid hS
 have HY2:=hid hy2
 obtain⟨a0,a1,a2,a3,a4,a5,a6,a7,a8,a9,af⟩:=blk10 hx7
 have af0:=af 0
 have af1:=af 1
 have af2:=af 2
 have af3:=af 3
 have af4:=af 4
 have af5:=af 5
 have af6:=af 6
 have af7:=af 7
 have af8:=af 8
 have af9:=af 9
 obtain⟨w8,hW8⟩:∃W,((((((((((w7).setCell ⟨N0,0,none⟩ (vU yi)).setCell ⟨N0,1,none⟩ (.int .i64 yl)).setCell ⟨N0,2,none⟩ (.int .i64 ys)).setCell ⟨N0,3,none⟩ (.int .i64 yc)).setCell ⟨N0,4,none⟩ (vU yd)).setCell ⟨N0,5,none⟩ (vU yt)).setCell ⟨N0,6,none⟩ (vU yu)).setCell ⟨N0,7,none⟩ (vU yg)).setCell ⟨N0,8,none⟩ (vU yp)).setCell ⟨N0,9,none⟩ (.int .i64 yz)=W:=⟨_,rfl⟩
 have hE8:setI w7 N0 ⟨yi,yl,ys,yc,yd,yt,yu,yg,yp,yz⟩=w8:=by rw[←hW8];rfl
 have hk8:=setI_blk (y:=it0) hx7 ⟨yi,yl,ys,yc,yd,yt,yu,yg,yp,yz⟩
 have f8:=setI_fr w7 N0 ⟨yi,yl,ys,yc,yd,yt,yu,yg,yp,yz⟩
 rw[hE8] at hk8 f8
 have HK8:=hid hk8
 have HF8:=hid f8
 clear hE8 hk8 f8
 clear i7 f7 n7 hS hy2 hx7 af hw6
 rw[hy]
 go_wp2
 refine bodyPost_ret (le_results _ w8 N0 ⟨yi,yl,ys,yc,yd,yt,yu,yg,yp,yz⟩ rfl HK8.out) rfl ?_
 rw[HRR.out]
 refine⟨by rw[HY2.out];rfl,HS.out.last HE5.out (by have:=HSZ.out;omega) HB5.out HN0.out HF8.out⟩
end Go.Proofs.YtcfgafododiioaaGreatDoor
set_option maxRecDepth 100000
namespace Go.Proofs.YtcfgafododiioaaGreatDoor
open Go Go.RowKit Go.Tum Go.ChangeMaps Go.Tum.Hp
theorem row_least {At:UInt64→Option Int} {row:List UInt64} (hp:HP (rowK At row) row.length) {i:UInt64} {r:List UInt64} (hr:row=i::r) {j:UInt64} (hj:j∈row):keyI At i≤keyI At j:=by
 obtain⟨n,hn,rfl⟩:=List.getElem_of_mem hj
 have h1:=hp.top n hn
 rw[rowK_at hn,rowK_at (by omega)] at h1
 subst hr
 exact h1
theorem tim_of {At:UInt64→Option Int} {x:UInt64} {t:Int} (h:At x=some t):tim At x=t:=by unfold tim;rw[h];rfl
theorem wat_due {q:QR} (hq:WQ q) {z:It} (h1:look q z.id=some z) (h2:z.st=2∨z.st=3):q.wat z.id=some (z.due.toNat:Int):=by
 rw[hq.co.wat,h1]
 show(if z.st=2∨z.st=3 then _ else _)=_
 rw[if_pos h2]
theorem noDue {q:QR} (hq:WQ q) {row:List UInt64} (has:∀x,(q.wat x).isSome=decide (x∈row)) (hp:HP (rowK q.wat row) row.length)
 (h:row=[]∨∃i r,row=i::r∧(q.now.toNat:Int)<tim q.wat i):leastI (dueI q)=none:=by
 rw[leastI_none]
 refine List.eq_nil_iff_forall_not_mem.2 fun z hz=> ?_
 obtain⟨h1,h2,h3⟩:=due_in hq hz
 have hw:=wat_due hq h1 h2
 have hm:z.id∈row:=by
  have:=has z.id
  rw[hw] at this
  simpa using this.symm
 rcases h with e|⟨i,r,e,hlt⟩
 · rw[e] at hm;simp at hm
 · have hk:=row_least hp e hm
   unfold keyI at hk
   rw[tim_of hw] at hk
   rw[UInt64.le_iff_toNat_le] at h3
   have k1:=z.id.toNat_lt
   have k2:=i.toNat_lt
   omega
theorem isDue {q:QR} (hq:WQ q) {row:List UInt64} {i:UInt64} {r:List UInt64} (hr:row=i::r) (has:∀x,(q.wat x).isSome=decide (x∈row)) (hp:HP (rowK q.wat row) row.length) (hle:tim q.wat i≤(q.now.toNat:Int)):
 ∃z,leastI (dueI q)=some z∧z.id=i∧tim q.wat i=(z.due.toNat:Int):=by
 have hi:=has i
 rw[decide_eq_true (by rw[hr];simp)] at hi
 cases hz:look q i with
 |none=>rw[hq.co.wat,hz] at hi;simp at hi
 |some z=>
  have hid:=hq.idz hz
  subst hid
  have h2:z.st=2∨z.st=3:=by
   rw[hq.co.wat,hz] at hi
   by_cases e:z.st=2∨z.st=3
   · exact e
   · have:(Option.bind (some z) fun z=>if z.st=2∨z.st=3 then some (z.due.toNat:Int) else none)=none:=if_neg e
     rw[this] at hi;cases hi
  have hw:=wat_due hq hz h2
  have ht:=tim_of hw
  have hdn:z.due≤q.now:=by rw[UInt64.le_iff_toNat_le];omega
  have hmz:z∈dueI q:=by
   unfold dueI
   rw[List.mem_filter]
   exact⟨List.mem_map.2 ⟨_,look_in hz,rfl⟩,by simpa using⟨h2,hdn⟩⟩
  cases hl:leastI (dueI q) with
  |none=>rw[leastI_none] at hl;rw[hl] at hmz;cases hmz
  |some y=>
   obtain⟨hy,hmin⟩:=leastI_some hl
   obtain⟨y1,y2,y3⟩:=due_in hq hy
   have hwy:=wat_due hq y1 y2
   have hm:y.id∈row:=by
    have:=has y.id
    rw[hwy] at this
    simpa using this.symm
   have hk:=row_least hp hr hm
   unfold keyI at hk
   rw[ht,tim_of hwy] at hk
   have hlt:=hmin z hmz
   unfold ltW at hlt
   have hlt:=of_decide_eq_false hlt
   have k1:=z.id.toNat_lt
   have k2:=y.id.toNat_lt
   rw[UInt64.lt_iff_toNat_lt,UInt64.lt_iff_toNat_lt] at hlt
   have h5:z.due.toNat=y.due.toNat:=by
    rcases Nat.lt_trichotomy z.due.toNat y.due.toNat with k|k|k
    · exact absurd (.inl k) hlt
    · exact k
    · omega
   have h6:z.id=y.id:=by
    have:z.due=y.due:=UInt64.toNat_inj.1 h5
    have h7:¬z.id.toNat<y.id.toNat:=fun k=>hlt (.inr ⟨this,k⟩)
    exact UInt64.toNat_inj.1 (by omega)
   have h8:y=z:=by
    rw[←h6,hz] at y1
    exact(Option.some.inj y1).symm
   exact⟨y,rfl,by rw[h8],by rw[h8];exact ht⟩
theorem dueTake_none {B:Nat} {w:World} {p:Nat} {x:XP} {q:QR} (h:IX B w p x q) (hB:B≤w.heap.size) (hq:WQ q) (hn:leastI (dueI q)=none):
 Calls Tryz.prog 79 #[pv x.hp,vU q.now] w fun e w'=>e= .returned noneV∧Ext w w':=by
 refine Calls.mono (htake_any B w _ _ _ _ _ _ q.now h.du (h.rowlen hq.watL) hB) ?_
 rintro e w' (⟨-,rfl,hx⟩|⟨i,r,hr,hle,-⟩)
 · exact⟨rfl,hx⟩
 · obtain⟨z,hz,-⟩:=isDue hq hr h.du.has h.du.hp hle
   rw[hn] at hz;cases hz
theorem dueTake_some {B:Nat} {w:World} {p:Nat} {x:XP} {q:QR} (h:IX B w p x q) (hB:B≤w.heap.size) (hq:WQ q) {z:It} (hz:leastI (dueI q)=some z):
 Calls Tryz.prog 79 #[pv x.hp,vU q.now] w fun e w'=>e= .returned (.tuple #[vU z.id,vU z.due,.bool true])∧XStp B w p x {q with wat:=delF q.wat z.id} w':=by
 refine Calls.mono (htake_any B w _ _ _ _ _ _ q.now h.du (h.rowlen hq.watL) hB) ?_
 rintro e w' (⟨hno,-,-⟩|⟨i,r,hr,hle,rfl,row',v',-,hb,-,ht⟩)
 · rw[noDue hq h.du.has h.du.hp hno] at hz;cases hz
 · obtain⟨y,hy,rfl,hty⟩:=isDue hq hr h.du.has h.du.hp hle
   rw[hz] at hy
   obtain rfl:=Option.some.inj hy
   rw[hty]
   exact⟨rfl,XStp.due h hB hb ht⟩
theorem delF_delF {f:UInt64→Option Int} {i:UInt64}:delF (delF f i) i=delF f i:=by
 funext y
 unfold delF
 split<;>rfl
theorem leaveQ_del {q:QR} {z:It} (hs:z.st=2∨z.st=3):leaveQ {q with wat:=delF q.wat z.id} z=leaveQ q z:=by
 rcases hs with hs|hs
 · rw[leaveQ2 _ _ hs,leaveQ2 _ _ hs]
   show({q with wat:=delF (delF q.wat z.id) z.id}:QR)=_
   rw[delF_delF]
 · rw[leaveQ3 _ _ hs,leaveQ3 _ _ hs]
   show({q with wat:=delF (delF q.wat z.id) z.id,hld:=noK q.hld z.tok}:QR)=_
   rw[delF_delF]
theorem WatL.del {q:QR} (h:WQ q) (i:UInt64):WatL {q with wat:=delF q.wat i}:=fun r hn hr=>by
 by_cases hi:(q.wat i).isSome=true
 · have hnr:i∉r:=fun hm=>by
    have:=hr i
    rw[decide_eq_true hm] at this
    simp[delF] at this
   have:=h.watL (i::r) (List.nodup_cons.2 ⟨hnr,hn⟩) fun y=>by
    by_cases e:y=i
    · subst e;rw[hi];simp
    · have:=hr y
      simp only[delF,if_neg e] at this
      rw[this]
      simp[e]
   rw[List.length_cons] at this
   omega
 · have e:q.wat i=none:=by simpa using hi
   have hd:({q with wat:=delF q.wat i}:QR).wat=q.wat:=delF_none e
   exact h.watL r hn fun y=>by have:=hr y;rw[hd] at this;exact this
theorem pass_u (z:It) (now del:Int):U64 (passL z.l now del).d∧U64 (passL z.l now del).t:=by
 have h1:=z.due.toNat_lt
 have h2:=z.tok.toNat_lt
 have hd:U64 z.l.d:=⟨Int.natCast_nonneg _,by show(z.due.toNat:Int)≤_;omega⟩
 have ht:U64 z.l.t:=⟨Int.natCast_nonneg _,by show(z.tok.toNat:Int)≤_;omega⟩
 have h0:U64 0:=⟨Int.le_refl _,by decide⟩
 unfold passL endL
 repeat' split
 all_goals first|exact⟨hd,ht⟩|exact⟨h0,ht⟩|exact⟨h0,h0⟩
theorem becT_any {B:Nat} {w:World} {p:Nat} {x:XP} {q:QR} (z:It) (h:IX B w p x {q with wat:=delF q.wat z.id}) (hB:B≤w.heap.size) (hq:WQ q) (hz:look q z.id=some z) (hs:z.st=2∨z.st=3):
 Calls Tryz.prog 76 #[pv p,itV z,lv (passL z.l q.now.toNat q.del)] w fun e w'=>e= .returned (itV (becI q z (passL z.l q.now.toNat q.del)))∧XStp B w p x (becQ q z (passL z.l q.now.toNat q.del)) w':=by
 obtain⟨hd,ht⟩:=pass_u z q.now.toNat q.del
 have hl8:=hq.lane8 z.id
 rw[(hq.get hz).1] at hl8
 have hc:=become_any z (passL z.l q.now.toNat q.del) h hB hl8 (WatL.del hq z.id) (by rw[leaveQ_del hs];exact hq.entL z _) hd ht
 have e1:becQ {q with wat:=delF q.wat z.id} z (passL z.l q.now.toNat q.del)=becQ q z (passL z.l q.now.toNat q.del):=by
  unfold becQ
  rw[leaveQ_del hs]
  rfl
 rw[e1] at hc
 exact hc
theorem u64_add (x y:UInt64):IntKind.u64.wrap ((x.toNat:Int)+(y.toNat:Int))=((x+y).toNat:Int):=by
 have h:=x.toNat_lt
 rw[UInt64.toNat_add]
 simp only[IntKind.wrap,IntKind.signed,IntKind.bits,IntKind.min,IntKind.max]
 simp
end Go.Proofs.YtcfgafododiioaaGreatDoor
