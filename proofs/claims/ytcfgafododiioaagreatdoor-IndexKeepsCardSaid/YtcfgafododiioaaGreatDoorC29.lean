/- Texts of a claim, side by side. -/
import Derived.Test.YtcfgafododiioaaGreatDoorC11
import Derived.Test.YtcfgafododiioaaGreatDoorC28
import Derived.Test.YtcfgafododiioaaGreatDoorC19
set_option linter.unusedSimpArgs false
set_option linter.unusedVariables false
set_option maxRecDepth 100000
namespace Go.Proofs.YtcfgafododiioaaGreatDoor
open Go Go.RowKit Go.Tum Go.ChangeMaps Go.Sort
open Go.ParB (upd Lof)
open Go.ParE (putS slotsR slots Closed)
set_option maxHeartbeats 2000000 in
theorem reset_any11 {B:Nat} {w:World} {p:Nat} {x:XP} {q:QR} (h:IX B w p x q) (hB:B≤w.heap.size) (hq:WQ q) (hb:q.turns.toNat+201<18446744073709551615):
 Calls Tryz.prog 45 #[pv p] w fun e w'=>(∃u,e= .returned u)∧XStp B w p x (resetQ q) w':=by
 have hwh:=iwhich_any (fun z=>decide (z.st=3)) 92 #[] h (by have:=hq.ln;omega) enRes1 (fun w2 _ z=>res1_any z w2)
 have H0:=hid h
 have HB0:=hid hB
 have HWH:=hid hwh
 have HQ:=hid hq
 have HRS:=hid (RsR.start hq hb)
 have HLL:=hid (les_len hq)
 obtain⟨RQ,hRQ⟩:∃Q,resetQ q=Q:=⟨_,rfl⟩
 rw[hRQ] at HRS⊢
 clear h hB hq hb hwh hRQ
 go_enter Tryz.func45,Tryz.ntmps45
 go_wp2_with fail
 refine Calls.mono HWH.out ?_
 rintro e w1 ⟨⟨m,v,hm,rfl,ho⟩,hx1⟩
 have HM:=hid hm
 have HX1:=hid hx1
 have HO1:=hid ho
 clear hm hx1 ho
 have hlm:m.length≤1000000:=by rw[HM.out.length_eq];exact Nat.le_trans (List.length_filter_le _ _) (by rw[List.length_map];have:=HQ.out.ln;omega)
 have hst:=sortI_any cfD 93 m HO1.out hlm swoD enByDue byDue_any
 have HST:=hid hst
 clear hst hlm
 go_wp2_with fail
 refine Calls.mono HST.out ?_
 rintro e w2 ⟨rfl,L,hL,hpw,ho2,hf2⟩
 have hL2:=sortW_of HQ.out (hL.trans HM.out) hpw
 have hlen:=hL.length_eq
 rw[←hlen,hL2] at ho2
 have hx2:Ext w w2:=Below.trans HX1.out (hf2.below (row_lo HO1.out) HX1.out.size)
 obtain⟨L',hL'⟩:∃l,sortW (lesI q)=l:=⟨_,rfl⟩
 rw[hL'] at ho2 HRS HLL hL2
 obtain⟨ao,cap,rfl⟩:=row_shape ho2
 have HX2:=hid hx2
 have HO2:=hid ho2
 have HOB:Hid (∀a∈oB (.slice ao L'.length cap),a∉x.blk p):=hid fun a ha hm=>by
  have h1:=row_lo HO2.out a ha
  have h2:=(H0.out.blk_lo a hm).2
  omega
 have HDL:Hid (q.del=q.del):=hid rfl
 obtain⟨D,hD⟩:∃d,q.del=d:=⟨_,rfl⟩
 rw[hD] at HRS
 clear hL hpw hf2 hL2 hlen hx2 ho2 hL' HST HM HO1 hD HDL
 go_wp2_with fail
 obtain⟨NN,hNN⟩:∃N,w.heap.size=N:=⟨_,rfl⟩
 have HNN:=hid hNN
 clear hNN
 go_loopw [11] (fun iv wr=>∃(k:Nat) (xr:XP) (qr:QR),k≤L'.length∧iv= .int .i64 (k:Int)∧Hid (IX B wr p xr qr)∧Hid (RsR D RQ (L'.drop k) qr)∧Hid (Fr (x.blk p) w wr∧∀a∈xr.blk p,a∈x.blk p∨w.heap.size≤a)∧Hid (wr.ownsRow w.heap.size 79 10 (.slice ao L'.length cap) L'.length (L'.flatMap itE))∧Hid (∀a∈oB (.slice ao L'.length cap),a∉xr.blk p)) (fun iv _=>L'.length - (intOf iv).toNat)
 case atStart=>exact⟨0,x,q,Nat.zero_le _,rfl,hid (H0.out.ext HX2.out),HRS,hid ⟨Ext.fr HX2.out,fun a ha=> .inl ha⟩,HO2,HOB⟩
 case round=>
  obtain⟨k,xr,qr,hk,rfl,HI,HR,HF,HO,HOB⟩:=hrel
  by_cases hkm:k<L'.length
  · have hki:decide ((k:Int)<(L'.length:Int))=true:=by simp;omega
    obtain⟨a,rfl⟩:∃a,ao=some a:=by
     cases ao with
     |none=>
      obtain⟨-,-,h3,-⟩:=Sl.cells (Sl.of_owns HO.out)
      obtain⟨h1,-⟩:=Sl.cells (Sl.of_owns HO.out)
      have:=h3 rfl
      omega
     |some a=>exact⟨a,rfl⟩
    obtain⟨r0,r1,r2,r3,r4,r5,r6,r7,r8,r9⟩:=row10 (Sl.of_owns HO.out) hkm
    have hdrop:=List.drop_eq_getElem_cons hkm
    obtain⟨z,hz2⟩:∃z,L'[k]=z:=⟨_,rfl⟩
    rw[hz2] at r0 r1 r2 r3 r4 r5 r6 r7 r8 r9 hdrop
    obtain⟨id,la,st,ct,du,tk,tu,sg,ps,sz⟩:=z
    dsimp only at r0 r1 r2 r3 r4 r5 r6 r7 r8 r9
    have hr:=HR.out
    rw[hdrop] at hr
    have HR2:=hid hr
    have HN2:=hid hr.next
    obtain⟨w3,hw3⟩:∃W,wr.alloc (itO ⟨id,la,st,ct,du,tk,tu,sg,ps,sz⟩)=W:=⟨_,rfl⟩
    have e3:Ext wr w3:=by rw[←hw3];exact Ext.alloc _ _
    have hb3:w3.heap[wr.heap.size]? =some (itO ⟨id,la,st,ct,du,tk,tu,sg,ps,sz⟩):=by rw[←hw3];exact heap_alloc_new _ _
    obtain⟨g,hg⟩:∃g,wr.heap.size=g:=⟨_,rfl⟩
    have i3:=HI.out.ext e3
    have HB3:=hid (Nat.le_trans HB0.out (Nat.le_trans HF.out.1.size e3.size))
    have HE3:=hid e3
    have HO3:=hid (e3.owns HO.out)
    rw[hg] at hb3
    obtain⟨d0,d1,d2,d3,d4,d5,d6,d7,d8,d9,-⟩:=blk10 hb3
    have D0:=hid d0
    have D1:=hid d1
    have D2:=hid d2
    have D3:=hid d3
    have D4:=hid d4
    have D5:=hid d5
    have D6:=hid d6
    have D7:=hid d7
    have D8:=hid d8
    have D9:=hid d9
    have C2:=hid (i3.cells 2 (.int .i64 qr.del) rfl)
    have HDE:=hid hr.de
    obtain⟨hlk,-⟩:=hr.lk ⟨id,la,st,ct,du,tk,tu,sg,ps,sz⟩ (by simp)
    have hl8:=hr.wq.lane8 id
    rw[(hr.wq.get hlk).1] at hl8
    obtain⟨ud,ut⟩:=reset_u ⟨id,la,st,ct,du,tk,tu,sg,ps,sz⟩ qr.del
    have hps:=fun w=>reset_any (It.l ⟨id,la,st,ct,du,tk,tu,sg,ps,sz⟩) qr.del w
    have hbc:=fun(w':World) (hx:Ext w3 w')=>becW_any ⟨id,la,st,ct,du,tk,tu,sg,ps,sz⟩ (resetL (It.l ⟨id,la,st,ct,du,tk,tu,sg,ps,sz⟩) qr.del) (i3.ext hx) (Nat.le_trans HB3.out hx.size) hr.wq hl8 ud ut
    rw[←hr.de] at HN2
    obtain⟨Q9,hQ9⟩:∃Q,becQ qr ⟨id,la,st,ct,du,tk,tu,sg,ps,sz⟩ (resetL (It.l ⟨id,la,st,ct,du,tk,tu,sg,ps,sz⟩) qr.del)=Q:=⟨_,rfl⟩
    obtain⟨BI,hBI⟩:∃Q,becI qr ⟨id,la,st,ct,du,tk,tu,sg,ps,sz⟩ (resetL (It.l ⟨id,la,st,ct,du,tk,tu,sg,ps,sz⟩) qr.del)=Q:=⟨_,rfl⟩
    rw[hQ9] at hbc HN2
    rw[hBI] at hbc
    clear hQ9 hBI
    obtain⟨PL,hPL⟩:∃Q,resetL (It.l ⟨id,la,st,ct,du,tk,tu,sg,ps,sz⟩) qr.del=Q:=⟨_,rfl⟩
    rw[hPL] at hbc hps
    have HPS:=hid hps
    have HBC:=hid hbc
    have HKM:=hid hkm
    clear hdrop hz2 hr e3 hb3 i3 d0 d1 d2 d3 d4 d5 d6 d7 d8 d9 hlk hl8 ud ut hps hbc hPL HR hkm hk
    go_wp2_with fail
    try rw[hg]
    clear r0 r1 r2 r3 r4 r5 r6 r7 r8 r9 hw3 hki
    refine ParE.wp_region_e (l:=[_,_,_,_,_,_,_,_,_,_,_]) rfl (Rg.Ch [9,10] [] (TwoQ w3 fun w'=>XStp B w3 p xr Q9 w')) (ParC.VC [ParC.EQ (pv p),ParC.EQ (itV ⟨id,la,st,ct,du,tk,tu,sg,ps,sz⟩),ParC.EQ (Value.pointer (some ⟨g,2,none⟩)),ParC.EQ (lv (It.l ⟨id,la,st,ct,du,tk,tu,sg,ps,sz⟩)),ParC.EQ (pv p),ParC.EQ (pv p),ParC.EQ (Value.pointer (some ⟨p,0,none⟩)),ParC.EQ (Value.pointer (some ⟨p,2,none⟩)),ParC.EQ (Value.int .i64 qr.del),ParC.EQ (lv PL),ParC.EQ (itV BI)]) (by kernel_rfl) (by kernel_rfl) (Rg.Ch.start ⟨fun _=>Ext.draw _,trivial⟩) ?_ ?_
    · refine⟨fun L ρ w' hR hC hL hd hk=> ?_,?_⟩
      · obtain⟨(e0:ρ (.tmp 0)=pv p),-⟩:=hk;refine Par.val_k fun K hK=> ?_;unfold Par.val
        (go_simp;exact hK _ _ ⟨hR.other (by decide),rfl⟩)
      refine⟨fun L ρ w' hR hC hL hd hk=> ?_,?_⟩
      · obtain⟨(e0:ρ (.tmp 4)=pv g),-⟩:=hk;refine Par.val_k fun K hK=> ?_;unfold Par.val
        (obtain⟨i,hi,hq⟩:=hR.some 1 rfl (hC.notyet 10 1 hL (by kernel_rfl));have hx:=hq.1 (by omega);have cc0:=hx.cell D0.out;have cc1:=hx.cell D1.out;have cc2:=hx.cell D2.out;have cc3:=hx.cell D3.out;have cc4:=hx.cell D4.out;have cc5:=hx.cell D5.out;have cc6:=hx.cell D6.out;have cc7:=hx.cell D7.out;have cc8:=hx.cell D8.out;have cc9:=hx.cell D9.out;go_simp;exact hK _ _ ⟨hR.other (by decide),rfl⟩)
      refine⟨fun _ _ _ hR _ _ _ hk=>Par.pv [(4,pv g)] hk (by kernel_rfl) ⟨hR.other (by decide),rfl⟩,?_⟩
      refine⟨fun L ρ w' hR hC hL hd hk=> ?_,?_⟩
      · obtain⟨(e0:ρ (.tmp 17)=Value.pointer (some ⟨g,2,none⟩)),-⟩:=hk;refine Par.val_k fun K hK=> ?_;unfold Par.val
        (obtain⟨i,hi,hq⟩:=hR.some 1 rfl (hC.notyet 10 3 hL (by kernel_rfl));have hx:=hq.1 (by omega);have cc0:=hx.cell D2.out;have cc1:=hx.cell D3.out;have cc2:=hx.cell D4.out;have cc3:=hx.cell D5.out;go_simp;exact hK _ _ ⟨hR.other (by decide),rfl⟩)
      refine⟨fun L ρ w' hR hC hL hd hk=> ?_,?_⟩
      · obtain⟨(e0:ρ (.tmp 0)=pv p),-⟩:=hk;refine Par.val_k fun K hK=> ?_;unfold Par.val
        (go_simp;exact hK _ _ ⟨hR.other (by decide),rfl⟩)
      refine⟨fun L ρ w' hR hC hL hd hk=> ?_,?_⟩
      · obtain⟨(e0:ρ (.tmp 19)=pv p),-⟩:=hk;refine Par.val_k fun K hK=> ?_;unfold Par.val
        (go_simp;exact hK _ _ ⟨hR.other (by decide),rfl⟩)
      refine⟨fun _ _ _ hR _ _ _ hk=>Par.pv [(20,pv p)] hk (by kernel_rfl) ⟨hR.other (by decide),rfl⟩,?_⟩
      refine⟨fun _ _ _ hR _ _ _ hk=>Par.pv [(21,Value.pointer (some ⟨p,0,none⟩))] hk (by kernel_rfl) ⟨hR.other (by decide),rfl⟩,?_⟩
      refine⟨fun L ρ w' hR hC hL hd hk=> ?_,?_⟩
      · obtain⟨(e0:ρ (.tmp 22)=Value.pointer (some ⟨p,2,none⟩)),-⟩:=hk;refine Par.val_k fun K hK=> ?_;unfold Par.val
        (obtain⟨i,hi,hq⟩:=hR.some 1 rfl (hC.notyet 10 8 hL (by kernel_rfl));have hx:=hq.1 (by omega);have cc0:=hx.cell C2.out;go_simp;exact hK _ _ ⟨hR.other (by decide),rfl⟩)
      refine⟨fun L ρ w' hR hC hL hd hk=> ?_,?_⟩
      · obtain⟨e0,(e1:ρ (.tmp 18)=lv (It.l ⟨id,la,st,ct,du,tk,tu,sg,ps,sz⟩)),(e2:ρ (.tmp 23)=Value.int .i64 qr.del),-⟩:=hk;refine Par.val_k fun K hK=> ?_;unfold Par.val
        (obtain⟨hq,hs⟩:=hR.go 0 rfl hL (.inl rfl) (by decide);have hx:=hq.1 (by decide);refine Par.val_call Tryz.func94 (by kernel_rfl) rfl e0 ?_;simp only[List.map_toArray,List.map_cons,List.map_nil,e1,e2];refine(HPS.out _).mono ?_;rintro e w5 ⟨rfl,hx3⟩;exact⟨_,rfl,hK _ _ ⟨hs _ _ _ ⟨fun _=>hx.trans hx3,trivial⟩,rfl⟩⟩)
      refine⟨fun L ρ w' hR hC hL hd hk=> ?_,?_⟩
      · obtain⟨e0,(e1:ρ (.tmp 15)=pv p),(e2:ρ (.tmp 16)=itV ⟨id,la,st,ct,du,tk,tu,sg,ps,sz⟩),(e3:ρ (.tmp 24)=lv PL),-⟩:=hk;refine Par.val_k fun K hK=> ?_;unfold Par.val
        (obtain⟨hq,hs⟩:=hR.go 1 rfl hL (.inr ⟨9,rfl,hC.before 9 (i:=10) rfl hd (by kernel_rfl)⟩) (by decide);have hx:=hq.1 (by decide);refine Par.val_call Tryz.func76 (by kernel_rfl) rfl e0 ?_;simp only[List.map_toArray,List.map_cons,List.map_nil,e1,e2,e3];refine(HBC.out _ hx).mono ?_;rintro e w5 ⟨rfl,hp⟩;exact⟨_,rfl,hK _ _ ⟨hs _ _ _ ⟨fun h=>absurd h (by decide),hp.pre hx⟩,rfl⟩⟩)
      trivial
    intro a' w' inv hR
    have hq:=Par.donesC inv;simp only[Par.donesV,ParC.EQ,true_and,and_true] at hq
    clear inv
    simp only[List.filterMap_cons,List.filterMap_nil,Par.putAll,Act.put,List.setIfInBounds_toArray,List.set_cons_succ,List.set_cons_zero,hq]
    clear hq
    have hp:=(Rg.Ch.fin hR (by decide) 2 rfl).2;have HP9:=hid hp;clear hp hR
    try clear a'
    go_wp2
    go_roundw
    case rel=>
     obtain⟨x9,i9,f9,n9⟩:=HP9.out.pre HE3.out
     have hl:=HLL.out
     have hk2:=HKM.out
     rw[←HDE.out]
     refine⟨k+1,x9,Q9,hk2,next_i64 (by omega),hid i9,HN2,hid ⟨fr_then2 HF.out f9,fun a ha=>by
      rcases n9 a ha with k|k
      · exact HF.out.2 a k
      · exact .inr (Nat.le_trans HF.out.1.size k)⟩,hid (ownsRow_fr HO.out f9 HOB.out),hid fun a ha hm=> ?_⟩
     rcases n9 a hm with k|k
     · exact HOB.out a ha k
     · obtain⟨cs,hc⟩:=row_kind HO.out a ha
       have:=(Array.getElem?_eq_some_iff.1 hc).1
       omega
    case measure=>exact next_lessN (by have:=HLL.out;have:=HKM.out;omega) HKM.out
  · obtain rfl:k=L'.length:=by omega
    have hki:decide ((L'.length:Int)<(L'.length:Int))=false:=by simp
    have hd:=HR.out
    rw[List.drop_length] at hd
    have HD:=hid hd.done
    clear hd HR hk hkm
    go_wp2
    go_returns
    refine⟨⟨_,rfl⟩,?_⟩
    rw[←HD.out]
    exact⟨xr,HI.out,HF.out.1,HF.out.2⟩
end Go.Proofs.YtcfgafododiioaaGreatDoor
set_option maxRecDepth 100000
namespace Go.Proofs.YtcfgafododiioaaGreatDoor
open Go Go.RowKit Go.Tum Go.ChangeMaps Go.Sort
open Go.ParB (upd Lof)
open Go.ParE (putS slotsR slots Closed)
structure SR where
 now:UInt64
 next:UInt64
 leases:UInt64
 turns:UInt64
 deaths:UInt64
 items:List It
 dead:List (UInt64×UInt64)
 curs:List Cur
theorem inj_of_nodup {α β:Type} {f:α→β} {l:List α} (h:(l.map f).Nodup) {a b:α} (ha:a∈l) (hb:b∈l) (e:f a=f b):a=b:=by
 unfold List.Nodup at h
 rw[List.pairwise_map] at h
 obtain⟨i,hi,e1⟩:=List.mem_iff_getElem.1 ha
 obtain⟨j,hj,e2⟩:=List.mem_iff_getElem.1 hb
 have:=List.pairwise_iff_getElem.1 h
 rcases Nat.lt_trichotomy i j with k|k|k
 · exact absurd (by rw[e1,e2];exact e) (this i j hi hj k)
 · subst k;rw[←e1,←e2]
 · exact absurd (by rw[e1,e2];exact e.symm) (this j i hj hi k)
def sortN (l:List It):List It:=l.mergeSort fun x y=> !(ltOf cfI y x)
theorem sortN_perm (l:List It):(sortN l).Perm l:=List.mergeSort_perm _ _
theorem sortN_pair (l:List It):(sortN l).Pairwise fun x y=>ltOf cfI y x=false:=by
 have:=List.pairwise_mergeSort (le:=fun x y=> !(ltOf cfI y x)) (fun a b c h1 h2=>by
  simp only[Bool.not_eq_true'] at*
  rw[lt_cfI] at*
  simp only[decide_eq_false_iff_not,u64_lt] at*
  omega) (fun a b=>by
  simp only[lt_cfI,Bool.or_eq_true,Bool.not_eq_true',decide_eq_false_iff_not,u64_lt]
  omega) l
 exact this.imp fun h=>by simpa using h
theorem sortN_of {l m:List It} (hn:(l.map It.id).Nodup) (h:m.Perm l) (hm:m.Pairwise fun x y=>ltOf cfI y x=false):m=sortN l:=by
 refine List.Perm.eq_of_pairwise (le:=fun x y=>ltOf cfI y x=false) (fun a b ha hb h1 h2=> ?_) hm (sortN_pair _) (h.trans (sortN_perm _).symm)
 rw[lt_cfI] at h1 h2
 simp only[decide_eq_false_iff_not,u64_lt] at h1 h2
 have e:a.id=b.id:=u64_eq.2 (by omega)
 exact inj_of_nodup hn (h.mem_iff.1 ha) ((sortN_perm _).mem_iff.1 hb) e
def stateQ (q:QR):SR:=⟨q.now,q.next,q.leases,q.turns,q.dd.last,sortN (q.its.map Prod.snd),sortP q.dd.rows,q.dd.seen⟩
abbrev srC (s:SR) (vi vd vc:Value):Array Value:= #[vU s.now,vU s.next,vU s.leases,vU s.turns,vU s.deaths,vi,vd,vc]
abbrev srV (s:SR) (vi vd vc:Value):Value:= .agg (srC s vi vd vc)
structure SrO (B:Nat) (w:World) (s:SR) (vi vd vc:Value):Prop where
 it:w.ownsRow B 79 10 vi s.items.length (s.items.flatMap itE)
 dd:w.ownsRow B 96 2 vd s.dead.length (s.dead.flatMap encR)
 cu:w.ownsRow B 123 2 vc s.curs.length (s.curs.flatMap encC)
theorem own_lower {w:World} {b b' e n s:Nat} {v:Value} {xs:List Value} (h:w.ownsRow b e s v n xs) (hb:b'≤b):w.ownsRow b' e s v n xs:=by
 refine⟨h.1,?_⟩
 rcases h.2 with hn|⟨g,cap,cur,hv,hg,rest⟩
 · exact .inl hn
 · exact .inr ⟨g,cap,cur,hv,Nat.le_trans hb hg,rest⟩
theorem st1_any (z:It) (w:World):Calls Tryz.prog 62 (#[itV z]++ #[]) w fun e w'=>e= .returned (.bool true)∧Ext w w':=by
 obtain⟨id,la,st,ct,du,tk,tu,sg,ps,sz⟩:=z
 show Calls Tryz.prog 62 #[itV ⟨id,la,st,ct,du,tk,tu,sg,ps,sz⟩] w _
 go_enter Tryz.func62,Tryz.ntmps62
 go_wp2
 go_ret
 exact⟨rfl,Ext.alloc _ _⟩
theorem enSt1 (args:Array Value) (w:World):Sem.run Tryz.prog (callFunc 62 args) w= .ok (.enter 62 args) w:=enter_of Tryz.func62 (by kernel_rfl) (by kernel_rfl) args w
def StQ (w W:World) (s:SR) (B N:Nat) (vi:Value) (i:Nat) (σ:Nat→Value) (w':World):Prop:=(i<4→Ext W w')∧match i with
 |0=>True
 |1=>w'.ownsRow B 96 2 (σ 34) s.dead.length (s.dead.flatMap encR)
 |2=>w'.ownsRow B 96 2 (σ 34) s.dead.length (s.dead.flatMap encR)∧w'.ownsRow B 123 2 (σ 39) s.curs.length (s.curs.flatMap encC)
 |3=>∃o1 k1 o2 k2,σ 40=srV s vi (.slice o1 s.dead.length k1) (.slice o2 s.curs.length k2)∧SrO B w' s vi (.slice o1 s.dead.length k1) (.slice o2 s.curs.length k2)
 |_=>∃vd vc,w'.heap[N]? =some (.cells (srC s vi vd vc) 63 (0,0))∧SrO B w' s vi vd vc∧Ext w w'
theorem SrO.ext {B:Nat} {w w':World} {s:SR} {vi vd vc:Value} (h:SrO B w s vi vd vc) (k:Ext w w'):SrO B w' s vi vd vc:=⟨k.owns h.it,k.owns h.dd,k.owns h.cu⟩
theorem row_off {w:World} {b e n s N:Nat} {v:Value} {xs:List Value} (h:w.ownsRow b e s v n xs) {cs:Array Value} {e':Nat} (hN:w.heap[N]? =some (.cells cs e' (0,0))) (hne:e≠e'):∀q∈oB v,q∉[N]:=fun q hq hm=>by
 rw[List.mem_singleton] at hm
 subst hm
 obtain⟨c,hc⟩:=row_kind h q hq
 rw[hN] at hc
 cases hc
 exact hne rfl
theorem blk8 {w:World} {b:Nat} {v0 v1 v2 v3 v4 v5 v6 v7:Value} {ty:TypeId} (h:w.heap[b]? =some (.cells #[v0,v1,v2,v3,v4,v5,v6,v7] ty (0,0))):
 w.cell? ⟨b,0,none⟩=some v0∧w.cell? ⟨b,1,none⟩=some v1∧w.cell? ⟨b,2,none⟩=some v2∧w.cell? ⟨b,3,none⟩=some v3∧w.cell? ⟨b,4,none⟩=some v4∧w.cell? ⟨b,5,none⟩=some v5∧w.cell? ⟨b,6,none⟩=some v6∧w.cell? ⟨b,7,none⟩=some v7∧∀i,w.frozen? ⟨b,i,none⟩=false:=by
 refine⟨?_,?_,?_,?_,?_,?_,?_,?_,?_⟩
 all_goals first|(rw[cell_of_row _ _ _ _ _ _ h];rfl)|exact fun i=>by simp[World.frozen?,h]
def setS (w:World) (b:Nat) (v0 v1 v2 v3 v4 v5 v6 v7:Value):World:=(((((((w.setCell ⟨b,0,none⟩ v0).setCell ⟨b,1,none⟩ v1).setCell ⟨b,2,none⟩ v2).setCell ⟨b,3,none⟩ v3).setCell ⟨b,4,none⟩ v4).setCell ⟨b,5,none⟩ v5).setCell ⟨b,6,none⟩ v6).setCell ⟨b,7,none⟩ v7
theorem setS_blk {w:World} {b:Nat} {u0 u1 u2 u3 u4 u5 u6 u7:Value} {ty:TypeId} (h:w.heap[b]? =some (.cells #[u0,u1,u2,u3,u4,u5,u6,u7] ty (0,0))) (v0 v1 v2 v3 v4 v5 v6 v7:Value):(setS w b v0 v1 v2 v3 v4 v5 v6 v7).heap[b]? =some (.cells #[v0,v1,v2,v3,v4,v5,v6,v7] ty (0,0)):=by
 have h1:=Go.Joins.block_setCell (i:=7) (Go.Joins.block_setCell (i:=6) (Go.Joins.block_setCell (i:=5) (Go.Joins.block_setCell (i:=4) (Go.Joins.block_setCell (i:=3) (Go.Joins.block_setCell (i:=2) (Go.Joins.block_setCell (i:=1) (Go.Joins.block_setCell (i:=0) h v0) v1) v2) v3) v4) v5) v6) v7
 unfold setS
 simpa using h1
theorem setS_fr (w:World) (b:Nat) (v0 v1 v2 v3 v4 v5 v6 v7:Value):Fr [b] w (setS w b v0 v1 v2 v3 v4 v5 v6 v7):=by
 have f:∀(w:World) (i:Nat) (u:Value),Fr [b] w (w.setCell ⟨b,i,none⟩ u):=fun w i u=>fr_setCell _ _ _ (by simp)
 unfold setS
 exact(((((((f _ _ _).trans (f _ _ _)).trans (f _ _ _)).trans (f _ _ _)).trans (f _ _ _)).trans (f _ _ _)).trans (f _ _ _)).trans (f _ _ _)
theorem st_store {w W w':World} {s:SR} {N:Nat} {vi vd vc:Value} (hW:Ext w W) (hx:Ext W w') (hN:W.heap[N]? =some (.cells #[.int .u64 0,.int .u64 0,.int .u64 0,.int .u64 0,.int .u64 0,.slice none 0 0,.slice none 0 0,.slice none 0 0] 63 (0,0))) (hl:w.heap.size≤N) (ho:SrO w.heap.size w' s vi vd vc):
 (setS w' N (vU s.now) (vU s.next) (vU s.leases) (vU s.turns) (vU s.deaths) vi vd vc).heap[N]? =some (.cells (srC s vi vd vc) 63 (0,0))∧SrO w.heap.size (setS w' N (vU s.now) (vU s.next) (vU s.leases) (vU s.turns) (vU s.deaths) vi vd vc) s vi vd vc∧Ext w (setS w' N (vU s.now) (vU s.next) (vU s.leases) (vU s.turns) (vU s.deaths) vi vd vc):=by
 have hb:=hx.obj hN
 have f:=setS_fr w' N (vU s.now) (vU s.next) (vU s.leases) (vU s.turns) (vU s.deaths) vi vd vc
 refine⟨setS_blk hb _ _ _ _ _ _ _ _,⟨ownsRow_fr ho.it f (row_off ho.it hb (by decide)),ownsRow_fr ho.dd f (row_off ho.dd hb (by decide)),ownsRow_fr ho.cu f (row_off ho.cu hb (by decide))⟩,?_⟩
 exact Below.trans (hW.trans hx) (f.below (by simpa using hl) (hW.trans hx).size)
theorem st_results (tmps:Array Value) (w:World) (b:Nat) (s:SR) (vi vd vc:Value) (h4:tmps.getD 2 undef= .pointer (some ⟨b,0,none⟩)) (m:w.heap[b]? =some (.cells (srC s vi vd vc) 63 (0,0))):
 (results Tryz.f23 tmps).run Tryz.prog w= .ok (srV s vi vd vc) w:=by
 have h4':tmps[2]?.getD undef= .pointer (some ⟨b,0,none⟩):=by simpa using h4
 obtain⟨m0,m1,m2,m3,m4,m5,m6,m7,-⟩:=blk8 m
 simp[results,Tryz.results23,go_sem,h4',m0,m1,m2,m3,m4,m5,m6,m7]
set_option maxHeartbeats 2000000 in
theorem state_any {B:Nat} {w:World} {p:Nat} {x:XP} {q:QR} (h:IX B w p x q) (hq:WQ q) (hw:WD q.dd) (ht:TB w):
 Calls Tryz.prog 23 #[pv p] w fun e w'=>(∃vi vd vc,e= .returned (srV (stateQ q) vi vd vc)∧SrO w.heap.size w' (stateQ q) vi vd vc)∧Ext w w':=by
 obtain⟨w1,hw1⟩:∃W,w.alloc (.cells #[.int .u64 0,.int .u64 0,.int .u64 0,.int .u64 0,.int .u64 0,.slice none 0 0,.slice none 0 0,.slice none 0 0] 63 (0,0))=W:=⟨_,rfl⟩
 have e1:Ext w w1:=by rw[←hw1];exact Ext.alloc _ _
 have hb1:w1.heap[w.heap.size]? =some (.cells #[.int .u64 0,.int .u64 0,.int .u64 0,.int .u64 0,.int .u64 0,.slice none 0 0,.slice none 0 0,.slice none 0 0] 63 (0,0)):=by rw[←hw1];exact heap_alloc_new _ _
 have h1:=h.ext e1
 have hwh:=iwhich_any (fun _=>true) 62 #[] h1 (by have:=hq.ln;omega) enSt1 (fun w2 _ z=>st1_any z w2)
 rw[List.filter_eq_self.2 (by simp)] at hwh
 have H1:=hid h1
 have HE1:=hid e1
 have HB1:=hid hb1
 have HWH:=hid hwh
 have HQ:=hid hq
 have HWD:=hid hw
 have HTB:=hid ht
 obtain⟨S,hS⟩:∃S,stateQ q=S:=⟨_,rfl⟩
 have HS:=hid hS
 rw[hS]
 obtain⟨N2,hN2⟩:∃N,w.heap.size=N:=⟨_,rfl⟩
 rw[hN2] at HB1
 have HN2:=hid hN2
 clear h hq hw ht e1 hb1 h1 hwh hS
 go_enter Tryz.func23,Tryz.ntmps23
 go_wp2_with fail
 try rw[hN2]
 clear hw1
 refine Calls.mono HWH.out ?_
 rintro e w2 ⟨⟨m,v,hm,rfl,ho⟩,hx2⟩
 have HM:=hid hm
 have HX2:=hid hx2
 have HO2:=hid ho
 clear hm hx2 ho
 have hlm:m.length≤1000000:=by rw[HM.out.length_eq,List.length_map];have:=HQ.out.ln;omega
 have hst:=sortI_any cfI 64 m HO2.out hlm swoI enById byId_any
 have HST:=hid hst
 clear hst hlm
 go_wp2_with fail
 refine Calls.mono HST.out ?_
 rintro e w3 ⟨rfl,L,hL,hpw,ho3,hf3⟩
 have hL2:=sortN_of (by rw[HQ.out.ids];exact HQ.out.nd) (hL.trans HM.out) hpw
 have hlen:=hL.length_eq
 have hsi:S.items=sortN (q.its.map Prod.snd):=by rw[←HS.out];rfl
 rw[←hlen,hL2,←hsi] at ho3
 obtain⟨vo,vk,rfl⟩:=row_shape ho3
 have hx3:Ext w1 w3:=Below.trans HX2.out (hf3.below (row_lo HO2.out) HX2.out.size)
 have HX3:=hid hx3
 have HV:=hid (own_lower ho3 (Nat.le_trans (Nat.le_of_eq rfl) HE1.out.size))
 have HI3:=hid (H1.out.ext hx3)
 have HB3:=hid (hx3.obj HB1.out)
 have HE3:=hid (HE1.out.trans hx3)
 clear hL hpw ho3 hf3 hL2 hlen hsi hx3 HM HX2 HO2 HST HWH
 have C3:=hid (HI3.out.cells 3 (vU q.now) rfl)
 have C4:=hid (HI3.out.cells 4 (vU q.next) rfl)
 have C5:=hid (HI3.out.cells 5 (vU q.leases) rfl)
 have C6:=hid (HI3.out.cells 6 (vU q.turns) rfl)
 have C18:=hid (HI3.out.cells 18 (pv x.dp) rfl)
 have HSF:Hid (q.now=S.now∧q.next=S.next∧q.leases=S.leases∧q.turns=S.turns∧q.dd.last=S.deaths∧sortP q.dd.rows=S.dead∧q.dd.seen=S.curs):=hid (by rw[←HS.out];exact⟨rfl,rfl,rfl,rfl,rfl,rfl,rfl⟩)
 obtain⟨s1,s2,s3,s4,s5,s6,s7⟩:=HSF.out
 rw[s1] at C3
 rw[s2] at C4
 rw[s3] at C5
 rw[s4] at C6
 have HLA:Hid (∀W,Ext w3 W→Calls Tryz.prog 65 #[pv x.dp] W fun e w'=>e= .returned (vU S.deaths)∧W=w'):=hid fun W hx=>by rw[←s5];exact dlast_any (HI3.out.ext hx).de
 have HAL:Hid (∀W,Ext w3 W→Calls Tryz.prog 66 #[pv x.dp] W (WhiP W S.dead)):=hid fun W hx=>by rw[←s6];exact dall_any (HI3.out.ext hx).de
 have HCU:Hid (∀W,Ext w3 W→Calls Tryz.prog 67 #[pv x.dp] W (CurP W S.curs)):=hid fun W hx=>by rw[←s7];exact dcursors_any (HI3.out.ext hx).de HWD.out (TBx HTB.out (HE3.out.trans hx))
 clear s1 s2 s3 s4 s5 s6 s7 HSF
 obtain⟨DP,hDP⟩:∃d,x.dp=d:=⟨_,rfl⟩
 rw[hDP] at C18 HLA HAL HCU
 clear hDP
 go_wp2_with fail
 refine ParE.wp_region_e (l:=[_,_,_,_,_,_,_,_,_,_,_,_,_,_,_,_,_,_,_,_,_,_,_,_,_,_,_,_,_,_,_,_,_,_]) rfl (Rg.Ch [26,31,32,33] [34,39,40] (StQ w w3 S w.heap.size N2 (Value.slice vo S.items.length vk))) (ParC.VC [ParC.EQ (pv p),ParC.EQ (pv p),ParC.EQ (Value.pointer (some ⟨p,3,none⟩)),ParC.EQ (vU S.now),ParC.EQ (pv p),ParC.EQ (pv p),ParC.EQ (Value.pointer (some ⟨p,4,none⟩)),ParC.EQ (vU S.next),ParC.EQ (pv p),ParC.EQ (pv p),ParC.EQ (Value.pointer (some ⟨p,5,none⟩)),ParC.EQ (vU S.leases),ParC.EQ (pv p),ParC.EQ (pv p),ParC.EQ (Value.pointer (some ⟨p,6,none⟩)),ParC.EQ (vU S.turns),ParC.EQ (pv p),ParC.EQ (pv p),ParC.EQ (Value.pointer (some ⟨p,18,none⟩)),ParC.EQ (pv DP),ParC.EQ (vU S.deaths),ParC.EQ (Value.slice vo S.items.length vk),ParC.EQ (pv p),ParC.EQ (pv p),ParC.EQ (Value.pointer (some ⟨p,18,none⟩)),ParC.EQ (pv DP),(fun _=>True),ParC.EQ (pv p),ParC.EQ (pv p),ParC.EQ (Value.pointer (some ⟨p,18,none⟩)),ParC.EQ (pv DP),(fun _=>True),(fun _=>True),fun _=>True]) (by kernel_rfl) (by kernel_rfl) (Rg.Ch.start ⟨fun _=>Ext.draw _,trivial⟩) ?_ ?_
 · refine⟨fun L ρ w' hR hC hL hd hk=> ?_,?_⟩
   · obtain⟨(e0:ρ (.tmp 0)=pv p),-⟩:=hk;refine Par.val_k fun K hK=> ?_;unfold Par.val
     (go_simp;exact hK _ _ ⟨hR.other (by decide),rfl⟩)
   refine⟨fun L ρ w' hR hC hL hd hk=> ?_,?_⟩
   · obtain⟨(e0:ρ (.tmp 8)=pv p),-⟩:=hk;refine Par.val_k fun K hK=> ?_;unfold Par.val
     (go_simp;exact hK _ _ ⟨hR.other (by decide),rfl⟩)
   refine⟨fun _ _ _ hR _ _ _ hk=>Par.pv [(9,pv p)] hk (by kernel_rfl) ⟨hR.other (by decide),rfl⟩,?_⟩
   refine⟨fun L ρ w' hR hC hL hd hk=> ?_,?_⟩
   · obtain⟨(e0:ρ (.tmp 10)=Value.pointer (some ⟨p,3,none⟩)),-⟩:=hk;refine Par.val_k fun K hK=> ?_;unfold Par.val
     (obtain⟨i,hi,hq⟩:=hR.some 3 rfl (hC.notyet 33 3 hL (by kernel_rfl));have hx:=hq.1 (by omega);have cc:=hx.cell C3.out;go_simp;exact hK _ _ ⟨hR.other (by decide),rfl⟩)
   refine⟨fun L ρ w' hR hC hL hd hk=> ?_,?_⟩
   · obtain⟨(e0:ρ (.tmp 0)=pv p),-⟩:=hk;refine Par.val_k fun K hK=> ?_;unfold Par.val
     (go_simp;exact hK _ _ ⟨hR.other (by decide),rfl⟩)
   refine⟨fun L ρ w' hR hC hL hd hk=> ?_,?_⟩
   · obtain⟨(e0:ρ (.tmp 12)=pv p),-⟩:=hk;refine Par.val_k fun K hK=> ?_;unfold Par.val
     (go_simp;exact hK _ _ ⟨hR.other (by decide),rfl⟩)
   refine⟨fun _ _ _ hR _ _ _ hk=>Par.pv [(13,pv p)] hk (by kernel_rfl) ⟨hR.other (by decide),rfl⟩,?_⟩
   refine⟨fun L ρ w' hR hC hL hd hk=> ?_,?_⟩
   · obtain⟨(e0:ρ (.tmp 14)=Value.pointer (some ⟨p,4,none⟩)),-⟩:=hk;refine Par.val_k fun K hK=> ?_;unfold Par.val
     (obtain⟨i,hi,hq⟩:=hR.some 3 rfl (hC.notyet 33 7 hL (by kernel_rfl));have hx:=hq.1 (by omega);have cc:=hx.cell C4.out;go_simp;exact hK _ _ ⟨hR.other (by decide),rfl⟩)
   refine⟨fun L ρ w' hR hC hL hd hk=> ?_,?_⟩
   · obtain⟨(e0:ρ (.tmp 0)=pv p),-⟩:=hk;refine Par.val_k fun K hK=> ?_;unfold Par.val
     (go_simp;exact hK _ _ ⟨hR.other (by decide),rfl⟩)
   refine⟨fun L ρ w' hR hC hL hd hk=> ?_,?_⟩
   · obtain⟨(e0:ρ (.tmp 16)=pv p),-⟩:=hk;refine Par.val_k fun K hK=> ?_;unfold Par.val
     (go_simp;exact hK _ _ ⟨hR.other (by decide),rfl⟩)
   refine⟨fun _ _ _ hR _ _ _ hk=>Par.pv [(17,pv p)] hk (by kernel_rfl) ⟨hR.other (by decide),rfl⟩,?_⟩
   refine⟨fun L ρ w' hR hC hL hd hk=> ?_,?_⟩
   · obtain⟨(e0:ρ (.tmp 18)=Value.pointer (some ⟨p,5,none⟩)),-⟩:=hk;refine Par.val_k fun K hK=> ?_;unfold Par.val
     (obtain⟨i,hi,hq⟩:=hR.some 3 rfl (hC.notyet 33 11 hL (by kernel_rfl));have hx:=hq.1 (by omega);have cc:=hx.cell C5.out;go_simp;exact hK _ _ ⟨hR.other (by decide),rfl⟩)
   refine⟨fun L ρ w' hR hC hL hd hk=> ?_,?_⟩
   · obtain⟨(e0:ρ (.tmp 0)=pv p),-⟩:=hk;refine Par.val_k fun K hK=> ?_;unfold Par.val
     (go_simp;exact hK _ _ ⟨hR.other (by decide),rfl⟩)
   refine⟨fun L ρ w' hR hC hL hd hk=> ?_,?_⟩
   · obtain⟨(e0:ρ (.tmp 20)=pv p),-⟩:=hk;refine Par.val_k fun K hK=> ?_;unfold Par.val
     (go_simp;exact hK _ _ ⟨hR.other (by decide),rfl⟩)
   refine⟨fun _ _ _ hR _ _ _ hk=>Par.pv [(21,pv p)] hk (by kernel_rfl) ⟨hR.other (by decide),rfl⟩,?_⟩
   refine⟨fun L ρ w' hR hC hL hd hk=> ?_,?_⟩
   · obtain⟨(e0:ρ (.tmp 22)=Value.pointer (some ⟨p,6,none⟩)),-⟩:=hk;refine Par.val_k fun K hK=> ?_;unfold Par.val
     (obtain⟨i,hi,hq⟩:=hR.some 3 rfl (hC.notyet 33 15 hL (by kernel_rfl));have hx:=hq.1 (by omega);have cc:=hx.cell C6.out;go_simp;exact hK _ _ ⟨hR.other (by decide),rfl⟩)
   refine⟨fun L ρ w' hR hC hL hd hk=> ?_,?_⟩
   · obtain⟨(e0:ρ (.tmp 0)=pv p),-⟩:=hk;refine Par.val_k fun K hK=> ?_;unfold Par.val
     (go_simp;exact hK _ _ ⟨hR.other (by decide),rfl⟩)
   refine⟨fun L ρ w' hR hC hL hd hk=> ?_,?_⟩
   · obtain⟨(e0:ρ (.tmp 24)=pv p),-⟩:=hk;refine Par.val_k fun K hK=> ?_;unfold Par.val
     (go_simp;exact hK _ _ ⟨hR.other (by decide),rfl⟩)
   refine⟨fun _ _ _ hR _ _ _ hk=>Par.pv [(25,pv p)] hk (by kernel_rfl) ⟨hR.other (by decide),rfl⟩,?_⟩
   refine⟨fun L ρ w' hR hC hL hd hk=> ?_,?_⟩
   · obtain⟨(e0:ρ (.tmp 26)=Value.pointer (some ⟨p,18,none⟩)),-⟩:=hk;refine Par.val_k fun K hK=> ?_;unfold Par.val
     (obtain⟨i,hi,hq⟩:=hR.some 3 rfl (hC.notyet 33 19 hL (by kernel_rfl));have hx:=hq.1 (by omega);have cc:=hx.cell C18.out;go_simp;exact hK _ _ ⟨hR.other (by decide),rfl⟩)
   refine⟨fun L ρ w' hR hC hL hd hk=> ?_,?_⟩
   · obtain⟨e0,(e1:ρ (.tmp 27)=pv DP),-⟩:=hk;refine Par.val_k fun K hK=> ?_;unfold Par.val
     (obtain⟨i,hi,hq⟩:=hR.some 3 rfl (hC.notyet 33 20 hL (by kernel_rfl));have hx:=hq.1 (by omega);refine Par.val_call Tryz.func65 (by kernel_rfl) rfl e0 ?_;simp only[List.map_toArray,List.map_cons,List.map_nil,e1];refine(HLA.out _ hx).mono ?_;rintro e w5 ⟨rfl,rfl⟩;exact⟨_,rfl,hK _ _ ⟨hR.other (by decide),rfl⟩⟩)
   refine⟨fun L ρ w' hR hC hL hd hk=> ?_,?_⟩
   · obtain⟨(e0:ρ (.tmp 3)=Value.slice vo S.items.length vk),-⟩:=hk;refine Par.val_k fun K hK=> ?_;unfold Par.val
     (go_simp;exact hK _ _ ⟨hR.other (by decide),rfl⟩)
   refine⟨fun L ρ w' hR hC hL hd hk=> ?_,?_⟩
   · obtain⟨(e0:ρ (.tmp 0)=pv p),-⟩:=hk;refine Par.val_k fun K hK=> ?_;unfold Par.val
     (go_simp;exact hK _ _ ⟨hR.other (by decide),rfl⟩)
   refine⟨fun L ρ w' hR hC hL hd hk=> ?_,?_⟩
   · obtain⟨(e0:ρ (.tmp 30)=pv p),-⟩:=hk;refine Par.val_k fun K hK=> ?_;unfold Par.val
     (go_simp;exact hK _ _ ⟨hR.other (by decide),rfl⟩)
   refine⟨fun _ _ _ hR _ _ _ hk=>Par.pv [(31,pv p)] hk (by kernel_rfl) ⟨hR.other (by decide),rfl⟩,?_⟩
   refine⟨fun L ρ w' hR hC hL hd hk=> ?_,?_⟩
   · obtain⟨(e0:ρ (.tmp 32)=Value.pointer (some ⟨p,18,none⟩)),-⟩:=hk;refine Par.val_k fun K hK=> ?_;unfold Par.val
     (obtain⟨i,hi,hq⟩:=hR.some 3 rfl (hC.notyet 33 25 hL (by kernel_rfl));have hx:=hq.1 (by omega);have cc:=hx.cell C18.out;go_simp;exact hK _ _ ⟨hR.other (by decide),rfl⟩)
   refine⟨fun L ρ w' hR hC hL hd hk=> ?_,?_⟩
   · obtain⟨e0,(e1:ρ (.tmp 33)=pv DP),-⟩:=hk;refine Par.val_k fun K hK=> ?_;unfold Par.val
     (obtain⟨hq,hs⟩:=hR.go 0 rfl hL (.inl rfl) (by decide);have hx:=hq.1 (by decide);refine Par.val_call Tryz.func66 (by kernel_rfl) rfl e0 ?_;simp only[List.map_toArray,List.map_cons,List.map_nil,e1];refine(HAL.out _ hx).mono ?_;rintro e w5 ⟨⟨v5,rfl,ho5⟩,hx5⟩;exact⟨_,rfl,hK _ _ ⟨hs _ _ _ ⟨fun _=>hx.trans hx5,own_lower ho5 (HE3.out.trans hx).size⟩,trivial⟩⟩)
   refine⟨fun L ρ w' hR hC hL hd hk=> ?_,?_⟩
   · obtain⟨(e0:ρ (.tmp 0)=pv p),-⟩:=hk;refine Par.val_k fun K hK=> ?_;unfold Par.val
     (go_simp;exact hK _ _ ⟨hR.other (by decide),rfl⟩)
   refine⟨fun L ρ w' hR hC hL hd hk=> ?_,?_⟩
   · obtain⟨(e0:ρ (.tmp 35)=pv p),-⟩:=hk;refine Par.val_k fun K hK=> ?_;unfold Par.val
     (go_simp;exact hK _ _ ⟨hR.other (by decide),rfl⟩)
   refine⟨fun _ _ _ hR _ _ _ hk=>Par.pv [(36,pv p)] hk (by kernel_rfl) ⟨hR.other (by decide),rfl⟩,?_⟩
   refine⟨fun L ρ w' hR hC hL hd hk=> ?_,?_⟩
   · obtain⟨(e0:ρ (.tmp 37)=Value.pointer (some ⟨p,18,none⟩)),-⟩:=hk;refine Par.val_k fun K hK=> ?_;unfold Par.val
     (obtain⟨i,hi,hq⟩:=hR.some 3 rfl (hC.notyet 33 30 hL (by kernel_rfl));have hx:=hq.1 (by omega);have cc:=hx.cell C18.out;go_simp;exact hK _ _ ⟨hR.other (by decide),rfl⟩)
   refine⟨fun L ρ w' hR hC hL hd hk=> ?_,?_⟩
   · obtain⟨e0,(e1:ρ (.tmp 38)=pv DP),-⟩:=hk;refine Par.val_k fun K hK=> ?_;unfold Par.val
     (obtain⟨hq,hs⟩:=hR.go 1 rfl hL (.inr ⟨26,rfl,hC.before 26 (i:=31) rfl hd (by kernel_rfl)⟩) (by decide);have hx:=hq.1 (by decide);refine Par.val_call Tryz.func67 (by kernel_rfl) rfl e0 ?_;simp only[List.map_toArray,List.map_cons,List.map_nil,e1];refine(HCU.out _ hx).mono ?_;rintro e w5 ⟨⟨v5,rfl,ho5⟩,hx5⟩;exact⟨_,rfl,hK _ _ ⟨hs _ _ _ ⟨fun _=>hx.trans hx5,hx5.owns hq.2,own_lower ho5 (HE3.out.trans hx).size⟩,trivial⟩⟩)
   refine⟨fun L ρ w' hR hC hL hd hk=> ?_,?_⟩
   · obtain⟨(e0:ρ (.tmp 11)=vU S.now),(e1:ρ (.tmp 15)=vU S.next),(e2:ρ (.tmp 19)=vU S.leases),(e3:ρ (.tmp 23)=vU S.turns),(e4:ρ (.tmp 28)=vU S.deaths),(e5:ρ (.tmp 29)=Value.slice vo S.items.length vk),(e6:(fun _=>True) (ρ (.tmp 34))),(e7:(fun _=>True) (ρ (.tmp 39))),-⟩:=hk;refine Par.val_k fun K hK=> ?_;unfold Par.val
     (obtain⟨hq,hs⟩:=hR.go 2 rfl hL (.inr ⟨31,rfl,hC.before 31 (i:=32) rfl hd (by kernel_rfl)⟩) (by decide);have hx:=hq.1 (by decide);obtain⟨o1,k1,s1⟩:=row_shape hq.2.1;obtain⟨o2,k2,s2⟩:=row_shape hq.2.2;have hA:=hq.2.1;have hB:=hq.2.2;rw[s1] at hA;rw[s2] at hB;have s1:ρ (.tmp 34)= .slice o1 S.dead.length k1:=s1;have s2:ρ (.tmp 39)= .slice o2 S.curs.length k2:=s2;have HA:=hid hA;have HB:=hid hB;clear hq hA hB;go_simp;exact hK _ _ ⟨hs _ _ _ ⟨fun _=>hx,o1,k1,o2,k2,rfl,⟨hx.owns HV.out,HA.out,HB.out⟩⟩,trivial⟩)
   refine⟨fun L ρ w' hR hC hL hd hk=> ?_,?_⟩
   · obtain⟨(e0:ρ (.tmp 2)=pv N2),(e1:(fun _=>True) (ρ (.tmp 40))),-⟩:=hk;refine Par.val_k fun K hK=> ?_;unfold Par.val
     (obtain⟨hq,hs⟩:=hR.go 3 rfl hL (.inr ⟨32,rfl,hC.before 32 (i:=33) rfl hd (by kernel_rfl)⟩) (by decide);have hx:=hq.1 (by decide);obtain⟨o1,k1,o2,k2,h40,ho⟩:=hq.2;have e40:ρ (.tmp 40)=srV S (.slice vo S.items.length vk) (.slice o1 S.dead.length k1) (.slice o2 S.curs.length k2):=h40;obtain⟨cc0,cc1,cc2,cc3,cc4,cc5,cc6,cc7,ff⟩:=blk8 (hx.obj HB3.out);have ff0:=ff 0;have ff1:=ff 1;have ff2:=ff 2;have ff3:=ff 3;have ff4:=ff 4;have ff5:=ff 5;have ff6:=ff 6;have ff7:=ff 7;have hF:=hid (st_store HE3.out hx HB3.out (Nat.le_of_eq HN2.out) ho);clear ff ho h40;go_simp;exact hK _ _ ⟨hs none _ _ ⟨fun h=>absurd h (by decide),_,_,hF.out⟩,trivial⟩)
   trivial
 intro a' w' inv hR
 have q34:(fun _=>True) (a'.tmps.getD 34 undef):=inv.done 26 _ 34 rfl rfl rfl
 have q39:(fun _=>True) (a'.tmps.getD 39 undef):=inv.done 31 _ 39 rfl rfl rfl
 have q40:(fun _=>True) (a'.tmps.getD 40 undef):=inv.done 32 _ 40 rfl rfl rfl
 have hq:=Par.donesC inv;simp only[Par.donesV,ParC.EQ,true_and,and_true] at hq
 clear inv
 simp only[List.filterMap_cons,List.filterMap_nil,Par.putAll,Act.put,List.setIfInBounds_toArray,List.set_cons_succ,List.set_cons_zero,hq]
 clear hq
 have hp:=(Rg.Ch.fin hR (by decide) 4 rfl).2;have HP:=hid hp;clear hp hR
 generalize a'.tmps.getD 34 undef=u34 at*
 generalize a'.tmps.getD 39 undef=u39 at*
 generalize a'.tmps.getD 40 undef=u40 at*
 try clear a'
 obtain⟨vd,vc,hN,ho,hx⟩:=HP.out
 have HO:=hid ho
 have HX:=hid hx
 have HNN:=hid hN
 clear hN ho hx HP
 go_wp2
 refine bodyPost_ret (st_results _ w' N2 S _ vd vc rfl HNN.out) rfl ?_
 exact⟨⟨_,vd,vc,rfl,HO.out⟩,HX.out⟩
end Go.Proofs.YtcfgafododiioaaGreatDoor
