/- Texts of a claim, side by side. -/
import Derived.Test.YtcfgafododiioaaGreatDoorC11
import Derived.Test.YtcfgafododiioaaGreatDoorC36
set_option linter.unusedSimpArgs false
set_option linter.unusedVariables false
set_option maxRecDepth 100000
namespace Go.Proofs.YtcfgafododiioaaGreatDoor
open Go Go.RowKit Go.Tum Go.ChangeMaps Go.Sort
open Go.ParB (upd Lof)
open Go.ParE (putS slotsR slots Closed)
theorem IX.lower {B B':Nat} {w:World} {p:Nat} {x:XP} {q:QR} (h:IX B w p x q) (k:B'≤B):IX B' w p x q:=
 ⟨h.hd,h.im,h.ni,h.hm,h.nh,h.ne,h.ln,h.rw,⟨⟨h.du.tr.hd,h.du.tr.ti,h.du.tr.pl,h.du.tr.ow.mono k,h.du.tr.nd,h.du.tr.ne⟩,h.du.has,h.du.hp,Nat.le_trans k h.du.bp,Nat.le_trans k h.du.bt,Nat.le_trans k h.du.bm⟩,h.de,
  ⟨h.sp.ap,fun i hi a ha=>⟨Nat.le_trans k (h.sp.lo i hi a ha).1,(h.sp.lo i hi a ha).2⟩⟩⟩
theorem rest_ok {la pa de:Int} {s:SR} (hc:rightC la pa de=true) (h:restOk la pa de s=true):∃d,fromD s.deaths s.dead s.curs=some d∧
 ∀z∈s.items,(0≤z.lane∧z.lane<8)∧(z.st=1∨z.st=2∨z.st=3∨z.st=4)∧(z.st=4→(d.rows.lookup z.id).isSome=true):=by
 have hcf:1≤la∧la≤8∧0≤pa∧pa≤64∧1≤de∧de≤20:=by unfold rightC at hc;simpa using hc
 unfold restOk at h
 split at h
 · cases h
 · rename_i d hd
   refine⟨d,hd,fun z hz=> ?_⟩
   simp only[Bool.and_eq_true] at h
   obtain⟨-,h2,h3⟩:=h
   unfold itemsOk at h2
   simp only[Bool.and_eq_true,List.all_eq_true,decide_eq_true_eq] at h2
   unfold deadOk at h3
   simp only[Bool.and_eq_true,List.all_eq_true,decide_eq_true_eq] at h3
   have k:=h2.1 z hz
   unfold itOk lifeOk at k
   simp only[Bool.and_eq_true,decide_eq_true_eq] at k
   exact⟨⟨k.1.1,by omega⟩,k.2.st,fun h4=>h3.1 z (List.mem_filter.2 ⟨hz,by simpa using h4⟩)⟩
def IfrP (N:Nat) (w:World) (la pa de:Int) (s:SR) (e:Ending) (w':World):Prop:=(if(rightC la pa de && stateOk la pa de s)=true then∃X x q,e= .returned (.tuple #[pv X,.int .i64 0])∧IX w.heap.size w' X x q∧MadeR N la pa de s q
 else e= .returned (.tuple #[.pointer none,.int .i64 1]))∧Ext w w'
set_option maxHeartbeats 2000000 in
theorem ifrom_any {w:World} {s:SR} (N:Nat) (la pa de:Int) {ao bo co:Option Addr} {cap cb cc:Nat} (hi:Sl w 10 (.slice ao s.items.length cap) s.items.length (s.items.flatMap itE)) (hd:Sl w 2 (.slice bo s.dead.length cb) s.dead.length (s.dead.flatMap encR))
 (hc:Sl w 2 (.slice co s.curs.length cc) s.curs.length (s.curs.flatMap encC)) (ht:TB w) (hlr:s.dead.length≤99999) (hln:∀z∈s.curs,z.1.length≤100000) (hN:countOk s=true→s.leases.toNat≤N∧s.turns.toNat≤N∧s.deaths.toNat≤N):
 Calls Tryz.prog 28 #[ccV la pa de,srV s (.slice ao s.items.length cap) (.slice bo s.dead.length cb) (.slice co s.curs.length cc)] w (IfrP N w la pa de s):=by
 obtain⟨W1,hW1⟩:∃W,w.alloc (ccO la pa de)=W:=⟨_,rfl⟩
 obtain⟨W2,hW2⟩:∃W,W1.alloc (srO s (.slice ao s.items.length cap) (.slice bo s.dead.length cb) (.slice co s.curs.length cc))=W:=⟨_,rfl⟩
 have e1:Ext w W1:=by rw[←hW1];exact Ext.alloc _ _
 have e2:Ext W1 W2:=by rw[←hW2];exact Ext.alloc _ _
 have b1:W1.heap[w.heap.size]? =some (ccO la pa de):=by rw[←hW1];exact heap_alloc_new _ _
 have b2:W2.heap[W1.heap.size]? =some (srO s (.slice ao s.items.length cap) (.slice bo s.dead.length cb) (.slice co s.curs.length cc)):=by rw[←hW2];exact heap_alloc_new _ _
 have HE:=hid (e1.trans e2)
 have HB1:=hid (e2.obj b1)
 have HB2:=hid b2
 have HS:=hid (fun W (k:Ext w W)=>stateRight_any la pa de (hi.ext k) (hd.ext k) (hc.ext k) (TBx ht k) hlr hln)
 have HM:=hid (fun W (k:Ext w W) d h1 h2 h3=>made_any la pa de (hi.ext k) (hd.ext k) (hc.ext k) (TBx ht k) hlr hln (d:=d) h1 h2 h3)
 obtain⟨P,hP⟩:∃P,IfrP N w la pa de s=P:=⟨_,rfl⟩
 have HP:=hid hP
 rw[hP]
 have HN:=hid hN
 obtain⟨x0,x1,x2,-⟩:=lk3 (e2.obj b1)
 clear e1 e2 b1 b2 hi hd hc ht hlr hln hP hN
 go_enter Tryz.func28,Tryz.ntmps28
 go_wp2_with fail
 refine(right_any11 la pa de W2).mono ?_
 rintro e w3 ⟨rfl,hx3⟩
 have HE3:=hid (HE.out.trans hx3)
 have HB1:=hid (hx3.obj HB1.out)
 have HB2:=hid (hx3.obj HB2.out)
 obtain⟨c,hc⟩:∃g,w.heap.size=g:=⟨_,rfl⟩
 obtain⟨g,hg⟩:∃g,W1.heap.size=g:=⟨_,rfl⟩
 rw[hc] at HB1
 rw[hg] at HB2
 try rw[hc]
 try rw[hg]
 have HC:=hid hc
 clear hx3 hW1 hW2 hg hc x0 x1 x2
 obtain⟨q1,hq1⟩:∃b,rightC la pa de=b:=⟨_,rfl⟩
 have HQ1:=hid hq1
 rw[hq1]
 clear hq1
 obtain⟨x0,x1,x2,-⟩:=lk3 HB1.out
 obtain⟨y0,y1,y2,y3,y4,y5,y6,y7,-⟩:=blk8 HB2.out
 cases q1
 case false=>
  go_wp2
  rw[←HP.out]
  exact⟨by rw[if_neg (by rw[HQ1.out];simp)];rfl,HE3.out⟩
 case true=>
  go_wp2_with fail
  refine(HS.out _ HE3.out).mono ?_
  rintro e w4 ⟨rfl,hx4⟩
  have HE4:=hid (HE3.out.trans hx4)
  have HB1:=hid (hx4.obj HB1.out)
  have HB2:=hid (hx4.obj HB2.out)
  clear hx4 x0 x1 x2 y0 y1 y2 y3 y4 y5 y6 y7
  obtain⟨q1,hq1⟩:∃b,stateOk la pa de s=b:=⟨_,rfl⟩
  have HQ2:=hid hq1
  rw[hq1]
  clear hq1
  obtain⟨x0,x1,x2,-⟩:=lk3 HB1.out
  obtain⟨y0,y1,y2,y3,y4,y5,y6,y7,-⟩:=blk8 HB2.out
  cases q1
  case false=>
   go_wp2
   rw[←HP.out]
   exact⟨by rw[if_neg (by rw[HQ1.out,HQ2.out];simp)];rfl,HE4.out⟩
  case true=>
   have hs2:countOk s=true∧restOk la pa de s=true:=by
    have:=HQ2.out
    unfold stateOk at this
    simpa using this
   obtain⟨d,hd1,hd2⟩:=rest_ok HQ1.out hs2.2
   have hl:s.items.length≤200:=by
    have:=hs2.1
    unfold countOk at this
    simp at this
    exact this.2.2.2
   have hm:=HM.out w4 HE4.out d hd1 hl hd2
   have HMM:=hid hm
   have HF:=hid (fun m h1 h2=>made_of (N:=N) (m:=m) HQ1.out hd1 hs2.2 hl (HN.out hs2.1) h1 h2)
   clear hs2 hd1 hd2 hl hm
   go_wp2_with fail
   refine HMM.out.mono ?_
   rintro e w5 ⟨X,x,m,rfl,h1,h2,hI,hx5⟩
   have HI:=hid hI
   have HR:=hid (HF.out m h1 h2)
   have HE5:=hid (HE4.out.trans hx5)
   clear h1 h2 hI hx5
   go_wp2
   rw[←HP.out]
   exact⟨by rw[if_pos (by rw[HQ1.out,HQ2.out];rfl)];exact⟨X,x,_,rfl,HI.out.lower HE4.out.size,HR.out⟩,HE5.out⟩
def s0R:SR:=⟨0,1,0,0,0,[],[],[]⟩
theorem s0_ok (la pa de:Int):stateOk la pa de s0R=true:=by
 simp[stateOk,countOk,restOk,s0R,fromD,takeR,takeCs,takeC,idsL,itemsOk,turnsOf,toksOf,deadOk,deadsOf]
def NewP (w:World) (la pa de:Int) (e:Ending) (w':World):Prop:=(if rightC la pa de=true then∃X x q,e= .returned (.tuple #[pv X,.int .i64 0])∧IX w.heap.size w' X x q∧MadeR 0 la pa de s0R q
 else e= .returned (.tuple #[.pointer none,.int .i64 1]))∧Ext w w'
set_option maxHeartbeats 1000000 in
theorem inew_any {w:World} (la pa de:Int) (ht:TB w):Calls Tryz.prog 15 #[ccV la pa de] w (NewP w la pa de):=by
 obtain⟨W1,hW1⟩:∃W,w.alloc (ccO la pa de)=W:=⟨_,rfl⟩
 have e1:Ext w W1:=by rw[←hW1];exact Ext.alloc _ _
 have b1:W1.heap[w.heap.size]? =some (ccO la pa de):=by rw[←hW1];exact heap_alloc_new _ _
 obtain⟨x0,x1,x2,-⟩:=lk3 b1
 have HE:=hid e1
 have hf:=ifrom_any (w:=W1) (s:=s0R) 0 la pa de (ao:=none) (bo:=none) (co:=none) (cap:=0) (cb:=0) (cc:=0) (Sl.nil _ _) (Sl.nil _ _) (Sl.nil _ _) (TBx ht e1) (by simp[s0R]) (by simp[s0R]) (fun _=>⟨Nat.le_refl _,Nat.le_refl _,Nat.le_refl _⟩)
 have HF:Hid (Calls Tryz.prog 28 #[ccV la pa de,.agg #[.int .u64 0,.int .u64 1,.int .u64 0,.int .u64 0,.int .u64 0,.slice none 0 0,.slice none 0 0,.slice none 0 0]] W1 (IfrP 0 W1 la pa de s0R)):=hid hf
 clear e1 b1 hf ht
 go_enter Tryz.func15,Tryz.ntmps15
 go_wp2_with fail
 clear hW1 x0 x1 x2
 refine HF.out.mono ?_
 rintro e w3 ⟨hf,hx3⟩
 rw[s0_ok,Bool.and_true] at hf
 have HE3:=hid (HE.out.trans hx3)
 clear hx3 HF
 obtain⟨q1,hq1⟩:∃b,rightC la pa de=b:=⟨_,rfl⟩
 have HQ1:=hid hq1
 rw[hq1] at hf
 clear hq1
 cases q1
 case false=>
  rw[if_neg (by simp)] at hf
  subst hf
  go_wp2
  go_returns
  exact⟨by rw[if_neg (by rw[HQ1.out];simp)];rfl,HE3.out⟩
 case true=>
  rw[if_pos rfl] at hf
  obtain⟨X,x,q,rfl,hI,hR⟩:=hf
  have HI:=hid hI
  have HR:=hid hR
  clear hI hR
  go_wp2
  go_returns
  exact⟨by rw[if_pos HQ1.out];exact⟨X,x,q,rfl,HI.out.lower HE.out.size,HR.out⟩,HE3.out⟩
def CpQ (N:Nat) (w:World) (q:QR) (i:Nat) (σ:Nat→Value) (w':World):Prop:=Ext w w'∧match i with
 |0=>True
 |1=>∃o1 k1 o2 k2 o3 k3,σ 8=srV (stateQ q) (.slice o1 (stateQ q).items.length k1) (.slice o2 (stateQ q).dead.length k2) (.slice o3 (stateQ q).curs.length k3)∧SrO w.heap.size w' (stateQ q) (.slice o1 (stateQ q).items.length k1) (.slice o2 (stateQ q).dead.length k2) (.slice o3 (stateQ q).curs.length k3)
 |2=>∃X x r,σ 9=pv X∧IX w.heap.size w' X x r∧MadeR N q.lanes q.pay q.del (stateQ q) r
 |_=>∃X x r,σ 2=pv X∧IX w.heap.size w' X x r∧MadeR N q.lanes q.pay q.del (stateQ q) r
theorem state_curs {q:QR} (hd:WD q.dd):∀z∈(stateQ q).curs,z.1.length≤100000:=fun z hz=>by
 have:=right_len (hd.sr z hz).1
 omega
theorem dead_len {q:QR} (hq:WQ q) (hd:WD q.dd):(stateQ q).dead.length≤200:=by
 show(sortP q.dd.rows).length≤200
 rw[hd.all]
 have:=nodup_le hq.dn (m:=q.its.map Prod.fst) fun a ha=>by
  obtain⟨y,hy,e⟩:=List.mem_map.1 ha
  obtain⟨z,hz,-⟩:=(hq.co.ded a).1 (by rw[←e,nodup_lku hq.dn hy];rfl)
  exact List.mem_map.2 ⟨_,look_in hz,rfl⟩
 rw[List.length_map,List.length_map] at this
 exact Nat.le_trans this hq.ln
set_option maxHeartbeats 2000000 in
theorem copy_any {B N:Nat} {w:World} {p:Nat} {x:XP} {q:QR} (h:IX B w p x q) (hq:XQ N q) (ht:TB w):
 Calls Tryz.prog 40 #[pv p] w fun e w'=>∃X x' r,e= .returned (pv X)∧IX w.heap.size w' X x' r∧MadeR N q.lanes q.pay q.del (stateQ q) r∧Ext w w':=by
 have C0:=hid (h.cells 0 (.int .i64 q.lanes) rfl)
 have C1:=hid (h.cells 1 (.int .i64 q.pay) rfl)
 have C2:=hid (h.cells 2 (.int .i64 q.del) rfl)
 have HST:=hid (fun W (k:Ext w W)=>state_any (h.ext k) hq.wi.wq hq.wi.wd (TBx ht k))
 have HT:=hid ht
 have HQ:=hid hq
 have HR:=hid (state_rest hq)
 obtain⟨d,hd1,hd2⟩:=rest_ok hq.wi.wq.right (state_rest hq)
 have HD1:=hid hd1
 have HD2:=hid hd2
 clear h hq ht hd1 hd2
 go_enter Tryz.func40,Tryz.ntmps40
 go_wp2_with fail
 refine ParE.wp_region_e (l:=[_,_,_,_,_,_,_,_]) rfl (Rg.Ch [5,6,7] [8,9,2] (CpQ N w q)) (ParC.VC [ParC.EQ (pv p),ParC.EQ (pv p),ParC.EQ (Value.pointer (some ⟨p,0,none⟩)),ParC.EQ (ccV q.lanes q.pay q.del),ParC.EQ (pv p),(fun _=>True),(fun _=>True),(fun _=>True)]) (by kernel_rfl) (by kernel_rfl) (Rg.Ch.start ⟨Ext.draw _,trivial⟩) ?_ ?_
 · refine⟨fun L ρ w' hR hC hL hd hk=> ?_,?_⟩
   · obtain⟨(e0:ρ (.tmp 0)=pv p),-⟩:=hk;refine Par.val_k fun K hK=> ?_;unfold Par.val
     (go_simp;exact hK _ _ ⟨hR.other (by decide),rfl⟩)
   refine⟨fun L ρ w' hR hC hL hd hk=> ?_,?_⟩
   · obtain⟨(e0:ρ (.tmp 3)=pv p),-⟩:=hk;refine Par.val_k fun K hK=> ?_;unfold Par.val
     (go_simp;exact hK _ _ ⟨hR.other (by decide),rfl⟩)
   refine⟨fun _ _ _ hR _ _ _ hk=>Par.pv [(4,pv p)] hk (by kernel_rfl) ⟨hR.other (by decide),rfl⟩,?_⟩
   refine⟨fun L ρ w' hR hC hL hd hk=> ?_,?_⟩
   · obtain⟨(e0:ρ (.tmp 5)=Value.pointer (some ⟨p,0,none⟩)),-⟩:=hk;refine Par.val_k fun K hK=> ?_;unfold Par.val
     (obtain⟨i,hi,hq⟩:=hR.some 1 rfl (hC.notyet 6 3 hL (by kernel_rfl));have hx:=hq.1;have cc0:=hx.cell C0.out;have cc1:=hx.cell C1.out;have cc2:=hx.cell C2.out;go_simp;exact hK _ _ ⟨hR.other (by decide),rfl⟩)
   refine⟨fun L ρ w' hR hC hL hd hk=> ?_,?_⟩
   · obtain⟨(e0:ρ (.tmp 0)=pv p),-⟩:=hk;refine Par.val_k fun K hK=> ?_;unfold Par.val
     (go_simp;exact hK _ _ ⟨hR.other (by decide),rfl⟩)
   refine⟨fun L ρ w' hR hC hL hd hk=> ?_,?_⟩
   · obtain⟨e0,(e1:ρ (.tmp 7)=pv p),-⟩:=hk;refine Par.val_k fun K hK=> ?_;unfold Par.val
     (obtain⟨hq,hs⟩:=hR.go 0 rfl hL (.inl rfl) (by decide);have hx:=hq.1;refine Par.val_call Tryz.func23 (by kernel_rfl) rfl e0 ?_;simp only[List.map_toArray,List.map_cons,List.map_nil,e1];refine(HST.out _ hx).mono ?_;rintro e w5 ⟨⟨vi,vd,vc,rfl,ho⟩,hx5⟩;obtain⟨o1,k1,rfl⟩:=row_shape ho.it;obtain⟨o2,k2,rfl⟩:=row_shape ho.dd;obtain⟨o3,k3,rfl⟩:=row_shape ho.cu;exact⟨_,rfl,hK _ _ ⟨hs _ _ _ ⟨hx.trans hx5,o1,k1,o2,k2,o3,k3,rfl,own_lower ho.it hx.size,own_lower ho.dd hx.size,own_lower ho.cu hx.size⟩,trivial⟩⟩)
   refine⟨fun L ρ w' hR hC hL hd hk=> ?_,?_⟩
   · obtain⟨e0,(e1:ρ (.tmp 6)=ccV q.lanes q.pay q.del),(e2:(fun _=>True) (ρ (.tmp 8))),-⟩:=hk;refine Par.val_k fun K hK=> ?_;unfold Par.val
     (obtain⟨hq,hs⟩:=hR.go 1 rfl hL (.inr ⟨5,rfl,hC.before 5 (i:=6) rfl hd (by kernel_rfl)⟩) (by decide);obtain⟨hx,o1,k1,o2,k2,o3,k3,h8,ho⟩:=hq;have s8:ρ (.tmp 8)=srV (stateQ q) (.slice o1 (stateQ q).items.length k1) (.slice o2 (stateQ q).dead.length k2) (.slice o3 (stateQ q).curs.length k3):=h8;refine Par.val_call Tryz.func71 (by kernel_rfl) rfl e0 ?_;simp only[List.map_toArray,List.map_cons,List.map_nil,e1,s8];refine(made_any (s:=stateQ q) q.lanes q.pay q.del (Sl.of_owns ho.it) (Sl.of_owns ho.dd) (Sl.of_owns ho.cu) (TBx HT.out hx) (by have:=dead_len HQ.out.wi.wq HQ.out.wi.wd;omega) (state_curs HQ.out.wi.wd) HD1.out (state_len HQ.out.wi.wq) HD2.out).mono ?_;rintro e w5 ⟨X,x5,m,rfl,h1,h2,hI,hx5⟩;exact⟨_,rfl,hK _ _ ⟨hs _ _ _ ⟨hx.trans hx5,X,x5,_,rfl,hI.lower hx.size,made_of HQ.out.wi.wq.right HD1.out HR.out (state_len HQ.out.wi.wq) ⟨HQ.out.wi.lo.le,HQ.out.wi.lo.tu,HQ.out.wi.lo.de⟩ h1 h2⟩,trivial⟩⟩)
   refine⟨fun L ρ w' hR hC hL hd hk=> ?_,?_⟩
   · obtain⟨(e0:(fun _=>True) (ρ (.tmp 9))),-⟩:=hk;refine Par.val_k fun K hK=> ?_;unfold Par.val
     (obtain⟨hq,hs⟩:=hR.go 2 rfl hL (.inr ⟨6,rfl,hC.before 6 (i:=7) rfl hd (by kernel_rfl)⟩) (by decide);obtain⟨hx,X,x5,r,h9,hI,hM⟩:=hq;have s9:ρ (.tmp 9)=pv X:=h9;have HI:=hid hI;have HM:=hid hM;clear hI hM h9;go_simp;exact hK _ _ ⟨hs _ _ _ ⟨hx,X,x5,r,rfl,HI.out,HM.out⟩,trivial⟩)
   trivial
 intro a' w' inv hR
 have q8:(fun _=>True) (a'.tmps.getD 8 undef):=inv.done 5 _ 8 rfl rfl rfl
 have q9:(fun _=>True) (a'.tmps.getD 9 undef):=inv.done 6 _ 9 rfl rfl rfl
 have q2:(fun _=>True) (a'.tmps.getD 2 undef):=inv.done 7 _ 2 rfl rfl rfl
 have hq:=Par.donesC inv;simp only[Par.donesV,ParC.EQ,true_and,and_true] at hq
 clear inv
 simp only[List.filterMap_cons,List.filterMap_nil,Par.putAll,Act.put,List.setIfInBounds_toArray,List.set_cons_succ,List.set_cons_zero,hq]
 clear hq
 have hp:=Rg.Ch.fin hR (by decide) 3 rfl;obtain⟨hx,X,x5,r,h2,hI,hM⟩:=hp;have h2:a'.tmps.getD 2 undef=pv X:=h2;have H2:=hid h2;have HX:=hid hx;have HI:=hid hI;have HM:=hid hM;clear hx h2 hI hM hR
 generalize a'.tmps.getD 8 undef=u8 at*
 generalize a'.tmps.getD 9 undef=u9 at*
 generalize a'.tmps.getD 2 undef=u2 at*
 try clear a'
 go_wp2
 go_returns
 exact⟨X,x5,r,by rw[←H2.out];rfl,HI.out,HM.out,HX.out⟩
end Go.Proofs.YtcfgafododiioaaGreatDoor
