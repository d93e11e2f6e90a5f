/- Texts of a claim, side by side. -/
import Derived.Test.YtcfgafododiioaaGreatDoorC9
import Derived.RangeFuncNested
import Derived.RangeFuncCalls
import Derived.RangeFuncLeaves
import Derived.RangeFuncBox
import Derived.Shelf.Abstract
import Derived.WalkKit
import Derived.OwnWalkIn
import Derived.TacticsInMore
import Derived.LoopNIn
import Derived.LoopIn
import Derived.Maps.AppendAt
import Derived.Test.YtcfgafododiioaaGreatDoorC1
set_option linter.unusedSimpArgs false
set_option linter.unusedVariables false
namespace Go.Proofs.YtcfgafododiioaaGreatDoor
open Go Go.RowKit Go.Tum Go.ChangeMaps
theorem lsB_append:∀(l r:List (UInt64×Nat)),lsB (l++r)=(lsB r).or (lsB l)
 |[],r=>by simp[lsB]
 |p::l,r=>by
  simp only[List.cons_append,lsB,lsB_append l r]
  cases lsB r<;>simp
theorem lookup_split:∀{l:List (UInt64×Nat)} {x:UInt64} {b:Nat},l.lookup x=some b→∃l1 l2,l=l1++(x,b)::l2
 |[],_,_,h=>by simp at h
 |(a,c)::r,x,b,h=>by
  rw[lk_cons] at h
  by_cases e:x=a
  · subst e;rw[if_pos rfl] at h;cases h
    exact⟨[],r,rfl⟩
  · rw[if_neg e] at h
    obtain⟨l1,l2,e2⟩:=lookup_split h
    exact⟨(a,c)::l1,l2,by rw[e2];rfl⟩
def DropP (w:World) (p m:Nat) (l:List (UInt64×Nat)) (x:UInt64) (e:Ending) (w':World):Prop:=
 e= .returned (.bool (decide (x∈ids l)))∧∃l',Lane w' p m l'∧l'=l.filter (fun q=>q.1 !=x)∧Fr (Bl p m l) w w'
set_option maxHeartbeats 1000000 in
theorem drop_any (w:World) (p m:Nat) (L:List (UInt64×Nat)) (x:UInt64) (h:Lane w p m L):
 Calls Tryz.prog 169 #[pv p,vU x] w (DropP w p m L x):=by
 have hlk:=h.mp.look x
 have H:=hid h
 cases hx:L.lookup x with
 |none=>
  rw[hx] at hlk
  have hn:=lookup_none.1 hx
  have HF:=hid (show L.filter (fun q=>q.1 !=x)=L by
   rw[List.filter_eq_self]
   intro q hq
   have:q.1≠x:=fun e=>hn (List.mem_map.2 ⟨q,hq,e⟩)
   simpa using this)
  have HN:=hid hn
  simp only[ptr] at hlk
  obtain⟨c0,c1,c2,-⟩:=lk3 h.hd
  clear hx hn c1 c2
  go_enter Tryz.func169,Tryz.ntmps169
  go_wp2
  go_ret
  unfold DropP
  exact⟨by rw[decide_eq_false HN.out];rfl,L,H.out,HF.out.symm,Fr.refl _ _⟩
 |some b=>
  rw[hx] at hlk
  simp only[ptr] at hlk
  obtain⟨l1,l2,hL⟩:=lookup_split hx
  have hmem:x∈ids L:=by rw[hL];simp
  have hpm:=h.p_ne_m
  have hpne:=h.p_ne
  have hmne:=h.m_ne
  have hni:=h.ni
  have hnb:=h.nb
  have hA:ChL w none l1 (some b)∧w.heap[b]? =some (linkO x ((lsB l1).or none) ((hdB l2).or none))∧ChL w (some b) l2 none:=by
   have:=h.ch
   rw[hL] at this
   have:=ChL.append.1 this
   exact⟨by simpa[hdB] using this.1,this.2.1,this.2.2⟩
  have hbp:b≠p:=hpne (x,b) (by rw[hL];simp)
  have hbm:b≠m:=hmne (x,b) (by rw[hL];simp)
  rw[hL] at hni hnb hpne hmne
  simp only[List.map_append,List.map_cons,List.nodup_append,List.nodup_cons] at hni hnb
  have hdis:∀q∈l1,q.2≠b∧∀q2∈l2,q.2≠q2.2:=fun q hq=>⟨hnb.2.2 q.2 (List.mem_map.2 ⟨q,hq,rfl⟩) b (by simp),fun q2 hq2=>hnb.2.2 q.2 (List.mem_map.2 ⟨q,hq,rfl⟩) q2.2 (List.mem_cons_of_mem _ (List.mem_map.2 ⟨q2,hq2,rfl⟩))⟩
  have hdis2:∀q∈l2,q.2≠b:=fun q hq e=>hnb.2.1.1 (List.mem_map.2 ⟨q,hq,e⟩)
  have hfil:(l1++(x,b)::l2).filter (fun q=>q.1 !=x)=l1++l2:=by
   rw[List.filter_append,List.filter_cons]
   have e1:l1.filter (fun q=>q.1 !=x)=l1:=by
    rw[List.filter_eq_self];intro q hq
    have:q.1≠x:=hni.2.2 q.1 (List.mem_map.2 ⟨q,hq,rfl⟩) x (by simp)
    simpa using this
   have e2:l2.filter (fun q=>q.1 !=x)=l2:=by
    rw[List.filter_eq_self];intro q hq
    have:q.1≠x:=fun e=>hni.2.1.1 (List.mem_map.2 ⟨q,hq,e⟩)
    simpa using this
   rw[e1,e2];simp
  have HN1:=hid (show((l1++l2).map (·.1)).Nodup by
   rw[List.map_append,List.nodup_append]
   exact⟨hni.1,hni.2.1.2,fun a ha c hc=>hni.2.2 a ha c (List.mem_cons_of_mem _ hc)⟩)
  have HN2:=hid (show((l1++l2).map (·.2)).Nodup by
   rw[List.map_append,List.nodup_append]
   exact⟨hnb.1,hnb.2.1.2,fun a ha c hc=>hnb.2.2 a ha c (List.mem_cons_of_mem _ hc)⟩)
  have HM:=hid (show∀q∈l1++l2,q.2≠m from fun q hq=>hmne q (by
   rcases List.mem_append.1 hq with h|h
   · exact List.mem_append.2 (.inl h)
   · exact List.mem_append.2 (.inr (List.mem_cons_of_mem _ h))))
  have HX:=hid hmem
  have HFL:=hid (show L.filter (fun q=>q.1 !=x)=l1++l2 by rw[hL];exact hfil)
  have hnd1:∀l0:List (UInt64×Nat),∀y c,l1=l0++[(y,c)]→∀q∈l0,q.2≠c:=by
   intro l0 y c e q hq
   have:=hnb.1
   rw[e,List.map_append,List.nodup_append] at this
   exact this.2.2 q.2 (List.mem_map.2 ⟨q,hq,rfl⟩) c (by simp)
  have hnd2:∀z d r,l2=(z,d)::r→∀q∈r,q.2≠d:=by
   intro z d r e q hq e2
   have:=hnb.2.1.2
   rw[e,List.map_cons,List.nodup_cons] at this
   exact this.1 (List.mem_map.2 ⟨q,hq,e2⟩)
  clear hni hnb hmem
  rcases List.eq_nil_or_concat l1 with h1|⟨l0,⟨y,c⟩,h1⟩
  · subst h1
    cases l2 with
    |nil=>
     clear hnd1 hnd2
     have hnd1:True:=trivial
     have hnd2:True:=trivial
     obtain⟨c0,c1,c2,f0,f1,f2⟩:=lk3 h.hd
     obtain⟨k0,k1,k2,g0,g1,g2⟩:=lk3 hA.2.1
     simp only[lsB,hdB,Option.or_none,Option.none_or,Option.some_or,ptr] at k1 k2
     obtain⟨V,hV⟩:∃V,(((w.setCell ⟨p,1,none⟩ (.pointer none)).setCell ⟨p,2,none⟩ (.pointer none)))=V:=⟨_,rfl⟩
     have hVd:Ext ((w.setCell ⟨p,1,none⟩ (.pointer none)).setCell ⟨p,2,none⟩ (.pointer none)) V:=by rw[←hV];exact Ext.refl _
     have hfr:Fr (Bl p m L) w V:=by
      exact((fr_setCell w ⟨p,1,none⟩ _ (by rw[hL];simp)).trans (fr_setCell _ ⟨p,2,none⟩ _ (by rw[hL];simp))).trans (Ext.fr hVd)
     have hfr2:Fr [p,p] w V:=by
      exact((fr_setCell w ⟨p,1,none⟩ _ (by simp)).trans (fr_setCell _ ⟨p,2,none⟩ _ (by simp))).trans (Ext.fr hVd)
     have hPV:=h.mp.fr hfr2 (by simp[hpm.symm,hpm.symm])
     have p1:(w.setCell ⟨p,1,none⟩ (.pointer none)).heap[p]? =_:=Go.Joins.block_setCell (i:=1) h.hd (.pointer none)
     have p2:((w.setCell ⟨p,1,none⟩ (.pointer none)).setCell ⟨p,2,none⟩ (.pointer none)).heap[p]? =_:=Go.Joins.block_setCell (i:=2) p1 (.pointer none)
     have hd1:V.heap[p]? =some (laneO m ([]++[])):=by
      refine(hVd.obj p2).trans ?_
      rw[hL]
      simp[laneO,hdB_append,lsB_append,hdB,lsB,ptr]
     have a1:ChL (w.setCell ⟨p,1,none⟩ (.pointer none)) none [] (none):=trivial
     have b2:ChL ((w.setCell ⟨p,1,none⟩ (.pointer none)).setCell ⟨p,2,none⟩ (.pointer none)) (none) [] none:=trivial
     have a2:ChL ((w.setCell ⟨p,1,none⟩ (.pointer none)).setCell ⟨p,2,none⟩ (.pointer none)) none [] (none):=trivial
     have hch1:ChL V none ([]++[]) none:=by
      refine ChL.fr (S:=[]) (Ext.fr hVd) ?_ (by simp)
      refine ChL.append.2 ⟨by simpa[hdB] using a2,by simpa[lsB] using b2⟩
     rw[hL] at hPV
     obtain⟨w',hrun,hPM,hT⟩:=hPV.del (by rw[←hL,hx];rfl) (by rw[hfil];simp<;>omega) 0
     rw[←hV] at hrun
     rw[hfil] at hPM
     have HF:=hid (And.intro hPM (And.intro hT (And.intro hd1 (And.intro hch1 hfr))))
     clear hPM hT hd1 hch1 hfr hfr2 hPV p1 p2 a1 a2 b2 hV hVd hA hdis hdis2 hnd1 hnd2
     go_enter Tryz.func169,Tryz.ntmps169
     go_wp2
     skip
     go_ret
     unfold DropP
     obtain⟨hPM,hT,hd1,hch1,hfr⟩:=HF.out
     exact⟨by rw[decide_eq_true HX.out];rfl,_,lane_end hT hpm (fun q hq=>HM.out q hq) hd1 hPM hch1 HN1.out HN2.out,by rw[HFL.out],(hfr.trans (fr_turned hT (by simp)))⟩
    |cons zd r=>
     obtain⟨z,d⟩:=zd
     replace hnd2:=hnd2 z d r rfl
     have hdp:d≠p:=hpne (z,d) (by simp)
     have hdm:d≠m:=hmne (z,d) (by simp)
     have hbd:b≠d:=fun e=>hdis2 (z,d) (by simp) e.symm
     obtain⟨s0,s1,s2,t0,t1,t2⟩:=lk3 hA.2.2.1
     have hdnd:∀q∈r,q.2≠d:=fun q hq=>hnd2 q hq
     obtain⟨c0,c1,c2,f0,f1,f2⟩:=lk3 h.hd
     obtain⟨k0,k1,k2,g0,g1,g2⟩:=lk3 hA.2.1
     simp only[lsB,hdB,Option.or_none,Option.none_or,Option.some_or,ptr] at k1 k2
     obtain⟨V,hV⟩:∃V,(((w.setCell ⟨p,1,none⟩ (pv d)).setCell ⟨d,1,none⟩ (.pointer none))).drew=V:=⟨_,rfl⟩
     have hVd:Ext ((w.setCell ⟨p,1,none⟩ (pv d)).setCell ⟨d,1,none⟩ (.pointer none)) V:=by rw[←hV];exact Ext.drew _
     have hfr:Fr (Bl p m L) w V:=by
      exact((fr_setCell w ⟨p,1,none⟩ _ (by rw[hL];simp)).trans (fr_setCell _ ⟨d,1,none⟩ _ (by rw[hL];simp))).trans (Ext.fr hVd)
     have hfr2:Fr [p,d] w V:=by
      exact((fr_setCell w ⟨p,1,none⟩ _ (by simp)).trans (fr_setCell _ ⟨d,1,none⟩ _ (by simp))).trans (Ext.fr hVd)
     have hPV:=h.mp.fr hfr2 (by simp[hpm.symm,hdm.symm])
     have p1:(w.setCell ⟨p,1,none⟩ (pv d)).heap[p]? =_:=Go.Joins.block_setCell (i:=1) h.hd (pv d)
     have p2:((w.setCell ⟨p,1,none⟩ (pv d)).setCell ⟨d,1,none⟩ (.pointer none)).heap[p]? =_:=(heap_setCell_other _ _ _ _ (by dsimp only;exact hdp.symm)).trans p1
     have hd1:V.heap[p]? =some (laneO m ([]++((z,d)::r))):=by
      refine(hVd.obj p2).trans ?_
      rw[hL]
      simp[laneO,hdB_append,lsB_append,hdB,lsB,ptr]
     have a1:ChL (w.setCell ⟨p,1,none⟩ (pv d)) none [] (some d):=trivial
     have b1:ChL (w.setCell ⟨p,1,none⟩ (pv d)) (some b) ((z,d)::r) none:=ChL.fr (fr_setCell (S:=[p]) _ _ _ (by simp)) hA.2.2 (fun q hq=>by
      rw[List.mem_singleton]
      exact hpne q (by simp at hq⊢;rcases hq with rfl|hq<;>simp_all))
     have b2:ChL ((w.setCell ⟨p,1,none⟩ (pv d)).setCell ⟨d,1,none⟩ (.pointer none)) (none) ((z,d)::r) none:=ChL.setAhead (none) b1 hdnd
     have a2:ChL ((w.setCell ⟨p,1,none⟩ (pv d)).setCell ⟨d,1,none⟩ (.pointer none)) none [] (some d):=trivial
     have hch1:ChL V none ([]++((z,d)::r)) none:=by
      refine ChL.fr (S:=[]) (Ext.fr hVd) ?_ (by simp)
      refine ChL.append.2 ⟨by simpa[hdB] using a2,by simpa[lsB] using b2⟩
     rw[hL] at hPV
     obtain⟨w',hrun,hPM,hT⟩:=hPV.del (by rw[←hL,hx];rfl) (by rw[hfil];simp<;>omega) 0
     rw[←hV] at hrun
     rw[hfil] at hPM
     have HF:=hid (And.intro hPM (And.intro hT (And.intro hd1 (And.intro hch1 hfr))))
     clear hPM hT hd1 hch1 hfr hfr2 hPV p1 p2 a1 a2 b2 hV hVd b1 hA hdis hdis2 hnd1 hnd2 hdnd
     go_enter Tryz.func169,Tryz.ntmps169
     go_wp2
     go_region
     go_wp2
     go_ret
     unfold DropP
     obtain⟨hPM,hT,hd1,hch1,hfr⟩:=HF.out
     exact⟨by rw[decide_eq_true HX.out];rfl,_,lane_end hT hpm (fun q hq=>HM.out q hq) hd1 hPM hch1 HN1.out HN2.out,by rw[HFL.out],(hfr.trans (fr_turned hT (by simp)))⟩
  · rw[List.concat_eq_append] at h1
    subst h1
    replace hnd1:=hnd1 l0 y c rfl
    cases l2 with
    |nil=>
     have hls:lsB (l0++[(y,c)])=some c:=lsB_snoc l0 y c
     have hcp:c≠p:=hpne (y,c) (by simp)
     have hcm:c≠m:=hmne (y,c) (by simp)
     have hbc:b≠c:=fun e=>by
      have h1:=hdis (y,c) (by simp)
      exact h1.1 e.symm
     have hc1:=ChL.append.1 hA.1
     obtain⟨r0,r1,r2,q0,q1,q2⟩:=lk3 hc1.2.1
     have hcnd:∀q∈l0,q.2≠c:=fun q hq=>hnd1 q hq
     obtain⟨c0,c1,c2,f0,f1,f2⟩:=lk3 h.hd
     obtain⟨k0,k1,k2,g0,g1,g2⟩:=lk3 hA.2.1
     simp only[hls,hdB,Option.or_none,Option.none_or,Option.some_or,ptr] at k1 k2
     obtain⟨V,hV⟩:∃V,(((w.setCell ⟨c,2,none⟩ (.pointer none)).setCell ⟨p,2,none⟩ (pv c))).drew=V:=⟨_,rfl⟩
     have hVd:Ext ((w.setCell ⟨c,2,none⟩ (.pointer none)).setCell ⟨p,2,none⟩ (pv c)) V:=by rw[←hV];exact Ext.drew _
     have hfr:Fr (Bl p m L) w V:=by
      exact((fr_setCell w ⟨c,2,none⟩ _ (by rw[hL];simp)).trans (fr_setCell _ ⟨p,2,none⟩ _ (by rw[hL];simp))).trans (Ext.fr hVd)
     have hfr2:Fr [c,p] w V:=by
      exact((fr_setCell w ⟨c,2,none⟩ _ (by simp)).trans (fr_setCell _ ⟨p,2,none⟩ _ (by simp))).trans (Ext.fr hVd)
     have hPV:=h.mp.fr hfr2 (by simp[hcm.symm,hpm.symm])
     have p1:(w.setCell ⟨c,2,none⟩ (.pointer none)).heap[p]? =_:=(heap_setCell_other _ _ _ _ (by dsimp only;exact hcp.symm)).trans h.hd
     have p2:((w.setCell ⟨c,2,none⟩ (.pointer none)).setCell ⟨p,2,none⟩ (pv c)).heap[p]? =_:=Go.Joins.block_setCell (i:=2) p1 (pv c)
     have hd1:V.heap[p]? =some (laneO m ((l0++[(y,c)])++[])):=by
      refine(hVd.obj p2).trans ?_
      rw[hL]
      cases l0<;>simp[laneO,hdB_append,lsB_append,hdB,lsB,ptr]
     have a1:ChL (w.setCell ⟨c,2,none⟩ (.pointer none)) none (l0++[(y,c)]) (none):=ChL.setBehind (none) hA.1 hcnd
     have b2:ChL ((w.setCell ⟨c,2,none⟩ (.pointer none)).setCell ⟨p,2,none⟩ (pv c)) (some c) [] none:=trivial
     have a2:ChL ((w.setCell ⟨c,2,none⟩ (.pointer none)).setCell ⟨p,2,none⟩ (pv c)) none (l0++[(y,c)]) (none):=ChL.fr (fr_setCell (S:=[p]) _ _ _ (by simp)) a1 (fun q hq=>by
      rw[List.mem_singleton]
      exact hpne q (by simp at hq⊢;rcases hq with hq|rfl<;>simp_all))
     have hch1:ChL V none ((l0++[(y,c)])++[]) none:=by
      refine ChL.fr (S:=[]) (Ext.fr hVd) ?_ (by simp)
      refine ChL.append.2 ⟨by simpa[hdB] using a2,by simpa[lsB,hls] using b2⟩
     rw[hL] at hPV
     obtain⟨w',hrun,hPM,hT⟩:=hPV.del (by rw[←hL,hx];rfl) (by rw[hfil];simp<;>omega) 0
     rw[←hV] at hrun
     rw[hfil] at hPM
     have HF:=hid (And.intro hPM (And.intro hT (And.intro hd1 (And.intro hch1 hfr))))
     clear hPM hT hd1 hch1 hfr hfr2 hPV p1 p2 a1 a2 b2 hV hVd hA hdis hdis2 hnd1 hnd2 hcnd hc1 hls
     go_enter Tryz.func169,Tryz.ntmps169
     go_wp2
     go_region
     go_wp2
     go_ret
     unfold DropP
     obtain⟨hPM,hT,hd1,hch1,hfr⟩:=HF.out
     exact⟨by rw[decide_eq_true HX.out];rfl,_,lane_end hT hpm (fun q hq=>HM.out q hq) hd1 hPM hch1 HN1.out HN2.out,by rw[HFL.out],(hfr.trans (fr_turned hT (by simp)))⟩
    |cons zd r=>
     obtain⟨z,d⟩:=zd
     replace hnd2:=hnd2 z d r rfl
     have hls:lsB (l0++[(y,c)])=some c:=lsB_snoc l0 y c
     have hcp:c≠p:=hpne (y,c) (by simp)
     have hcm:c≠m:=hmne (y,c) (by simp)
     have hbc:b≠c:=fun e=>by
      have h1:=hdis (y,c) (by simp)
      exact h1.1 e.symm
     have hc1:=ChL.append.1 hA.1
     obtain⟨r0,r1,r2,q0,q1,q2⟩:=lk3 hc1.2.1
     have hcnd:∀q∈l0,q.2≠c:=fun q hq=>hnd1 q hq
     have hdp:d≠p:=hpne (z,d) (by simp)
     have hdm:d≠m:=hmne (z,d) (by simp)
     have hbd:b≠d:=fun e=>hdis2 (z,d) (by simp) e.symm
     obtain⟨s0,s1,s2,t0,t1,t2⟩:=lk3 hA.2.2.1
     have hdnd:∀q∈r,q.2≠d:=fun q hq=>hnd2 q hq
     have hcd:c≠d:=fun e=>(hdis (y,c) (by simp)).2 (z,d) (by simp) e
     obtain⟨c0,c1,c2,f0,f1,f2⟩:=lk3 h.hd
     obtain⟨k0,k1,k2,g0,g1,g2⟩:=lk3 hA.2.1
     simp only[hls,hdB,Option.or_none,Option.none_or,Option.some_or,ptr] at k1 k2
     obtain⟨V,hV⟩:∃V,(((w.setCell ⟨c,2,none⟩ (pv d)).setCell ⟨d,1,none⟩ (pv c))).drew.drew=V:=⟨_,rfl⟩
     have hVd:Ext ((w.setCell ⟨c,2,none⟩ (pv d)).setCell ⟨d,1,none⟩ (pv c)) V:=by rw[←hV];exact(Ext.drew _).trans (Ext.drew _)
     have hfr:Fr (Bl p m L) w V:=by
      exact((fr_setCell w ⟨c,2,none⟩ _ (by rw[hL];simp)).trans (fr_setCell _ ⟨d,1,none⟩ _ (by rw[hL];simp))).trans (Ext.fr hVd)
     have hfr2:Fr [c,d] w V:=by
      exact((fr_setCell w ⟨c,2,none⟩ _ (by simp)).trans (fr_setCell _ ⟨d,1,none⟩ _ (by simp))).trans (Ext.fr hVd)
     have hPV:=h.mp.fr hfr2 (by simp[hcm.symm,hdm.symm])
     have p1:(w.setCell ⟨c,2,none⟩ (pv d)).heap[p]? =_:=(heap_setCell_other _ _ _ _ (by dsimp only;exact hcp.symm)).trans h.hd
     have p2:((w.setCell ⟨c,2,none⟩ (pv d)).setCell ⟨d,1,none⟩ (pv c)).heap[p]? =_:=(heap_setCell_other _ _ _ _ (by dsimp only;exact hdp.symm)).trans p1
     have hd1:V.heap[p]? =some (laneO m ((l0++[(y,c)])++((z,d)::r))):=by
      refine(hVd.obj p2).trans ?_
      rw[hL]
      cases l0<;>simp[laneO,hdB_append,lsB_append,hdB,lsB,ptr]
     have a1:ChL (w.setCell ⟨c,2,none⟩ (pv d)) none (l0++[(y,c)]) (some d):=ChL.setBehind (some d) hA.1 hcnd
     have b1:ChL (w.setCell ⟨c,2,none⟩ (pv d)) (some b) ((z,d)::r) none:=ChL.fr (fr_setCell (S:=[c]) _ _ _ (by simp)) hA.2.2 (fun q hq=>by
      rw[List.mem_singleton]
      exact fun e=>(hdis (y,c) (by simp)).2 q hq e.symm)
     have b2:ChL ((w.setCell ⟨c,2,none⟩ (pv d)).setCell ⟨d,1,none⟩ (pv c)) (some c) ((z,d)::r) none:=ChL.setAhead (some c) b1 hdnd
     have a2:ChL ((w.setCell ⟨c,2,none⟩ (pv d)).setCell ⟨d,1,none⟩ (pv c)) none (l0++[(y,c)]) (some d):=ChL.fr (fr_setCell (S:=[d]) _ _ _ (by simp)) a1 (fun q hq=>by
      rw[List.mem_singleton]
      exact fun e=>(hdis q hq).2 (z,d) (by simp) e)
     have hch1:ChL V none ((l0++[(y,c)])++((z,d)::r)) none:=by
      refine ChL.fr (S:=[]) (Ext.fr hVd) ?_ (by simp)
      refine ChL.append.2 ⟨by simpa[hdB] using a2,by simpa[lsB,hls] using b2⟩
     rw[hL] at hPV
     obtain⟨w',hrun,hPM,hT⟩:=hPV.del (by rw[←hL,hx];rfl) (by rw[hfil];simp<;>omega) 0
     rw[←hV] at hrun
     rw[hfil] at hPM
     have HF:=hid (And.intro hPM (And.intro hT (And.intro hd1 (And.intro hch1 hfr))))
     clear hPM hT hd1 hch1 hfr hfr2 hPV p1 p2 a1 a2 b2 hV hVd b1 hA hdis hdis2 hnd1 hnd2 hcnd hc1 hls hdnd
     go_enter Tryz.func169,Tryz.ntmps169
     go_wp2
     go_region
     go_wp2
     go_region
     go_wp2
     go_ret
     unfold DropP
     obtain⟨hPM,hT,hd1,hch1,hfr⟩:=HF.out
     exact⟨by rw[decide_eq_true HX.out];rfl,_,lane_end hT hpm (fun q hq=>HM.out q hq) hd1 hPM hch1 HN1.out HN2.out,by rw[HFL.out],(hfr.trans (fr_turned hT (by simp)))⟩
end Go.Proofs.YtcfgafododiioaaGreatDoor
namespace Go.Proofs.YtcfgafododiioaaGreatDoor
open Go Go.RowKit Go.Tum Go.ChangeMaps Go.Shelf
attribute [local go_sem] Oper.semAt_some
def RPost (D l:Nat) (I Ix:List UInt64→World→Prop) (xs:List UInt64) (W:World):Exit→Act→World→Prop
 | .normal,_,W'=>(W'.heap[l]? =W.heap[l]? ∧W'.heap[D]? =W.heap[D]?)∧I xs W'
 | .ret,_,W'=>(W'.heap[l]? =W.heap[l]? ∧W'.heap[D]? =W.heap[D]?)∧Ix xs W'
 |_,_,_=>False
abbrev FW:Fence:=Fence.wide
theorem range_each {g:Operand} {ps:Array Tmp} {assign body:Code} {Q:Exit→Act→World→Prop} {a:Act} {w:World} {p:Nat} {xs:List UInt64}
 (hg:a.eval g= .func (.func 130) #[pv p] #[]) (hps:ps.size=1) (I Ix:List UInt64→World→Prop)
 (hgives:∀J:List UInt64→World→Prop,(∀pre W,J pre W→I pre W)→∀(lp:Nat) (Jx:List UInt64→World→Prop) (W:World),
  (∀pre x W1,J pre W1→pre++[x]<+:xs→YieldAt FW 7 Tryz.prog lp #[vU x] W1 fun e W'=>(e= .returned (.bool true)∧J (pre++[x]) W')∨(e= .returned (.bool false)∧Jx (pre++[x]) W'))→
  J [] W→CallsIn FW 8 Tryz.prog 130 #[pv p,.func (.yield lp) #[] #[]] W fun e W'=>(∃v,e= .returned v)∧(J xs W'∨∃pre,pre<+:xs∧Jx pre W'))
 (hI:∀pre W l o,l=w.heap.size+1→I pre W→I pre (W.putObj l o)) (hIx:∀pre W l o,l=w.heap.size+1→Ix pre W→Ix pre (W.putObj l o)) (h0:∀o1 o2,I [] ((w.alloc o1).alloc o2)) (a₁:UInt64→Act)
 (hassign:∀(l:Nat) (x:UInt64) (W:World) (K:Act→World→Prop),K (a₁ x) W→
  assign.wpIn (FW.inRound l) 7 Tryz.prog (Exit.then K (fun _ _ _=>False)) {tmps:=(ps.zip #[vU x]).foldl (fun t (p,v)=>t.setIfInBounds p v) a.tmps,defers:=[]} W)
 (hbody:∀(l:Nat) (pre:List UInt64) (x:UInt64) (W:World),l=w.heap.size+1→l<W.heap.size→I pre W→pre++[x]<+:xs→body.wpIn (FW.inRound l) 7 Tryz.prog (RPost w.heap.size l I Ix (pre++[x]) W) (a₁ x) W)
 (hdone:∀W,I xs W→W.heap[w.heap.size]? =some (.deferred (some []))→Q .normal {a with defers:={target:= .collected w.heap.size,args:= #[]}::a.defers} W)
 (hstop:∀pre W,pre<+:xs→Ix pre W→W.heap[w.heap.size]? =some (.deferred (some []))→Code.ret.wpIn FW 9 Tryz.prog Q {a with defers:={target:= .collected w.heap.size,args:= #[]}::a.defers} W):
 (Code.rangeFunc g ps assign body).wpIn FW 9 Tryz.prog Q a w:=by
 refine wpIn_rangeFunc fun fn hfn=> ?_
 obtain⟨rec,hrec⟩:∃rec:LoopState→Option Code→Loop,rec=fun st pe=>{state:=st,pending:=pe,fn:=fn,tmps:=a.tmps,params:=ps,assign:=assign,body:=body,defers:=w.heap.size}:=⟨_,rfl⟩
 have hW1l:((w.alloc (.deferred (some []))).alloc (.loop (rec .ready none))).heap[w.heap.size+1]? =some (.loop (rec .ready none)):=by
  have:=heap_alloc_new (w.alloc (.deferred (some []))) (.loop (rec .ready none))
  rwa[World.size_alloc] at this
 have hW1D:((w.alloc (.deferred (some []))).alloc (.loop (rec .ready none))).heap[w.heap.size]? =some (.deferred (some [])):=
  (Ext.alloc _ _).obj (heap_alloc_new w _)
 have hI1:=h0 (.deferred (some [])) (.loop (rec .ready none))
 refine⟨w.heap.size+1,[{target:= .collected w.heap.size,args:= #[]}],(w.alloc (.deferred (some []))).alloc (.loop (rec .ready none)),{target:= .fn (.func 130) #[],args:= #[pv p,.func (.yield (w.heap.size+1)) #[] #[]]},(w.alloc (.deferred (some []))).alloc (.loop (rec .ready none)),130,
  #[pv p,.func (.yield (w.heap.size+1)) #[] #[]],(w.alloc (.deferred (some []))).alloc (.loop (rec .ready none)),?_,?_,?_,?_,?_,?_⟩
 · rw[hrec];exact run_enterLoop_outer _ _ _ _ _
 · simp only[resolve,hg]
   simp[go_sem]
 · intro f' hf';trivial
 · have eg:=enters_of (P:=Tryz.prog) Tryz.func130 (by kernel_rfl) rfl
   simp[invoke,go_sem,eg]
 · intro h;cases h
 · generalize hWg:(w.alloc (.deferred (some []))).alloc (.loop (rec .ready none))=W1 at*
   refine(hgives (fun pre W=>I pre W∧W.heap[w.heap.size+1]? =some (.loop (rec .ready none))∧W.heap[w.heap.size]? =some (.deferred (some []))) (fun _ _ h=>h.1) (w.heap.size+1)
    (fun pre W=>Ix pre W∧W.heap[w.heap.size+1]? =some (.loop (rec .done (some .ret)))∧W.heap[w.heap.size]? =some (.deferred (some []))) W1 ?_ ⟨hI1,hW1l,hW1D⟩).mono ?_
   · rintro pre x W ⟨hi,hl,hk⟩ hpre
     have hlt:w.heap.size+1<W.heap.size:=(Array.getElem?_eq_some_iff.1 hl).1
     have hy:=run_yield (P:=Tryz.prog) (args:= #[vU x]) hl (by rw[hrec];simp[hps])
     rw[hrec] at hy
     refine⟨fn,_,assign,body,hy,roundIn_of_wpIn hfn (hassign _ x W _ ⟨_,run_beginRound hl (by rw[hrec]),?_⟩)⟩
     have hl2:(W.putObj (w.heap.size+1) (.loop {rec .ready none with state:= .busy})).heap[w.heap.size+1]? =some (.loop {rec .ready none with state:= .busy}):=World.putObj_heap_same hlt
     have hk2:(W.putObj (w.heap.size+1) (.loop {rec .ready none with state:= .busy})).heap[w.heap.size]? =some (.deferred (some [])):=(World.putObj_heap_other (by omega)).trans hk
     refine wpIn_mono (hbody _ pre x _ rfl (by rw[World.putObj_size];exact hlt) (hI _ _ _ _ (by omega) hi) hpre) ?_
     rintro e a3 W3 hp
     cases e with
     |normal=>
      obtain⟨⟨e1,e2⟩,hi3⟩:=hp
      have hl3:=e1.trans hl2
      have hr:=run_endRound (P:=Tryz.prog) none hl3
      rw[hrec] at hr
      have hlt3:=(Array.getElem?_eq_some_iff.1 hl3).1
      refine⟨_,_,hr,.inl ⟨rfl,hI _ _ _ _ (by omega) hi3,?_,(World.putObj_heap_other (by omega)).trans (e2.trans hk2)⟩⟩
      rw[World.putObj_heap_same hlt3,hrec]
      rfl
     |ret=>
      obtain⟨⟨e1,e2⟩,hi3⟩:=hp
      have hl3:=e1.trans hl2
      have hr:=run_endRound (P:=Tryz.prog) (some .ret) hl3
      rw[hrec] at hr
      have hlt3:=(Array.getElem?_eq_some_iff.1 hl3).1
      refine⟨_,_,hr,.inr ⟨rfl,hIx _ _ _ _ (by omega) hi3,?_,(World.putObj_heap_other (by omega)).trans (e2.trans hk2)⟩⟩
      rw[World.putObj_heap_same hlt3,hrec]
      rfl
     |exit id=>exact hp.elim
     |goto t=>exact hp.elim
     |panic ch=>exact hp.elim
     |outgrown=>exact hp.elim
   · rintro e W2 ⟨⟨v,rfl⟩,(⟨hi,hl,hk⟩|⟨pre,hpre,hi,hl,hk⟩)⟩
     · refine⟨none,_,?_,hdone _ (hI _ _ (w.heap.size+1) (.loop {rec .ready none with state:= .exhausted}) (by omega) hi) ((World.putObj_heap_other (by omega)).trans hk)⟩
       have:=run_endLoop (P:=Tryz.prog) hl (by rw[hrec];simp)
       rw[hrec] at this⊢
       exact this
     · refine⟨some .ret,_,?_,hstop pre _ hpre (hIx _ _ (w.heap.size+1) (.loop {rec .done (some .ret) with state:= .exhausted}) (by omega) hi) ((World.putObj_heap_other (by omega)).trans hk)⟩
       have:=run_endLoop (P:=Tryz.prog) hl (by rw[hrec];simp)
       rw[hrec] at this⊢
       exact this
def pA:Option Nat→Option Addr
 |none=>none
 |some b=>some ⟨b,0,none⟩
theorem ptr_eq (o:Option Nat):ptr o= .pointer (pA o):=by cases o<;>rfl
def left (l:List (UInt64×Nat)):Value→Nat
 | .pointer (some a)=>(l.dropWhile fun q=>q.2 !=a.block).length
 |_=>0
theorem left_eq {pre r:List (UInt64×Nat)} {x:UInt64} {b:Nat} (h:((pre++(x,b)::r).map (·.2)).Nodup):left (pre++(x,b)::r) (pv b)=r.length+1:=by
 have:(pre++(x,b)::r).dropWhile (fun q=>q.2 !=b)=(x,b)::r:=by
  rw[List.dropWhile_append_of_pos]
  · simp[List.dropWhile]
  · intro q hq
    have h1:q.2≠b:=by
     rw[List.map_append,List.nodup_append] at h
     exact h.2.2 q.2 (List.mem_map.2 ⟨q,hq,rfl⟩) b (by simp)
    simpa using h1
 unfold left
 simp only[this,List.length_cons]
set_option maxRecDepth 100000 in
set_option maxHeartbeats 1000000 in
theorem each_gives {p m:Nat} {l:List (UInt64×Nat)} {I:List UInt64→World→Prop} (hL:∀pre W,I pre W→Lane W p m l) (J:List UInt64→World→Prop) (hJ:∀pre W,J pre W→I pre W) (lp:Nat) (Jx:List UInt64→World→Prop) (W:World)
 (hY:∀pre x W1,J pre W1→pre++[x]<+:ids l→YieldAt FW 7 Tryz.prog lp #[vU x] W1 fun e W'=>(e= .returned (.bool true)∧J (pre++[x]) W')∨(e= .returned (.bool false)∧Jx (pre++[x]) W'))
 (h0:J [] W):CallsIn FW 8 Tryz.prog 130 #[pv p,.func (.yield lp) #[] #[]] W fun e W'=>(∃v,e= .returned v)∧(J (ids l) W'∨∃pre,pre<+:ids l∧Jx pre W'):=by
 refine callsIn_of_wp Tryz.func130 rfl trivial ?_ rfl
 simp only[Tryz.ntmps130,List.size_toArray,List.length_cons,List.length_nil,Nat.reduceAdd,Nat.reduceSub,Array.replicate_succ,Array.replicate_zero,List.push_toArray,List.append_toArray,List.nil_append,List.cons_append]
 obtain⟨c0,c1,c2,-⟩:=lk3 (hL _ _ (hJ _ _ h0)).hd
 rw[ptr_eq] at c1
 obtain⟨v0,hv0⟩:∃v,pA (hdB l)=v:=⟨_,rfl⟩
 rw[hv0] at c1
 clear c2
 gi_wp2
 clear c0 c1
 gi_loopw [4] (fun q wr=>∃(pre rest:List (UInt64×Nat)),q= .pointer (pA (hdB rest))∧l=pre++rest∧J (ids pre) wr) (fun q wr=>left l q)
 case atStart=>exact⟨[],l,by rw[hv0],rfl,h0⟩
 case round=>
  obtain⟨pre,rest,rfl,hl,hj⟩:=hrel
  cases rest with
  |nil=>
   rw[show pA (hdB [])=none from rfl]
   gi_wp2
   go_end0
   refine⟨⟨_,rfl⟩,.inl ?_⟩
   rw[List.append_nil] at hl
   rw[hl];exact hj
  |cons xb r=>
   obtain⟨x,b⟩:=xb
   have hln:=hL _ _ (hJ _ _ hj)
   have hlc:=hln.ch
   have hnb:=hln.nb
   rw[hl] at hlc hnb
   obtain⟨k0,k1,k2,-⟩:=lk3 (ChL.append.1 hlc).2.1
   have hpx:ids pre++[x]<+:ids l:=by
    rw[hl]
    exact⟨ids r,by simp⟩
   obtain⟨fn,tmps,assign,body,hy,hR⟩:=hY (ids pre) x wr hj hpx
   rw[show pA (hdB ((x,b)::r))=some ⟨b,0,none⟩ from rfl]
   clear k1 k2
   gi_wp2
   refine hR.mono ?_
   rintro e W3 (⟨rfl,hJ3⟩|⟨rfl,hJx3⟩)
   · have hln3:=hL _ _ (hJ _ _ hJ3)
     have hlc3:=hln3.ch
     rw[hl] at hlc3
     obtain⟨m0,m1,m2,-⟩:=lk3 (ChL.append.1 hlc3).2.1
     rw[Option.or_none,ptr_eq] at m2
     obtain⟨v1,hv1⟩:∃v,pA (hdB r)=v:=⟨_,rfl⟩
     rw[hv1] at m2
     clear m1
     have HM:=left_eq hnb
     gi_wp2
     go_roundw
     case rel=>exact⟨pre++[(x,b)],r,by rw[hv1],by rw[hl];simp,by simpa using hJ3⟩
     case measure=>
      rw[←hv1,hl]
      rw[HM]
      cases r with
      |nil=>simp[left,hdB,pA]
      |cons yc r2=>
       obtain⟨y,c⟩:=yc
       have:=left_eq (pre:=pre++[(x,b)]) (x:=y) (b:=c) (r:=r2) (by simpa using hnb)
       simp only[List.append_assoc,List.cons_append,List.nil_append] at this
       simp only[hdB,pA]
       rw[this]
       simp
   · gi_wp2
     refine bodyPost_ret (results_none rfl _ _ _) rfl ?_
     exact⟨⟨_,rfl⟩,.inr ⟨ids pre++[x],hpx,hJx3⟩⟩
end Go.Proofs.YtcfgafododiioaaGreatDoor
namespace Go.Proofs.YtcfgafododiioaaGreatDoor
open Go Go.RowKit Go.Tum Go.ChangeMaps Go.Shelf
attribute [local go_sem] Oper.semAt_some
theorem ext_putObj {w W:World} (h:Ext w W) (l:Nat) (o:Obj) (hl:w.heap.size≤l):Ext w (W.putObj l o):=
 ⟨h.os,h.tape,h.output,by rw[World.putObj_size];exact h.size,fun k hk=>(World.putObj_heap_other (by omega)).trans (h.block k hk)⟩
theorem box1L {w:World} {b:Nat} {v:Value} {ty:TypeId} (h:w.heap[b]? =some (.cells #[v] ty (0,0))):w.cell? ⟨b,0,none⟩=some v∧w.frozen? ⟨b,0,none⟩=false:=by
 constructor<;>simp[World.cell?,World.frozen?,h]
theorem box1_setL {w:World} {b:Nat} {v:Value} {ty:TypeId} (u:Value) (h:w.heap[b]? =some (.cells #[v] ty (0,0))):(w.setCell ⟨b,0,none⟩ u).heap[b]? =some (.cells #[u] ty (0,0)):=by
 simpa using Go.Joins.block_setCell (i:=0) h u
def firstU:List (UInt64×Nat)→UInt64
 |[]=>0
 |p::_=>p.1
abbrev firstV (l:List (UInt64×Nat)):Value:= .tuple #[vU (firstU l),.bool (decide (l≠[]))]
theorem first_results (tmps:Array Value) (w:World) (B C:Nat) (v u:Value) (h2:tmps.getD 2 undef= .pointer (some ⟨B,0,none⟩)) (h3:tmps.getD 3 undef= .pointer (some ⟨C,0,none⟩)) (m0:w.cell? ⟨B,0,none⟩=some v) (m1:w.cell? ⟨C,0,none⟩=some u):
 (results Tryz.f77 tmps).run Tryz.prog w= .ok (.tuple #[v,u]) w:=by
 have h2':tmps[2]?.getD undef= .pointer (some ⟨B,0,none⟩):=by simpa using h2
 have h3':tmps[3]?.getD undef= .pointer (some ⟨C,0,none⟩):=by simpa using h3
 simp[results,Tryz.results77,go_sem,h2',h3',m0,m1]
set_option maxRecDepth 100000 in
set_option maxHeartbeats 1000000 in
theorem first_in (w:World) (p m:Nat) (l:List (UInt64×Nat)) (h:Lane w p m l):
 CallsIn FW 9 Tryz.prog 77 #[pv p] w fun e w'=>e= .returned (firstV l)∧Ext w w':=by
 refine callsIn_of_wp_marks Tryz.func77 rfl trivial ?_ rfl
 simp only[Tryz.ntmps77,List.size_toArray,List.length_cons,List.length_nil,Nat.reduceAdd,Nat.reduceSub,Array.replicate_succ,Array.replicate_zero,List.push_toArray,List.append_toArray,List.nil_append,List.cons_append]
 gi_wp2
 have hV:Ext w ((w.alloc (.cells #[.int .u64 0] 36)).alloc (.cells #[.bool false] 4)):=(Ext.alloc _ _).trans (Ext.alloc _ _)
 have hb0:((w.alloc (.cells #[.int .u64 0] 36)).alloc (.cells #[.bool false] 4)).heap[w.heap.size]? =some (.cells #[.int .u64 0] 36 (0,0)):=(Ext.alloc _ _).obj (heap_alloc_new w _)
 have hb1:((w.alloc (.cells #[.int .u64 0] 36)).alloc (.cells #[.bool false] 4)).heap[w.heap.size+1]? =some (.cells #[.bool false] 4 (0,0)):=by
  have:=heap_alloc_new (w.alloc (.cells #[.int .u64 0] 36)) (.cells #[.bool false] 4)
  rwa[World.size_alloc] at this
 have hs:((w.alloc (.cells #[.int .u64 0] 36)).alloc (.cells #[.bool false] 4)).heap.size=w.heap.size+2:=by simp
 generalize (w.alloc (.cells #[.int .u64 0] 36)).alloc (.cells #[.bool false] 4)=V at*
 refine range_each (p:=p) (xs:=ids l) rfl rfl
  (fun pre W=>pre=[]∧W.heap[w.heap.size]? =some (.cells #[.int .u64 0] 36 (0,0))∧W.heap[w.heap.size+1]? =some (.cells #[.bool false] 4 (0,0))∧Ext w W)
  (fun pre W=>∃x,pre=[x]∧W.heap[w.heap.size]? =some (.cells #[vU x] 36 (0,0))∧W.heap[w.heap.size+1]? =some (.cells #[.bool true] 4 (0,0))∧Ext w W)
  (each_gives fun pre W hi=>h.ext hi.2.2.2)
  (fun pre W l' o hl' hi=>⟨hi.1,(World.putObj_heap_other (by omega)).trans hi.2.1,(World.putObj_heap_other (by omega)).trans hi.2.2.1,ext_putObj hi.2.2.2 _ _ (by omega)⟩)
  (fun pre W l' o hl' hi=>by
   obtain⟨x,e,i1,i2,i3⟩:=hi
   exact⟨x,e,(World.putObj_heap_other (by omega)).trans i1,(World.putObj_heap_other (by omega)).trans i2,ext_putObj i3 _ _ (by omega)⟩)
  (fun o1 o2=>⟨rfl,(Ext.alloc _ _).obj ((Ext.alloc _ _).obj hb0),(Ext.alloc _ _).obj ((Ext.alloc _ _).obj hb1),(hV.trans (Ext.alloc _ _)).trans (Ext.alloc _ _)⟩)
  (fun x=>{tmps:= #[pv p,undef,.pointer (some ⟨w.heap.size,0,none⟩),.pointer (some ⟨w.heap.size+1,0,none⟩),vU x,pv p,.func (.func 130) #[pv p] #[],vU x,undef],defers:=[]}) ?assign ?body ?done ?stop
 case assign=>
  intro l' x W K hK
  gi_wp2
  exact hK
 case body=>
  rintro l' pre x W hl' hlt ⟨rfl,i1,i2,i3⟩ hpre
  obtain⟨c0,f0⟩:=box1L i1
  obtain⟨c1,f1⟩:=box1L i2
  gi_wp2
  refine⟨⟨?_,?_⟩,x,rfl,?_,?_,?_⟩
  · rw[heap_setCell_other _ _ _ _ (by dsimp only;omega),heap_setCell_other _ _ _ _ (by dsimp only;omega)]
  · rw[heap_setCell_other _ _ _ _ (by dsimp only;omega),heap_setCell_other _ _ _ _ (by dsimp only;omega)]
  · rw[heap_setCell_other _ _ _ _ (by dsimp only;omega)];exact box1_setL _ i1
  · exact box1_setL _ ((heap_setCell_other _ _ _ _ (by dsimp only;omega)).trans i2)
  · exact Below.setCell (Below.setCell i3 (by dsimp only;omega) _) (by dsimp only;omega) _
 case done=>
  rintro W ⟨hn,i1,i2,i3⟩ hK
  have hl0:l=[]:=by simpa using hn
  subst hl0
  obtain⟨c0,f0⟩:=box1L i1
  obtain⟨c1,f1⟩:=box1L i2
  gi_wp2
  have hK':((W.setCell ⟨w.heap.size,0,none⟩ (.int .u64 0)).setCell ⟨w.heap.size+1,0,none⟩ (.bool false)).heap[V.heap.size]? =some (.deferred (some [])):=by
   rw[heap_setCell_other _ _ _ _ (by dsimp only;omega),heap_setCell_other _ _ _ _ (by dsimp only;omega)];exact hK
  refine⟨by simp,.inl ⟨_,_,rfl,run_takeDeferred hK',?_⟩⟩
  have i1':((W.setCell ⟨w.heap.size,0,none⟩ (.int .u64 0)).setCell ⟨w.heap.size+1,0,none⟩ (.bool false)).heap[w.heap.size]? =some (.cells #[.int .u64 0] 36 (0,0)):=by
   rw[heap_setCell_other _ _ _ _ (by dsimp only;omega)];exact box1_setL _ i1
  have i2':((W.setCell ⟨w.heap.size,0,none⟩ (.int .u64 0)).setCell ⟨w.heap.size+1,0,none⟩ (.bool false)).heap[w.heap.size+1]? =some (.cells #[.bool false] 4 (0,0)):=
   box1_setL _ ((heap_setCell_other _ _ _ _ (by dsimp only;omega)).trans i2)
  have i3':Ext w ((W.setCell ⟨w.heap.size,0,none⟩ (.int .u64 0)).setCell ⟨w.heap.size+1,0,none⟩ (.bool false)):=
   Below.setCell (Below.setCell i3 (by dsimp only;omega) _) (by dsimp only;omega) _
  exact⟨firstV [],first_results _ _ _ _ _ _ rfl rfl (box1L ((World.putObj_heap_other (by omega)).trans i1')).1 (box1L ((World.putObj_heap_other (by omega)).trans i2')).1,rfl,ext_putObj i3' _ _ (by omega)⟩
 case stop=>
  rintro pre W hpre ⟨x,rfl,i1,i2,i3⟩ hK
  obtain⟨c0,f0⟩:=box1L i1
  obtain⟨c1,f1⟩:=box1L i2
  have hfl:firstV l= .tuple #[vU x,.bool true]:=by
   cases l with
   |nil=>simp at hpre
   |cons y l=>
    have:x=y.1:=by simpa using hpre
    rw[this];rfl
  gi_wp2
  refine⟨by simp,.inl ⟨_,_,rfl,run_takeDeferred hK,?_⟩⟩
  exact⟨.tuple #[vU x,.bool true],first_results _ _ _ _ _ _ rfl rfl (box1L ((World.putObj_heap_other (by omega)).trans i1)).1 (box1L ((World.putObj_heap_other (by omega)).trans i2)).1,by rw[hfl],ext_putObj i3 _ _ (by omega)⟩
theorem first_any (w:World) (p m:Nat) (l:List (UInt64×Nat)) (h:Lane w p m l):
 Calls Tryz.prog 77 #[pv p] w fun e w'=>e= .returned (firstV l)∧Ext w w':=callsIn_wide.1 (first_in w p m l h)
end Go.Proofs.YtcfgafododiioaaGreatDoor
