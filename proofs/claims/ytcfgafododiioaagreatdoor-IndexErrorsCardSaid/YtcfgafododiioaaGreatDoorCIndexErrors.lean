/- For every input the law IndexErrors returns true and leaves what was there as it was; no condition but the sizes of the row. -/
import Derived.Test.YtcfgafododiioaaGreatDoorC11
import Derived.Test.YtcfgafododiioaaGreatDoorC45
import Derived.Laws.Rows
import Derived.Laws.Tables
import Derived.Test.YtcfgafododiioaaGreatDoorCards
import Derived.Test.YtcfgafododiioaaGreatDoorTie
import Derived.WalkKit
import Derived.ProofKit
import Derived.OpenShut
import Derived.Below
import Derived.Deep.DeepHandedRow
import Derived.SizedLaws
import Derived.Lib.LaidU8
import Derived.Deep.DeepLaidRun
import Derived.ShutString
import Derived.Test.YtcfgafododiioaaGreatDoorC1
import Derived.Lib.SmallJoins
set_option linter.unusedSimpArgs false
set_option linter.unusedVariables false
set_option maxRecDepth 100000
namespace Go.Proofs.YtcfgafododiioaaGreatDoor
open Go Go.RowKit Go.Tum Go.ChangeMaps Go.Sort
open Go.ParB (upd Lof)
open Go.ParE (putS slotsR slots Closed)
set_option maxHeartbeats 2000000 in
theorem indexErrors_law (la pa de:Int) (v:Value) (m:List Ai) (w:World) (hA:ActsI w v m) (ht:TB w):
 Calls Tryz.prog 11 #[ccV la pa de,v] w fun e w'=>e= .returned (.bool true)∧Ext w w':=by
 have HA:=hid hA
 have HT:=hid ht
 obtain⟨hrow,hokk⟩:=hA
 obtain⟨ao,cap,rfl,hle,hm,hnn,hcell⟩:=hrow.open
 have HNN:=hid hnn
 have HC:=hid hcell
 obtain⟨W1,hW1⟩:∃W,w.alloc (ccO la pa de)=W:=⟨_,rfl⟩
 have HE1:Hid (Ext w W1):=hid (by rw[←hW1];exact Ext.alloc _ _)
 have HB1:Hid (W1.heap[w.heap.size]? =some (ccO la pa de)):=hid (by rw[←hW1];exact heap_alloc_new _ _)
 clear hrow hokk hcell hnn ht
 go_enter Tryz.func11,Tryz.ntmps11
 go_wp2_with fail
 clear hW1
 refine(awake11_any W1 (TBx HT.out HE1.out)).mono ?_
 rintro e w2 ⟨rfl,hx⟩
 have HE2:=hid (HE1.out.trans hx)
 obtain⟨x0,x1,x2,-⟩:=lk3 (hx.obj HB1.out)
 clear hx
 go_wp2_with fail
 clear x0 x1 x2
 refine(inew_any la pa de (TBx HT.out HE2.out)).mono ?_
 rintro e w3 ⟨hn,hx⟩
 have HE3:=hid (HE2.out.trans hx)
 clear hx
 obtain⟨rc,hrc⟩:∃b,rightC la pa de=b:=⟨_,rfl⟩
 rw[hrc] at hn
 clear hrc
 cases rc
 case false=>
  rw[if_neg (by simp)] at hn
  subst hn
  go_wp2
  go_returns
  exact⟨rfl,HE3.out⟩
 rw[if_pos rfl] at hn
 obtain⟨p,x,q,rfl,hI,hM⟩:=hn
 have HI3:=hid (hI.lower HE2.out.size)
 have HQ3:=hid hM.xq
 clear hI hM
 go_wp2_with fail
 refine(ilarge_any _ m w3 (HA.out.ext HE3.out)).mono ?_
 rintro e w4 ⟨⟨r,rfl,hr⟩,hx⟩
 have HE4:=hid (HE3.out.trans hx)
 have HI4:=hid (HI3.out.ext hx)
 clear hx
 cases r
 case true=>
  clear hr
  go_wp2
  go_returns
  exact⟨rfl,HE4.out⟩
 have HS:=hid (hr rfl)
 clear hr
 go_wp2
 go_loopw [27] (fun i wr=>∃(k:Nat) (x:XP) (q:QR),k≤m.length∧i= .int .i64 (k:Int)∧Hid (IX w.heap.size wr p x q)∧Hid (XQ (300*k) q)∧Hid (Ext w wr)) (fun i _=>m.length - (intOf i).toNat)
 case atStart=>exact⟨0,x,q,Nat.zero_le _,rfl,HI4,HQ3,HE4⟩
 case round=>
  clear HI3 HI4 HQ3 HE3 HE4 HE2 HE1 HB1
  obtain⟨k,x,q,hk,rfl,HI,HQ,HE⟩:=hrel
  by_cases hlt:k<m.length
  · obtain⟨a0,rfl⟩:=HNN.out (by omega)
    have c0:=cell_first (HE.out.cell (HC.out a0 rfl k hlt 0 _ rfl))
    have c1:=cell_next (HE.out.cell (HC.out a0 rfl k hlt 1 _ rfl)) (by decide)
    have c2:=cell_next (HE.out.cell (HC.out a0 rfl k hlt 2 _ rfl)) (by decide)
    have c3:=cell_next (HE.out.cell (HC.out a0 rfl k hlt 3 _ rfl)) (by decide)
    have c4:=cell_next (HE.out.cell (HC.out a0 rfl k hlt 4 _ rfl)) (by decide)
    have c5:=cell_next (HE.out.cell (HC.out a0 rfl k hlt 5 _ rfl)) (by decide)
    have c6:=cell_next (HE.out.cell (HC.out a0 rfl k hlt 6 _ rfl)) (by decide)
    have c7:=cell_next (HE.out.cell (HC.out a0 rfl k hlt 7 _ rfl)) (by decide)
    have c8:=cell_next (HE.out.cell (HC.out a0 rfl k hlt 8 _ rfl)) (by decide)
    have HOK:=hid (HA.out.2 m[k] (List.getElem_mem hlt))
    have HSN:=hid (HS.out.2 m[k] (List.getElem_mem hlt))
    have HLM:=hid HS.out.1
    obtain⟨aq,haq⟩:∃z,m[k]=z:=⟨_,rfl⟩
    rw[haq] at c0 c1 c2 c3 c4 c5 c6 c7 c8 HOK HSN
    clear haq
    obtain⟨dn,lane,many,aid,an,name,asg,aps,asz⟩:=aq
    dsimp only at c0 c1 c2 c3 c4 c5 c6 c7 c8
    have hi1:decide ((k:Int)<m.length)=true:=by simp;omega
    have HKM:=hid hlt
    obtain⟨w5,hw5⟩:∃W,wr.alloc (.cells #[.int .i64 dn,.int .i64 lane,.int .i64 many,vU aid,vU an,vN name,vU asg,vU aps,.int .i64 asz] 40 (0,0))=W:=⟨_,rfl⟩
    have e5:Ext wr w5:=by rw[←hw5];exact Ext.alloc _ _
    have HB5:Hid (w5.heap[wr.heap.size]? =some (.cells #[.int .i64 dn,.int .i64 lane,.int .i64 many,vU aid,vU an,vN name,vU asg,vU aps,.int .i64 asz] 40 (0,0))):=hid (by rw[←hw5];exact heap_alloc_new _ _)
    have HI5:=hid (HI.out.ext e5)
    have HE5:=hid (HE.out.trans e5)
    have HLO5:Hid ((∀a∈x.blk p,a<wr.heap.size)∧wr.heap.size<w5.heap.size):=hid ⟨fun a ha=>(HI.out.blk_lo a ha).2,by rw[←hw5];simp⟩
    clear e5 hlt hk
    go_wp2_with fail
    clear hw5 c0 c1 c2 c3 c4 c5 c6 c7 c8 hi1
    obtain⟨b8,hb8⟩:∃b,wr.heap.size=b:=⟨_,rfl⟩
    rw[hb8] at HB5 HLO5
    try rw[hb8]
    clear hb8 HI HE
    obtain⟨s,hs⟩:∃s,stateQ q=s:=⟨_,rfl⟩
    have HSQ:=hid hs
    have HSM:Hid (SmS s):=hid (by rw[←hs];exact sms_of HQ.out)
    clear hs
    refine(st_any HI5.out HQ.out (TBx HT.out HE5.out) HSQ.out).mono ?_
    rintro e w6 ⟨⟨vi,vd,vc,rfl,ho⟩,hx⟩
    have HO6:=hid ho
    have HI6:=hid (HI5.out.ext hx)
    have HE6:=hid (HE5.out.trans hx)
    have HB6:=hid (hx.obj HB5.out)
    have HLO6:=hid (Nat.lt_of_lt_of_le HLO5.out.2 hx.size)
    have HSV:Hid (Calls Tryz.prog 22 #[srV s vi vd vc] w6 fun e w'=>(∃x y z,e= .returned (srV s x y z)∧RSt w6.heap.size w' s x y z)∧Ext w6 w'):=hid (lst_any ho HSM.out)
    obtain⟨V,hV⟩:∃V,srV s vi vd vc=V:=⟨_,rfl⟩
    rw[hV] at HSV
    try rw[hV]
    clear ho hx HI5 HE5 HB5 HO6 hV
    go_wp2_with fail
    refine HSV.out.mono ?_
    rintro e w7 ⟨⟨wa,wb,wc,rfl,hr⟩,hx⟩
    obtain⟨ga,gac,rfl⟩:=row_shape hr.ai
    obtain⟨gb,gbc,rfl⟩:=row_shape hr.bi
    obtain⟨gc,gcc,rfl⟩:=row_shape hr.ci
    obtain⟨wa,hwa⟩:∃v,Value.slice ga s.items.length gac=v:=⟨_,rfl⟩
    obtain⟨w8,hw8⟩:∃W,w7.alloc (.cells (srC s (Value.slice ga s.items.length gac) (Value.slice gb s.dead.length gbc) (Value.slice gc s.curs.length gcc)) 57 (0,0))=W:=⟨_,rfl⟩
    have e8:Ext w7 w8:=by rw[←hw8];exact Ext.alloc _ _
    have HB98:Hid (w8.heap[w7.heap.size]? =some (.cells (srC s (Value.slice ga s.items.length gac) (Value.slice gb s.dead.length gbc) (Value.slice gc s.curs.length gcc)) 57 (0,0))):=hid (by rw[←hw8];exact heap_alloc_new _ _)
    have HR8:=hid (hr.ext e8)
    have HI8:=hid (HI6.out.ext (hx.trans e8))
    have HE8:=hid (HE6.out.trans (hx.trans e8))
    have hb88:=(hx.trans e8).obj HB6.out
    have HB88:=hid hb88
    have HLO8:Hid (w6.heap.size≤w7.heap.size):=hid hx.size
    obtain⟨d0,d1,d2,d3,d4,d5,d6,d7,d8,-⟩:=blk9 hb88
    clear hr hx e8 HI6 HE6 HB6 HSV hb88 wa hwa
    go_wp2_with fail
    clear hw8 d0 d1 d2 d3 d4 d5 d6 d7 d8
    obtain⟨b9,hb9⟩:∃b,w7.heap.size=b:=⟨_,rfl⟩
    rw[hb9] at HB98 HLO8
    try rw[hb9]
    clear hb9
    obtain⟨wa,hwa⟩:∃v,Value.slice ga s.items.length gac=v:=⟨_,rfl⟩
    obtain⟨wb,hwb⟩:∃v,Value.slice gb s.dead.length gbc=v:=⟨_,rfl⟩
    obtain⟨wc,hwc⟩:∃v,Value.slice gc s.curs.length gcc=v:=⟨_,rfl⟩
    have HB98':Hid (w8.heap[b9]? =some (.cells (srC s wa wb wc) 57 (0,0))):=hid (by rw[←hwa,←hwb,←hwc];exact HB98.out)
    have HR8':Hid (RSt w6.heap.size w8 s wa wb wc):=hid (by rw[←hwa,←hwb,←hwc];exact HR8.out)
    try rw[hwa,hwb,hwc]
    clear hwa hwb hwc HB98 HR8
    obtain⟨R,hR⟩:∃R,actI q ⟨dn,lane,many,aid,an,name,asg,aps,asz⟩=R:=⟨_,rfl⟩
    have hcall:=do_any11 ⟨dn,lane,many,aid,an,name,asg,aps,asz⟩ HI8.out HE8.out.size HQ.out.wi (by have:=HKM.out;have:=HLM.out;omega) (TBx HT.out HE8.out) (Nat.le_trans HSN.out (by decide)) HOK.out.mn
    have hq9:=HQ.out.act (by have:=HKM.out;have:=HLM.out;omega) ⟨dn,lane,many,aid,an,name,asg,aps,asz⟩
    have herr:=act_err (q:=q) (a:=⟨dn,lane,many,aid,an,name,asg,aps,asz⟩)
    have hlook:=act_look (q:=q) (a:=⟨dn,lane,many,aid,an,name,asg,aps,asz⟩)
    rw[hR] at hcall hq9 herr hlook
    dsimp only at hlook
    clear hR
    obtain⟨⟨E,Id,It,Many,Is,Ids⟩,q9⟩:=R
    dsimp only at hq9 herr hlook
    have HQ9:Hid (XQ (300*k+300) q9):=hid hq9
    have HERR:=hid herr
    have HLK:=hid hlook
    clear hq9 herr hlook
    refine hcall.mono ?_
    clear hcall
    rintro e w9 ⟨⟨ro,rcap,rfl,hown⟩,⟨x9,i9,f9,n9⟩⟩
    have hlo:∀a∈x.blk p,a<b8:=HLO5.out.1
    have h8:b8<w6.heap.size:=HLO6.out
    have h9:w6.heap.size≤b9:=HLO8.out
    have HI9:=hid i9
    have HE9:Hid (Ext w w9):=hid (Below.trans HE8.out (f9.below HI8.out.blo HE8.out.size))
    have HB89:=hid ((f9.block b8 (Array.getElem?_eq_some_iff.1 HB88.out).1 (fun hm=>by have:=hlo _ hm;omega)).trans HB88.out)
    have HB99:=hid ((f9.block b9 (Array.getElem?_eq_some_iff.1 HB98'.out).1 (fun hm=>by have:=hlo _ hm;omega)).trans HB98'.out)
    have HR9:=hid (HR8'.out.fr f9 (fun a ha=>by have:=hlo a ha;omega))
    clear hlo h8 h9 i9 f9 n9 hown HI8 HE8 HB88 HB98' HR8' HLO5 HLO6 HLO8
    by_cases hne:E=0
    · subst hne
      obtain⟨t0,t1,t2,t3,t4,t5,t6,t7,t8,t9⟩:=It
      clear HERR
      by_cases hl:dn<0∨9<dn
      · obtain rfl:=HLK.out hl
        have HQ10:=HQ
        cases hd0:decide (dn<(0:Int))<;>cases hd9:decide ((9:Int)<dn)
        case false.false=>simp at hd0 hd9;omega
        all_goals
         clear hl
         obtain⟨w10,hw10⟩:∃W,(w9.alloc (.cells #[.int .i64 0,.int .u64 0,.int .u64 0,.int .i64 0,.int .i64 0,.int .i64 0,.int .u64 0,.int .u64 0,.int .u64 0,.int .u64 0,.int .u64 0,.int .i64 0,.int .i64 0,.bool false,.slice none 0 0] 49 (0,0))).setRow w9.heap.size #[.int .i64 0,vU Id,vU t0,.int .i64 t1,.int .i64 t2,.int .i64 t3,vU t4,vU t5,vU t6,vU t7,vU t8,.int .i64 t9,.int .i64 Many,.bool Is,.slice ro Ids.length rcap]=W:=⟨_,rfl⟩
         have hb10:=setRow_heap (w9.alloc (.cells #[.int .i64 0,.int .u64 0,.int .u64 0,.int .i64 0,.int .i64 0,.int .i64 0,.int .u64 0,.int .u64 0,.int .u64 0,.int .u64 0,.int .u64 0,.int .i64 0,.int .i64 0,.bool false,.slice none 0 0] 49 (0,0))) w9.heap.size _ #[.int .i64 0,vU Id,vU t0,.int .i64 t1,.int .i64 t2,.int .i64 t3,vU t4,vU t5,vU t6,vU t7,vU t8,.int .i64 t9,.int .i64 Many,.bool Is,.slice ro Ids.length rcap] _ _ (heap_alloc_new _ _)
         have hf10:=setRow_fr (w9.alloc (.cells #[.int .i64 0,.int .u64 0,.int .u64 0,.int .i64 0,.int .i64 0,.int .i64 0,.int .u64 0,.int .u64 0,.int .u64 0,.int .u64 0,.int .u64 0,.int .i64 0,.int .i64 0,.bool false,.slice none 0 0] 49 (0,0))) w9.heap.size #[.int .i64 0,vU Id,vU t0,.int .i64 t1,.int .i64 t2,.int .i64 t3,vU t4,vU t5,vU t6,vU t7,vU t8,.int .i64 t9,.int .i64 Many,.bool Is,.slice ro Ids.length rcap]
         rw[hw10] at hb10 hf10
         have e10:Ext w9 w10:=Below.trans (Ext.alloc w9 _) (hf10.below (by simp) (by simp))
         have HB10:Hid (w10.heap[w9.heap.size]? =some (.cells #[.int .i64 0,vU Id,vU t0,.int .i64 t1,.int .i64 t2,.int .i64 t3,vU t4,vU t5,vU t6,vU t7,vU t8,.int .i64 t9,.int .i64 Many,.bool Is,.slice ro Ids.length rcap] 49 (0,0))):=hid hb10
         have HI10:=hid (HI9.out.ext e10)
         have HE10:=hid (HE9.out.trans e10)
         have HB9:=hid (e10.obj HB99.out)
         have HB8:=hid (e10.obj HB89.out)
         have HR10:=hid (HR9.out.ext e10)
         clear e10 hb10 hf10
         have c0:=(blk9 HB8.out).1
         go_wp2_with (first|(refine wpList_store_row rfl 49 (.tmp 10) (.tmp 36) rfl w9.heap.size #[.int .i64 0,vU Id,vU t0,.int .i64 t1,.int .i64 t2,.int .i64 t3,vU t4,vU t5,vU t6,vU t7,vU t8,.int .i64 t9,.int .i64 Many,.bool Is,.slice ro Ids.length rcap] rfl rfl 49 _ (heap_alloc_new _ _) (by kernel_rfl) rfl (by simp[Value.oneCell']) ?_;rw[hw10]))
         clear hw10 c0
         obtain⟨b10,hb10⟩:∃b,w9.heap.size=b:=⟨_,rfl⟩
         rw[hb10] at HB10
         try rw[hb10]
         clear hb10
         refine Par.wp_region_par (l:=[_,_,_,_,_,_,_,_,_,_,_,_,_,_]) rfl Ext (Par.VL [Par.EQ (Value.pointer (some ⟨b10,0,none⟩)),Par.EQ (Value.int .i64 0),Par.EQ (Value.bool false),Par.EQ (Value.bool false),Par.EQ (Value.bool true),Par.EQ (Value.bool true),Par.EQ (Value.bool true),Par.EQ (pv p),(fun v w'=>∃vi vd vc,∃b:Nat,v=srV s vi vd vc∧SrO b w' s vi vd vc),(fun v w'=>∃vi vd vc,∃b:Nat,v=srV s vi vd vc∧RSt b w' s vi vd vc),Par.EQ (srV s wa wb wc),Par.EQ (Value.bool true),Par.EQ (Value.bool false),Par.EQ (Value.bool false)]) (by kernel_rfl) Ext.refl (fun _ _ _ h1 h2=>Ext.trans h1 h2) (Ext.draw _) (Par.VL_stab ?_) ?_ ?_
         · simp only[List.forall_mem_cons,List.not_mem_nil,false_implies,implies_true,and_true]
           refine⟨fun _ _ _ _ h=>h,fun _ _ _ _ h=>h,fun _ _ _ _ h=>h,fun _ _ _ _ h=>h,fun _ _ _ _ h=>h,fun _ _ _ _ h=>h,fun _ _ _ _ h=>h,fun _ _ _ _ h=>h,fun _ _ _ hx ⟨vi,vd,vc,b,e,h⟩=>⟨vi,vd,vc,b,e,h.ext hx⟩,fun _ _ _ hx ⟨vi,vd,vc,b,e,h⟩=>⟨vi,vd,vc,b,e,h.ext hx⟩,fun _ _ _ _ h=>h,fun _ _ _ _ h=>h,fun _ _ _ _ h=>h,fun _ _ _ _ h=>h⟩
         · refine⟨⟨fun _ _=>trivial,fun _ _ _ _ hk=>Par.pv [(10,Value.pointer (some ⟨b10,0,none⟩))] hk (by kernel_rfl) ⟨Ext.refl _,rfl⟩⟩,?_⟩
           refine⟨⟨fun _ _=>trivial,fun ρ w' hX hG hk=> ?_⟩,?_⟩
           · obtain⟨(e0:ρ (.tmp 45)=Value.pointer (some ⟨b10,0,none⟩)),-⟩:=hk;refine Par.val_k fun K hK=> ?_;unfold Par.val
             (have c0:=(blk15 (hX.obj HB10.out)).1;go_simp;exact hK _ _ ⟨Ext.refl _,rfl⟩)
           refine⟨⟨fun _ _=>trivial,fun _ _ _ _ hk=>Par.pv [(46,Value.int .i64 0)] hk (by kernel_rfl) ⟨Ext.refl _,rfl⟩⟩,?_⟩
           refine⟨⟨fun _ _=>trivial,fun ρ w' hX hG hk=> ?_⟩,?_⟩
           · exact Par.val_of_run rfl ⟨Ext.refl _,hk.1⟩
           refine⟨⟨fun _ _ u hu=> .inl hu,fun ρ w' hX hG hk=> ?_⟩,?_⟩
           · exact Par.val_of_run rfl ⟨Ext.refl _,hk.1⟩
           refine⟨⟨fun _ _=>trivial,fun _ _ _ _ hk=>Par.pv [(48,Value.bool false),(49,Value.bool true)] hk (by kernel_rfl) ⟨Ext.refl _,rfl⟩⟩,?_⟩
           refine⟨⟨fun _ _=>trivial,fun ρ w' hX hG hk=> ?_⟩,?_⟩
           · exact Par.val_of_run rfl ⟨Ext.refl _,hk.1⟩
           refine⟨⟨fun _ _ u hu=> .inl hu,fun ρ w' hX hG hk=> ?_⟩,?_⟩
           · exact Par.val_of_run rfl ⟨Ext.refl _,hk.1⟩
           refine⟨⟨fun _ _ u hu=> .inl hu,fun ρ w' hX hG hk=> ?_⟩,?_⟩
           · obtain⟨e0,(e1:ρ (.tmp 52)=pv p),-⟩:=hk;refine Par.val_k fun K hK=> ?_;unfold Par.val
             (refine Par.val_call Tryz.func23 (by kernel_rfl) rfl e0 ?_;simp only[List.map_toArray,List.map_cons,List.map_nil,e1];refine(st_any (HI10.out.ext hX) HQ10.out (TBx HT.out (HE10.out.trans hX)) HSQ.out).mono ?_;rintro e w2 ⟨⟨vi,vd,vc,rfl,ho⟩,hx⟩;exact⟨_,rfl,hK _ _ ⟨hx,vi,vd,vc,_,rfl,ho⟩⟩)
           refine⟨⟨fun _ _ u hu=> .inl hu,fun ρ w' hX hG hk=> ?_⟩,?_⟩
           · obtain⟨e0,(e1:(fun v w'=>∃vi vd vc,∃b:Nat,v=srV s vi vd vc∧SrO b w' s vi vd vc) (ρ (.tmp 53)) w'),-⟩:=hk;refine Par.val_k fun K hK=> ?_;unfold Par.val
             (obtain⟨vi,vd,vc,b,e1,ho⟩:=e1;refine Par.val_call Tryz.func22 (by kernel_rfl) rfl e0 ?_;simp only[List.map_toArray,List.map_cons,List.map_nil,e1];refine(lst_any ho HSM.out).mono ?_;rintro e w2 ⟨⟨x1,x2,x3,rfl,hr⟩,hx⟩;exact⟨_,rfl,hK _ _ ⟨hx,x1,x2,x3,_,rfl,hr⟩⟩)
           refine⟨⟨fun _ _ u hu=> .inl hu,fun ρ w' hX hG hk=> ?_⟩,?_⟩
           · obtain⟨(e0:ρ (.tmp 9)=Value.pointer (some ⟨b9,0,none⟩)),-⟩:=hk;refine Par.val_k fun K hK=> ?_;unfold Par.val
             (obtain⟨cc0,cc1,cc2,cc3,cc4,cc5,cc6,cc7,-⟩:=blk8 (hX.obj HB9.out);go_simp;exact hK _ _ ⟨Ext.refl _,rfl⟩)
           refine⟨⟨fun _ _ u hu=> .inl hu,fun ρ w' hX hG hk=> ?_⟩,?_⟩
           · obtain⟨e0,(e1:(fun v w'=>∃vi vd vc,∃b:Nat,v=srV s vi vd vc∧RSt b w' s vi vd vc) (ρ (.tmp 54)) w'),(e2:ρ (.tmp 55)=srV s wa wb wc),-⟩:=hk;refine Par.val_k fun K hK=> ?_;unfold Par.val
             (obtain⟨vi,vd,vc,b,e1,ho⟩:=e1;refine Par.val_call Tryz.func21 (by kernel_rfl) rfl e0 ?_;simp only[List.map_toArray,List.map_cons,List.map_nil,e1,e2];refine(rsame11_eq ho (HR10.out.ext hX) (by have:=HSM.out.it;omega)).mono ?_;rintro e w2 ⟨rfl,hx⟩;exact⟨_,rfl,hK _ _ ⟨hx,rfl⟩⟩)
           refine⟨⟨fun _ _ u hu=> .inl hu,fun _ _ _ _ hk=>Par.pv [(56,Value.bool true)] hk (by kernel_rfl) ⟨Ext.refl _,rfl⟩⟩,?_⟩
           refine⟨⟨fun _ _=>trivial,fun _ _ _ _ hk=>Par.pv [(51,Value.bool true),(57,Value.bool false)] hk (by kernel_rfl) ⟨Ext.refl _,rfl⟩⟩,?_⟩
           trivial
         intro a' w' inv
         have hX:=inv.ext
         have q53:(fun v w'=>∃vi vd vc,∃b:Nat,v=srV s vi vd vc∧SrO b w' s vi vd vc) (a'.tmps.getD 53 undef) w':=inv.done 8 _ 53 rfl rfl rfl
         have q54:(fun v w'=>∃vi vd vc,∃b:Nat,v=srV s vi vd vc∧RSt b w' s vi vd vc) (a'.tmps.getD 54 undef) w':=inv.done 9 _ 54 rfl rfl rfl
         have hq:=Par.donesI inv;simp only[Par.dones,Par.EQ,true_and,and_true] at hq
         clear inv
         simp only[List.filterMap_cons,List.filterMap_nil,Par.putAll,Act.put,List.setIfInBounds_toArray,List.set_cons_succ,List.set_cons_zero,hq]
         clear hq
         generalize a'.tmps.getD 53 undef=u53 at*
         generalize a'.tmps.getD 54 undef=u54 at*
         clear a'
         obtain⟨o0,o1,o2,o3,o4,o5,o6,o7,o8,o9,o10,o11,o12,o13,o14,-⟩:=blk15 (hX.obj HB10.out)
         have HI12:=hid (HI10.out.ext hX)
         have HE12:=hid (HE10.out.trans hX)
         go_wp2
         clear o0 o1 o2 o3 o4 o5 o6 o7 o8 o9 o10 o11 o12 o13 o14
         go_roundw
         case rel=>exact⟨k+1,x9,_,HKM.out,by go_num,HI12,hid (HQ9.out.mono (by omega)),HE12⟩
         case measure=>simp[intOf];have:=HKM.out;omega
      · have hd0:decide (dn<(0:Int))=false:=by simp;omega
        have hd9:decide ((9:Int)<dn)=false:=by simp;omega
        clear hl
        obtain⟨w10,hw10⟩:∃W,(w9.alloc (.cells #[.int .i64 0,.int .u64 0,.int .u64 0,.int .i64 0,.int .i64 0,.int .i64 0,.int .u64 0,.int .u64 0,.int .u64 0,.int .u64 0,.int .u64 0,.int .i64 0,.int .i64 0,.bool false,.slice none 0 0] 49 (0,0))).setRow w9.heap.size #[.int .i64 0,vU Id,vU t0,.int .i64 t1,.int .i64 t2,.int .i64 t3,vU t4,vU t5,vU t6,vU t7,vU t8,.int .i64 t9,.int .i64 Many,.bool Is,.slice ro Ids.length rcap]=W:=⟨_,rfl⟩
        have hb10:=setRow_heap (w9.alloc (.cells #[.int .i64 0,.int .u64 0,.int .u64 0,.int .i64 0,.int .i64 0,.int .i64 0,.int .u64 0,.int .u64 0,.int .u64 0,.int .u64 0,.int .u64 0,.int .i64 0,.int .i64 0,.bool false,.slice none 0 0] 49 (0,0))) w9.heap.size _ #[.int .i64 0,vU Id,vU t0,.int .i64 t1,.int .i64 t2,.int .i64 t3,vU t4,vU t5,vU t6,vU t7,vU t8,.int .i64 t9,.int .i64 Many,.bool Is,.slice ro Ids.length rcap] _ _ (heap_alloc_new _ _)
        have hf10:=setRow_fr (w9.alloc (.cells #[.int .i64 0,.int .u64 0,.int .u64 0,.int .i64 0,.int .i64 0,.int .i64 0,.int .u64 0,.int .u64 0,.int .u64 0,.int .u64 0,.int .u64 0,.int .i64 0,.int .i64 0,.bool false,.slice none 0 0] 49 (0,0))) w9.heap.size #[.int .i64 0,vU Id,vU t0,.int .i64 t1,.int .i64 t2,.int .i64 t3,vU t4,vU t5,vU t6,vU t7,vU t8,.int .i64 t9,.int .i64 Many,.bool Is,.slice ro Ids.length rcap]
        rw[hw10] at hb10 hf10
        have e10:Ext w9 w10:=Below.trans (Ext.alloc w9 _) (hf10.below (by simp) (by simp))
        have HB10:Hid (w10.heap[w9.heap.size]? =some (.cells #[.int .i64 0,vU Id,vU t0,.int .i64 t1,.int .i64 t2,.int .i64 t3,vU t4,vU t5,vU t6,vU t7,vU t8,.int .i64 t9,.int .i64 Many,.bool Is,.slice ro Ids.length rcap] 49 (0,0))):=hid hb10
        have HI10:=hid (HI9.out.ext e10)
        have HE10:=hid (HE9.out.trans e10)
        have HB9:=hid (e10.obj HB99.out)
        have HB8:=hid (e10.obj HB89.out)
        have HR10:=hid (HR9.out.ext e10)
        clear e10 hb10 hf10
        have c0:=(blk9 HB8.out).1
        go_wp2_with (first|(refine wpList_store_row rfl 49 (.tmp 10) (.tmp 36) rfl w9.heap.size #[.int .i64 0,vU Id,vU t0,.int .i64 t1,.int .i64 t2,.int .i64 t3,vU t4,vU t5,vU t6,vU t7,vU t8,.int .i64 t9,.int .i64 Many,.bool Is,.slice ro Ids.length rcap] rfl rfl 49 _ (heap_alloc_new _ _) (by kernel_rfl) rfl (by simp[Value.oneCell']) ?_;rw[hw10]))
        clear hw10 c0
        obtain⟨b10,hb10⟩:∃b,w9.heap.size=b:=⟨_,rfl⟩
        rw[hb10] at HB10
        try rw[hb10]
        clear hb10
        refine Par.wp_region_par (l:=[_,_,_,_,_,_,_,_,_,_,_,_,_,_]) rfl Ext (Par.VL [Par.EQ (Value.pointer (some ⟨b10,0,none⟩)),Par.EQ (Value.int .i64 0),Par.EQ (Value.bool false),Par.EQ (Value.bool false),Par.EQ (Value.bool false),Par.EQ (Value.bool false),Par.EQ (Value.bool false),Par.EQ (undef),Par.EQ (undef),Par.EQ (undef),Par.EQ (undef),Par.EQ (undef),Par.EQ (undef),Par.EQ (Value.bool false)]) (by kernel_rfl) Ext.refl (fun _ _ _ h1 h2=>Ext.trans h1 h2) (Ext.draw _) (Par.VL_stab ?_) ?_ ?_
        · simp only[List.forall_mem_cons,List.not_mem_nil,false_implies,implies_true,and_true]
          refine⟨fun _ _ _ _ h=>h,fun _ _ _ _ h=>h,fun _ _ _ _ h=>h,fun _ _ _ _ h=>h,fun _ _ _ _ h=>h,fun _ _ _ _ h=>h,fun _ _ _ _ h=>h,fun _ _ _ _ h=>h,fun _ _ _ _ h=>h,fun _ _ _ _ h=>h,fun _ _ _ _ h=>h,fun _ _ _ _ h=>h,fun _ _ _ _ h=>h,fun _ _ _ _ h=>h⟩
        · refine⟨⟨fun _ _=>trivial,fun _ _ _ _ hk=>Par.pv [(10,Value.pointer (some ⟨b10,0,none⟩))] hk (by kernel_rfl) ⟨Ext.refl _,rfl⟩⟩,?_⟩
          refine⟨⟨fun _ _=>trivial,fun ρ w' hX hG hk=> ?_⟩,?_⟩
          · obtain⟨(e0:ρ (.tmp 45)=Value.pointer (some ⟨b10,0,none⟩)),-⟩:=hk;refine Par.val_k fun K hK=> ?_;unfold Par.val
            (have c0:=(blk15 (hX.obj HB10.out)).1;go_simp;exact hK _ _ ⟨Ext.refl _,rfl⟩)
          refine⟨⟨fun _ _=>trivial,fun _ _ _ _ hk=>Par.pv [(46,Value.int .i64 0)] hk (by kernel_rfl) ⟨Ext.refl _,rfl⟩⟩,?_⟩
          refine⟨⟨fun _ _=>trivial,fun ρ w' hX hG hk=> ?_⟩,?_⟩
          · exact Par.val_of_run rfl ⟨Ext.refl _,hk.1⟩
          refine⟨⟨fun _ _ u hu=> .inl hu,fun ρ w' hX hG hk=> ?_⟩,?_⟩
          · exact Par.val_of_run rfl ⟨Ext.refl _,hk.1⟩
          refine⟨⟨fun _ _=>trivial,fun _ _ _ _ hk=>Par.pv [(48,Value.bool false),(49,Value.bool false)] hk (by kernel_rfl) ⟨Ext.refl _,rfl⟩⟩,?_⟩
          refine⟨⟨fun _ _=>trivial,fun ρ w' hX hG hk=> ?_⟩,?_⟩
          · exact Par.val_of_run rfl ⟨Ext.refl _,hk.1⟩
          refine⟨⟨fun _ _ u hu=> .inr rfl,fun ρ w' hX hG hk=> ?_⟩,?_⟩
          · cases hG
          refine⟨⟨fun _ _ u hu=> .inr rfl,fun ρ w' hX hG hk=> ?_⟩,?_⟩
          · cases hG
          refine⟨⟨fun _ _ u hu=> .inr rfl,fun ρ w' hX hG hk=> ?_⟩,?_⟩
          · cases hG
          refine⟨⟨fun _ _ u hu=> .inr rfl,fun ρ w' hX hG hk=> ?_⟩,?_⟩
          · cases hG
          refine⟨⟨fun _ _ u hu=> .inr rfl,fun ρ w' hX hG hk=> ?_⟩,?_⟩
          · cases hG
          refine⟨⟨fun _ _ u hu=> .inr rfl,fun ρ w' hX hG hk=> ?_⟩,?_⟩
          · cases hG
          refine⟨⟨fun _ _=>trivial,fun _ _ _ _ hk=>Par.pv [(51,Value.bool false),(57,undef)] hk (by kernel_rfl) ⟨Ext.refl _,rfl⟩⟩,?_⟩
          trivial
        intro a' w' inv
        have hX:=inv.ext
        have hq:=Par.donesI inv;simp only[Par.dones,Par.EQ,true_and,and_true] at hq
        clear inv
        simp only[List.filterMap_cons,List.filterMap_nil,Par.putAll,Act.put,List.setIfInBounds_toArray,List.set_cons_succ,List.set_cons_zero,hq]
        clear hq
        clear a'
        obtain⟨o0,o1,o2,o3,o4,o5,o6,o7,o8,o9,o10,o11,o12,o13,o14,-⟩:=blk15 (hX.obj HB10.out)
        have HI12:=hid (HI10.out.ext hX)
        have HE12:=hid (HE10.out.trans hX)
        go_wp2
        clear o0 o1 o2 o3 o4 o5 o6 o7 o8 o9 o10 o11 o12 o13 o14
        go_roundw
        case rel=>exact⟨k+1,x9,_,HKM.out,by go_num,HI12,hid (HQ9.out.mono (by omega)),HE12⟩
        case measure=>simp[intOf];have:=HKM.out;omega
    · have HNE:Hid ((E !=0)=true):=hid (by simpa using hne)
      obtain⟨rfl,rfl,rfl,rfl,rfl⟩:=HERR.out hne
      have HQ10:=HQ
      clear hne HERR
      cases hd0:decide (dn<(0:Int))<;>cases hd9:decide ((9:Int)<dn)
      all_goals
       obtain⟨w10,hw10⟩:∃W,(w9.alloc (.cells #[.int .i64 0,.int .u64 0,.int .u64 0,.int .i64 0,.int .i64 0,.int .i64 0,.int .u64 0,.int .u64 0,.int .u64 0,.int .u64 0,.int .u64 0,.int .i64 0,.int .i64 0,.bool false,.slice none 0 0] 49 (0,0))).setRow w9.heap.size #[.int .i64 E,.int .u64 0,.int .u64 0,.int .i64 0,.int .i64 0,.int .i64 0,.int .u64 0,.int .u64 0,.int .u64 0,.int .u64 0,.int .u64 0,.int .i64 0,.int .i64 0,.bool Is,.slice ro 0 rcap]=W:=⟨_,rfl⟩
       have hb10:=setRow_heap (w9.alloc (.cells #[.int .i64 0,.int .u64 0,.int .u64 0,.int .i64 0,.int .i64 0,.int .i64 0,.int .u64 0,.int .u64 0,.int .u64 0,.int .u64 0,.int .u64 0,.int .i64 0,.int .i64 0,.bool false,.slice none 0 0] 49 (0,0))) w9.heap.size _ #[.int .i64 E,.int .u64 0,.int .u64 0,.int .i64 0,.int .i64 0,.int .i64 0,.int .u64 0,.int .u64 0,.int .u64 0,.int .u64 0,.int .u64 0,.int .i64 0,.int .i64 0,.bool Is,.slice ro 0 rcap] _ _ (heap_alloc_new _ _)
       have hf10:=setRow_fr (w9.alloc (.cells #[.int .i64 0,.int .u64 0,.int .u64 0,.int .i64 0,.int .i64 0,.int .i64 0,.int .u64 0,.int .u64 0,.int .u64 0,.int .u64 0,.int .u64 0,.int .i64 0,.int .i64 0,.bool false,.slice none 0 0] 49 (0,0))) w9.heap.size #[.int .i64 E,.int .u64 0,.int .u64 0,.int .i64 0,.int .i64 0,.int .i64 0,.int .u64 0,.int .u64 0,.int .u64 0,.int .u64 0,.int .u64 0,.int .i64 0,.int .i64 0,.bool Is,.slice ro 0 rcap]
       rw[hw10] at hb10 hf10
       have e10:Ext w9 w10:=Below.trans (Ext.alloc w9 _) (hf10.below (by simp) (by simp))
       have HB10:Hid (w10.heap[w9.heap.size]? =some (.cells #[.int .i64 E,.int .u64 0,.int .u64 0,.int .i64 0,.int .i64 0,.int .i64 0,.int .u64 0,.int .u64 0,.int .u64 0,.int .u64 0,.int .u64 0,.int .i64 0,.int .i64 0,.bool Is,.slice ro 0 rcap] 49 (0,0))):=hid hb10
       have HI10:=hid (HI9.out.ext e10)
       have HE10:=hid (HE9.out.trans e10)
       have HB9:=hid (e10.obj HB99.out)
       have HB8:=hid (e10.obj HB89.out)
       have HR10:=hid (HR9.out.ext e10)
       clear e10 hb10 hf10
       have c0:=(blk9 HB8.out).1
       go_wp2_with (first|(refine wpList_store_row rfl 49 (.tmp 10) (.tmp 36) rfl w9.heap.size #[.int .i64 E,.int .u64 0,.int .u64 0,.int .i64 0,.int .i64 0,.int .i64 0,.int .u64 0,.int .u64 0,.int .u64 0,.int .u64 0,.int .u64 0,.int .i64 0,.int .i64 0,.bool Is,.slice ro 0 rcap] rfl rfl 49 _ (heap_alloc_new _ _) (by kernel_rfl) rfl (by simp[Value.oneCell']) ?_;rw[hw10]))
       clear hw10 c0
       obtain⟨b10,hb10⟩:∃b,w9.heap.size=b:=⟨_,rfl⟩
       rw[hb10] at HB10
       try rw[hb10]
       clear hb10
       refine Par.wp_region_par (l:=[_,_,_,_,_,_,_,_,_,_,_,_,_,_]) rfl Ext (Par.VL [Par.EQ (Value.pointer (some ⟨b10,0,none⟩)),Par.EQ (Value.int .i64 E),Par.EQ (Value.bool true),Par.EQ (Value.bool true),Par.EQ (undef),Par.EQ (Value.bool true),Par.EQ (Value.bool true),Par.EQ (pv p),(fun v w'=>∃vi vd vc,∃b:Nat,v=srV s vi vd vc∧SrO b w' s vi vd vc),(fun v w'=>∃vi vd vc,∃b:Nat,v=srV s vi vd vc∧RSt b w' s vi vd vc),Par.EQ (srV s wa wb wc),Par.EQ (Value.bool true),Par.EQ (Value.bool false),Par.EQ (Value.bool false)]) (by kernel_rfl) Ext.refl (fun _ _ _ h1 h2=>Ext.trans h1 h2) (Ext.draw _) (Par.VL_stab ?_) ?_ ?_
       · simp only[List.forall_mem_cons,List.not_mem_nil,false_implies,implies_true,and_true]
         refine⟨fun _ _ _ _ h=>h,fun _ _ _ _ h=>h,fun _ _ _ _ h=>h,fun _ _ _ _ h=>h,fun _ _ _ _ h=>h,fun _ _ _ _ h=>h,fun _ _ _ _ h=>h,fun _ _ _ _ h=>h,fun _ _ _ hx ⟨vi,vd,vc,b,e,h⟩=>⟨vi,vd,vc,b,e,h.ext hx⟩,fun _ _ _ hx ⟨vi,vd,vc,b,e,h⟩=>⟨vi,vd,vc,b,e,h.ext hx⟩,fun _ _ _ _ h=>h,fun _ _ _ _ h=>h,fun _ _ _ _ h=>h,fun _ _ _ _ h=>h⟩
       · refine⟨⟨fun _ _=>trivial,fun _ _ _ _ hk=>Par.pv [(10,Value.pointer (some ⟨b10,0,none⟩))] hk (by kernel_rfl) ⟨Ext.refl _,rfl⟩⟩,?_⟩
         refine⟨⟨fun _ _=>trivial,fun ρ w' hX hG hk=> ?_⟩,?_⟩
         · obtain⟨(e0:ρ (.tmp 45)=Value.pointer (some ⟨b10,0,none⟩)),-⟩:=hk;refine Par.val_k fun K hK=> ?_;unfold Par.val
           (have c0:=(blk15 (hX.obj HB10.out)).1;go_simp;exact hK _ _ ⟨Ext.refl _,rfl⟩)
         refine⟨⟨fun _ _=>trivial,fun ρ w' hX hG hk=> ?_⟩,?_⟩
         · obtain⟨(e0:ρ (.tmp 46)=Value.int .i64 E),(e1:ρ (Operand.const (Value.int IntKind.i64 0))=(Value.int IntKind.i64 0)),-⟩:=hk;refine Par.val_k fun K hK=> ?_;unfold Par.val
           (go_simp;exact hK _ _ ⟨Ext.refl _,congrArg Value.bool HNE.out⟩)
         refine⟨⟨fun _ _=>trivial,fun ρ w' hX hG hk=> ?_⟩,?_⟩
         · exact Par.val_of_run rfl ⟨Ext.refl _,hk.1⟩
         refine⟨⟨fun _ _ u hu=> .inr rfl,fun ρ w' hX hG hk=> ?_⟩,?_⟩
         · cases hG
         refine⟨⟨fun _ _=>trivial,fun _ _ _ _ hk=>Par.pv [(48,Value.bool true),(49,undef)] hk (by kernel_rfl) ⟨Ext.refl _,rfl⟩⟩,?_⟩
         refine⟨⟨fun _ _=>trivial,fun ρ w' hX hG hk=> ?_⟩,?_⟩
         · exact Par.val_of_run rfl ⟨Ext.refl _,hk.1⟩
         refine⟨⟨fun _ _ u hu=> .inl hu,fun ρ w' hX hG hk=> ?_⟩,?_⟩
         · exact Par.val_of_run rfl ⟨Ext.refl _,hk.1⟩
         refine⟨⟨fun _ _ u hu=> .inl hu,fun ρ w' hX hG hk=> ?_⟩,?_⟩
         · obtain⟨e0,(e1:ρ (.tmp 52)=pv p),-⟩:=hk;refine Par.val_k fun K hK=> ?_;unfold Par.val
           (refine Par.val_call Tryz.func23 (by kernel_rfl) rfl e0 ?_;simp only[List.map_toArray,List.map_cons,List.map_nil,e1];refine(st_any (HI10.out.ext hX) HQ10.out (TBx HT.out (HE10.out.trans hX)) HSQ.out).mono ?_;rintro e w2 ⟨⟨vi,vd,vc,rfl,ho⟩,hx⟩;exact⟨_,rfl,hK _ _ ⟨hx,vi,vd,vc,_,rfl,ho⟩⟩)
         refine⟨⟨fun _ _ u hu=> .inl hu,fun ρ w' hX hG hk=> ?_⟩,?_⟩
         · obtain⟨e0,(e1:(fun v w'=>∃vi vd vc,∃b:Nat,v=srV s vi vd vc∧SrO b w' s vi vd vc) (ρ (.tmp 53)) w'),-⟩:=hk;refine Par.val_k fun K hK=> ?_;unfold Par.val
           (obtain⟨vi,vd,vc,b,e1,ho⟩:=e1;refine Par.val_call Tryz.func22 (by kernel_rfl) rfl e0 ?_;simp only[List.map_toArray,List.map_cons,List.map_nil,e1];refine(lst_any ho HSM.out).mono ?_;rintro e w2 ⟨⟨x1,x2,x3,rfl,hr⟩,hx⟩;exact⟨_,rfl,hK _ _ ⟨hx,x1,x2,x3,_,rfl,hr⟩⟩)
         refine⟨⟨fun _ _ u hu=> .inl hu,fun ρ w' hX hG hk=> ?_⟩,?_⟩
         · obtain⟨(e0:ρ (.tmp 9)=Value.pointer (some ⟨b9,0,none⟩)),-⟩:=hk;refine Par.val_k fun K hK=> ?_;unfold Par.val
           (obtain⟨cc0,cc1,cc2,cc3,cc4,cc5,cc6,cc7,-⟩:=blk8 (hX.obj HB9.out);go_simp;exact hK _ _ ⟨Ext.refl _,rfl⟩)
         refine⟨⟨fun _ _ u hu=> .inl hu,fun ρ w' hX hG hk=> ?_⟩,?_⟩
         · obtain⟨e0,(e1:(fun v w'=>∃vi vd vc,∃b:Nat,v=srV s vi vd vc∧RSt b w' s vi vd vc) (ρ (.tmp 54)) w'),(e2:ρ (.tmp 55)=srV s wa wb wc),-⟩:=hk;refine Par.val_k fun K hK=> ?_;unfold Par.val
           (obtain⟨vi,vd,vc,b,e1,ho⟩:=e1;refine Par.val_call Tryz.func21 (by kernel_rfl) rfl e0 ?_;simp only[List.map_toArray,List.map_cons,List.map_nil,e1,e2];refine(rsame11_eq ho (HR10.out.ext hX) (by have:=HSM.out.it;omega)).mono ?_;rintro e w2 ⟨rfl,hx⟩;exact⟨_,rfl,hK _ _ ⟨hx,rfl⟩⟩)
         refine⟨⟨fun _ _ u hu=> .inl hu,fun _ _ _ _ hk=>Par.pv [(56,Value.bool true)] hk (by kernel_rfl) ⟨Ext.refl _,rfl⟩⟩,?_⟩
         refine⟨⟨fun _ _=>trivial,fun _ _ _ _ hk=>Par.pv [(51,Value.bool true),(57,Value.bool false)] hk (by kernel_rfl) ⟨Ext.refl _,rfl⟩⟩,?_⟩
         trivial
       intro a' w' inv
       have hX:=inv.ext
       have q53:(fun v w'=>∃vi vd vc,∃b:Nat,v=srV s vi vd vc∧SrO b w' s vi vd vc) (a'.tmps.getD 53 undef) w':=inv.done 8 _ 53 rfl rfl rfl
       have q54:(fun v w'=>∃vi vd vc,∃b:Nat,v=srV s vi vd vc∧RSt b w' s vi vd vc) (a'.tmps.getD 54 undef) w':=inv.done 9 _ 54 rfl rfl rfl
       have hq:=Par.donesI inv;simp only[Par.dones,Par.EQ,true_and,and_true] at hq
       clear inv
       simp only[List.filterMap_cons,List.filterMap_nil,Par.putAll,Act.put,List.setIfInBounds_toArray,List.set_cons_succ,List.set_cons_zero,hq]
       clear hq
       generalize a'.tmps.getD 53 undef=u53 at*
       generalize a'.tmps.getD 54 undef=u54 at*
       clear a'
       obtain⟨o0,o1,o2,o3,o4,o5,o6,o7,o8,o9,o10,o11,o12,o13,o14,-⟩:=blk15 (hX.obj HB10.out)
       have HI12:=hid (HI10.out.ext hX)
       have HE12:=hid (HE10.out.trans hX)
       have hne2:=HNE.out
       go_wp2
       clear o0 o1 o2 o3 o4 o5 o6 o7 o8 o9 o10 o11 o12 o13 o14
       go_roundw
       case rel=>exact⟨k+1,x9,_,HKM.out,by go_num,HI12,hid (HQ9.out.mono (by omega)),HE12⟩
       case measure=>simp[intOf];have:=HKM.out;omega
  · have hki:decide ((k:Int)<(m.length:Int))=false:=by simp;omega
    go_wp2
    go_returns
    exact⟨rfl,HE.out⟩
end Go.Proofs.YtcfgafododiioaaGreatDoor
namespace Go.Proofs.YtcfgafododiioaaGreatDoor.indexErrors
open Go.ChangeShapes Go.WideShapes Go.ChangeAt Go.RowKit
open Go.ChangeMaps (open_string shut_string)
theorem own:ownKnob Tryz.prog.godebug=none:=by kernel_rfl
theorem kid1:laidOutB Tryz.prog=true:=by kernel_rfl
theorem kid2:mapsRowed Tryz.prog=true:=by kernel_rfl
theorem kid3:((List.range Tryz.prog.types.size).all fun t=>match Tryz.prog.underlying t with|some (.slice e)=>decide (0<Tryz.prog.cellsOf e)|_=>true)=true:=by kernel_rfl
theorem kid4:∀t∈Tryz.f11.params.toList,t<Tryz.prog.types.size:=by decide+kernel
theorem firstIs:Go.Pinned.utf8First=Lib.firstData:=by kernel_rfl
theorem acceptIs:(Rows.laid_unicode_utf8_acceptRanges:DataW Unit)=Lib.acceptData:=by kernel_rfl
theorem table {W:World} (h:laidMetH Tryz.prog Rows.indexErrorsRow.laid W):TB W:=by
 have h' : laidMet Tryz.prog [("unicode/utf8.acceptRanges", Lib.acceptData), ("unicode/utf8.first", Lib.firstData)] W := by
  rw[←acceptIs,←firstIs]
  exact h
 exact utf8Tabs_of_reads (ρ:=Tryz.lays230_ren) {Tryz.lays230 with} ⟨by kernel_rfl,by kernel_rfl,by kernel_rfl,by kernel_rfl,by kernel_rfl,by kernel_rfl,by kernel_rfl⟩ (Lib.laidMet.reads h' (.tail _ (.head _))) (Lib.laidMet.reads h' (.head _))
set_option maxRecDepth 100000 in
theorem contract (H:Type) (enc:TypeId×Value→H) (W:World) (base:Nat) (args:Array Value) (ds gs:List (DataW H)) (before:List MemPlace)
 (hval:∀(j:Nat) t v,Tryz.f11.params[j]? =some t→args[j]? =some v→Value.okWide Tryz.prog W .any base t v)
 (hW:DataW.Whole enc Tryz.prog Tryz.f11.params.toList Rows.indexErrorsSpec.vars false W args.toList ds gs before) (hL:laidMetH Tryz.prog Rows.indexErrorsRow.laid W):
 Calls Tryz.prog 11 args W fun e W'=>∃v,e= .returned v∧Rows.indexErrorsSpec.post enc Tryz.prog Tryz.f11 false true false false W args v W':=by
 have hW':=hW
 obtain⟨p,q,hA0,hV,rfl,hfz,hnd⟩:=hW
 have hA:DataW.TrodAll enc Tryz.prog W 0 (fun _=>true) true Tryz.f11.params.toList args.toList ds p:=hA0
 rw[Tryz.params11] at hA hval
 obtain⟨v0,vs0,d0,ds0,p0,q0,hargs,rfl,rfl,h0,r0⟩:=trodAll_cons hA
 obtain⟨v1,vs1,d1,ds1,p1,q1,rfl,rfl,rfl,h1,r1⟩:=trodAll_cons r0
 obtain⟨rfl,rfl,rfl⟩:=trodAll_nil r1
 obtain rfl:args= #[v0,v1]:=by cases args;simp_all
 obtain⟨rfl,rfl⟩:=trodVars_none hV
 obtain⟨la,pa,de,rfl⟩:=open_conf (hval 0 23 v0 rfl rfl) h0
 obtain⟨m1,hm1⟩:=open_actsI (hval 1 24 v1 rfl rfl) h1
 refine(indexErrors_law la pa de v1 m1 W hm1 (table hL)).mono fun e W' ⟨he,hg⟩=> ?_
 subst he
 exact⟨_,rfl,Go.Tum.law_post kid1 kid2 kid3 kid4 rfl Tryz.underlying4 hW' rfl rfl hg⟩
noncomputable def laidWorld (os:Os):World:=
 let w0:=World.holding Tryz.prog os ⟨#[],#[],[]⟩
 let put (h:Array Obj) (g:Nat) (cs:Array Value):Array Obj:=h.modify g fun
  | .cells _ t frozen=> .cells cs t frozen
  |o=>o
 {w0 with heap:=put (put w0.heap 0 (Lib.firstTab.map fun z=>Value.int .u8 z).toArray) 1 ((List.range 16).flatMap fun i=>[Value.int .u8 (Lib.accLo i),Value.int .u8 (Lib.accHi i)]).toArray}
theorem laid_met (os:Os):laidMet Tryz.prog Rows.indexErrorsRow.laid ((laidWorld os).forCall (fun _ _=>0) ⟨#[],#[.agg #[.int .i64 0,.int .i64 0,.int .i64 0],.slice none 0 0],[]⟩).memory:=
 laidMet_of_run3 10 (by kernel_rfl) (by kernel_rfl) (by kernel_rfl)
theorem reads (os:Os) {H:Type} (enc:TypeId×Value→H):∃places,DataW.whole enc Tryz.prog ((laidWorld os).forCall (fun _ _=>0) ⟨#[],#[.agg #[.int .i64 0,.int .i64 0,.int .i64 0],.slice none 0 0],[]⟩).memory Tryz.f11.params.toList Rows.indexErrorsSpec.vars false #[Value.agg #[.int .i64 0,.int .i64 0,.int .i64 0],.slice none 0 0].toList 8=some ([.agg [.lit (.int .i64 0),.lit (.int .i64 0),.lit (.int .i64 0)],.nil],[],places):=
 ⟨[],by kernel_rfl⟩
set_option maxRecDepth 100000 in
theorem lifted (os:Os) (started:os.Started) (H:Type) (enc:TypeId×Value→H) (F:Stop.Interp):
 ReturnsInHanded {} Tryz.checked os 11 .any ((OpenSpec.ofChange Rows.indexErrorsSpec).preRow enc Tryz.prog Tryz.f11 Rows.indexErrorsRow.domain false Rows.indexErrorsRow.laid) (((OpenSpec.ofChange Rows.indexErrorsSpec).at F).post enc Tryz.prog Tryz.f11 false true false false):=by
 obtain⟨places,hx⟩:=reads os enc
 refine returnsInHanded_of_row (C:=Tryz.checked) (s:=OpenSpec.ofChange Rows.indexErrorsSpec) own started (by kernel_rfl) Tryz.func11
  (witness_row_at (enc:=enc) (C:=Tryz.checked) false (laidWorld os) #[.agg #[.int .i64 0,.int .i64 0,.int .i64 0],.slice none 0 0] rfl (by kernel_rfl) (by kernel_rfl) (by kernel_rfl)
   (OpenSpec.preRow_of_cond 8 hx (by kernel_rfl) (fun k hk=>by cases hk) (by kernel_rfl) (laid_met os))) ?_
 intro W base args ds gs before hval hW _ _ _ hL _ _
 exact contract H enc W base args ds gs before hval hW hL
theorem said:Rows.IndexErrorsSaid:=
 OpenClaim.holds_of_cond 11 Tryz.f11 rfl rfl rfl rfl rfl rfl rfl ⟨rfl,rfl,rfl,rfl,rfl⟩ rfl rfl rfl rfl rfl (by kernel_rfl) Tryz.func11 (by kernel_rfl)
  (of_decide_eq_true (by kernel_rfl)) (by unfold Func.isWrapper;first|(rw[if_pos (by decide+kernel)];kernel_rfl)|(rw[if_neg (by decide+kernel)];exact⟨rfl,rfl⟩))
  (fun os started H enc _ F=>by rw[OpenClaim.pre_eq_preRow];exact lifted os started H enc F)
theorem plain (f : FuncId) (fn : Func) (hf : Tryz.pinned.checked.prog.funcNamed "tumbrel/tumbrellaw11.IndexErrors" = some f) (hfn : Tryz.pinned.checked.prog.funcs[f]? = some fn) :
 false=Tryz.pinned.checked.prog.looks []∧∀(j:Nat) t,fn.params[j]? =some t→Tryz.pinned.checked.prog.wantsStandIn t=false:=by
 obtain rfl : f = 11 := Option.some.inj ((show Tryz.prog.funcNamed "tumbrel/tumbrellaw11.IndexErrors" = some 11 by kernel_rfl).symm.trans hf) |>.symm
 obtain rfl:fn=Tryz.f11:=(Option.some.inj (Tryz.func11.symm.trans hfn)).symm
 refine⟨by kernel_rfl,fun j t ht=> ?_⟩
 rw[Tryz.params11] at ht
 have hm:=Array.mem_of_getElem? ht
 have hall:∀t∈Tryz.f11.params.toList,Tryz.prog.wantsStandIn t=false:=by decide+kernel
 rw[Tryz.params11] at hall
 exact hall t (by simpa using hm)
theorem proved:Rows.IndexErrorsCardSaid:=
 Claim7.holds_tied_plain_at .later [] _ _ _ _ said (fun _ h=>by cases h) (by kernel_rfl) (fun _ h=>by cases h) indexErrors_row_tie rfl ⟨rfl,rfl⟩ (by kernel_rfl) rfl plain (by kernel_rfl)
end Go.Proofs.YtcfgafododiioaaGreatDoor.indexErrors
