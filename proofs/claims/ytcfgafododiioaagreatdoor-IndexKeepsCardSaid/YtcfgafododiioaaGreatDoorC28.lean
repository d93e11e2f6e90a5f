/- Texts of a claim, side by side. -/
import Derived.Test.YtcfgafododiioaaGreatDoorC11
import Derived.Test.YtcfgafododiioaaGreatDoorC26
import Derived.Test.YtcfgafododiioaaGreatDoorC1
import Derived.Test.YtcfgafododiioaaGreatDoorC27
set_option linter.unusedSimpArgs false
set_option linter.unusedVariables false
namespace Go.Proofs.YtcfgafododiioaaGreatDoor
open Go Go.RowKit Go.Tum Go.ChangeMaps Go.Sort Go.Tum.Rn
open Go.ParB (upd Lof)
open Go.ParE (putS slotsR slots Closed)
theorem Sl.cells {w:World} {size n cap:Nat} {ao:Option Addr} {xs:List Value} (h:Sl w size (.slice ao n cap) n xs):n≤cap∧cap≤maxLen∧(ao=none→cap=0)∧∀a,ao=some a→∀j u,xs[j]? =some u→w.cell? (a.add j)=some u:=by
 obtain⟨-,ao',cap',e,h1,h2,h3,h4⟩:=h
 cases e
 exact⟨h1,h2,h3,h4⟩
theorem u64_le (a b:UInt64):decide (a≤b)=decide (a.toNat≤b.toNat):=by simp only[UInt64.le_iff_toNat_le]
def takeR:UInt64→List (UInt64×UInt64)→PD→Option PD
 |_,[],s=>some s
 |ahead,z::r,s=>if decide (z.2≤ahead)||(decide (s.last<z.2)||(s.rows.lookup z.1).isSome) then none else takeR z.2 r {s with rows:=s.rows++[z]}
def TakP (w:World) (p mp ms:Nat) (o:Option PD) (e:Ending) (w':World):Prop:=
 Fr [p,mp,ms] w w'∧match o with
 |some s'=>e= .returned (.bool true)∧DD w' p mp ms s'
 |none=>e= .returned (.bool false)
set_option maxRecDepth 100000 in
set_option maxHeartbeats 2000000 in
theorem dtakeR_any {w:World} {p mp ms:Nat} {s:PD} {v:Value} (rows:List (UInt64×UInt64)) (h:DD w p mp ms s) (hs:∀w',Fr [p,mp,ms] w w'→Sl w' 2 v rows.length (rows.flatMap encR)) (hlr:s.rows.length+rows.length≤99999):
 Calls Tryz.prog 162 #[pv p,v] w fun e w'=>TakP w p mp ms (takeR 0 rows s) e w':=by
 obtain⟨O,hO⟩:∃O,takeR 0 rows s=O:=⟨_,rfl⟩
 have HO:=hid hO
 rw[hO]
 have H:=hid h
 have HS:=hid hs
 have HLR:=hid hlr
 obtain⟨hfl,ao,cap,rfl,hnc,hcm,hz,-⟩:=hs w (Fr.refl _ _)
 have hcm2:cap≤9223372036854775807:=by simpa[maxLen] using hcm
 clear h hs hlr hO hfl hcm
 go_enter Tryz.func162,Tryz.ntmps162
 go_wp2
 go_loopw [5,10] (fun av iv wr=>∃(k:Nat) (ah:UInt64) (s2:PD),k≤rows.length∧iv= .int .i64 (k:Int)∧av=vU ah∧Hid (takeR ah (rows.drop k) s2=O)∧Hid (DD wr p mp ms s2)∧Hid (s2.rows.length+(rows.length - k)≤99999)∧Hid (Fr [p,mp,ms] w wr)) (fun _ iv _=>rows.length - (intOf iv).toNat)
 case atStart=>exact⟨0,0,s,by omega,rfl,rfl,HO,H,by simpa using HLR,hid (Fr.refl _ _)⟩
 case round=>
  obtain⟨k,ah,s2,hk,rfl,rfl,HT,HD,HL,HF⟩:=hrel
  by_cases hkm:k<rows.length
  · have hki:decide ((k:Int)<(rows.length:Int))=true:=by simp;omega
    obtain⟨a,rfl⟩:∃a,ao=some a:=by
     cases ao with
     |none=>have:=hz rfl;omega
     |some a=>exact⟨a,rfl⟩
    obtain⟨-,-,-,hc⟩:=Sl.cells (HS.out wr HF.out)
    obtain⟨g0,g1⟩:=flat2_get (A:=fun z:UInt64×UInt64=>vU z.1) (Bf:=fun z=>vU z.2) rows k hkm
    have r0:=cell_first (i:=k*2) (hc a rfl _ _ g0)
    have r1:=cell_next (i:=k*2) (j:=1) (hc a rfl _ _ g1) (by decide)
    have hdrop:=List.drop_eq_getElem_cons hkm
    obtain⟨z,hz2⟩:∃z,rows[k]=z:=⟨_,rfl⟩
    rw[hz2] at r0 r1 hdrop
    have ht:=HT.out
    rw[hdrop] at ht
    obtain⟨z1,z2⟩:=z
    have HT2:=hid ht
    have HB:=hid (heap_alloc_new wr (.cells #[vU z1,vU z2] 96 (0,0)))
    have HD2:=hid (HD.out.ext (Ext.alloc wr (.cells #[vU z1,vU z2] 96 (0,0))))
    have HF2:=hid (HF.out.trans (Ext.fr (S:=[p,mp,ms]) (Ext.alloc wr (.cells #[vU z1,vU z2] 96 (0,0)))))
    have HKM:=hid hkm
    clear hc g0 g1 hdrop hz2 ht HT HD HF
    go_wp2_with fail
    clear r0 r1
    obtain⟨rb,hrb⟩:∃b,wr.heap.size=b:=⟨_,rfl⟩
    try rw[hrb] at HB
    try rw[hrb]
    clear hrb
    generalize wr.alloc (.cells #[vU z1,vU z2] 96 (0,0))=W5 at*
    obtain⟨b1,hb1⟩:∃b,decide (z2≤ah)=b:=⟨_,rfl⟩
    obtain⟨b2,hb2⟩:∃b,decide (s2.last<z2)=b:=⟨_,rfl⟩
    obtain⟨b3,hb3⟩:∃b,(s2.rows.lookup z1).isSome=b:=⟨_,rfl⟩
    have HT3:Hid ((if b1||(b2||b3) then none else takeR z2 (rows.drop (k+1)) {s2 with rows:=s2.rows++[(z1,z2)]})=O):=hid (by have:=HT2.out;rw[takeR] at this;dsimp only at this;rw[hb1,hb2,hb3] at this;exact this)
    have HB3:=hid hb3
    rw[u64_le] at hb1
    have hb2':decide (s2.last.toNat<z2.toNat)=b2:=by rw[←hb2];simp only[u64_lt]
    clear hb2 hb3 HT2
    cases b1
    case true=>
     refine Par.wp_region_par (l:=[_,_,_,_,_,_,_,_,_,_,_,_,_,_,_,_,_,_,_]) rfl Ext (Par.VL [Par.EQ (Value.pointer (some ⟨rb,1,none⟩)),Par.EQ (vU z2),Par.EQ (vU ah),Par.EQ (Value.bool true),Par.EQ (Value.bool true),Par.EQ (undef),Par.EQ (undef),Par.EQ (undef),Par.EQ (undef),Par.EQ (undef),Par.EQ (undef),Par.EQ (undef),Par.EQ (Value.bool true),Par.EQ (Value.bool true),Par.EQ (undef),Par.EQ (undef),Par.EQ (undef),Par.EQ (undef),Par.EQ (Value.bool true)]) (by kernel_rfl) Ext.refl (fun _ _ _ h1 h2=>Ext.trans h1 h2) (Ext.draw _) (Par.VL_stab ?_) ?_ ?_
     · simp only[List.forall_mem_cons,List.not_mem_nil,false_implies,implies_true,and_true]
       refine⟨fun _ _ _ _ h=>h,fun _ _ _ _ h=>h,fun _ _ _ _ h=>h,fun _ _ _ _ h=>h,fun _ _ _ _ h=>h,fun _ _ _ _ h=>h,fun _ _ _ _ h=>h,fun _ _ _ _ h=>h,fun _ _ _ _ h=>h,fun _ _ _ _ h=>h,fun _ _ _ _ h=>h,fun _ _ _ _ h=>h,fun _ _ _ _ h=>h,fun _ _ _ _ h=>h,fun _ _ _ _ h=>h,fun _ _ _ _ h=>h,fun _ _ _ _ h=>h,fun _ _ _ _ h=>h,fun _ _ _ _ h=>h⟩
     · refine⟨⟨fun _ _=>trivial,fun _ _ _ _ hk=>Par.pv [(7,pv rb)] hk (by kernel_rfl) ⟨Ext.refl _,rfl⟩⟩,?_⟩
       refine⟨⟨fun _ _=>trivial,fun ρ w' hX hG hk=> ?_⟩,?_⟩
       · obtain⟨(e0:ρ (.tmp 14)=Value.pointer (some ⟨rb,1,none⟩)),-⟩:=hk;refine Par.val_k fun K hK=> ?_;unfold Par.val
         (have cc:=(lk2 (hX.obj HB.out)).2.1;go_simp;exact hK _ _ ⟨Ext.refl _,rfl⟩)
       refine⟨⟨fun _ _=>trivial,fun ρ w' hX hG hk=> ?_⟩,?_⟩
       · exact Par.val_of_run rfl ⟨Ext.refl _,hk.1⟩
       refine⟨⟨fun _ _=>trivial,fun ρ w' hX hG hk=> ?_⟩,?_⟩
       · obtain⟨(e0:ρ (.tmp 15)=vU z2),(e1:ρ (.tmp 16)=vU ah),-⟩:=hk;refine Par.val_k fun K hK=> ?_;unfold Par.val
         (go_simp;exact hK _ _ ⟨Ext.refl _,rfl⟩)
       refine⟨⟨fun _ _=>trivial,fun ρ w' hX hG hk=> ?_⟩,?_⟩
       · exact Par.val_of_run rfl ⟨Ext.refl _,hk.1⟩
       refine⟨⟨fun _ _ u hu=> .inr rfl,fun ρ w' hX hG hk=> ?_⟩,?_⟩
       · cases hG
       refine⟨⟨fun _ _ u hu=> .inr rfl,fun ρ w' hX hG hk=> ?_⟩,?_⟩
       · cases hG
       refine⟨⟨fun _ _ u hu=> .inr rfl,fun ρ w' hX hG hk=> ?_⟩,?_⟩
       · cases hG
       refine⟨⟨fun _ _ u hu=> .inr rfl,fun ρ w' hX hG hk=> ?_⟩,?_⟩
       · cases hG
       refine⟨⟨fun _ _ u hu=> .inr rfl,fun ρ w' hX hG hk=> ?_⟩,?_⟩
       · cases hG
       refine⟨⟨fun _ _ u hu=> .inr rfl,fun ρ w' hX hG hk=> ?_⟩,?_⟩
       · cases hG
       refine⟨⟨fun _ _ u hu=> .inr rfl,fun ρ w' hX hG hk=> ?_⟩,?_⟩
       · cases hG
       refine⟨⟨fun _ _=>trivial,fun _ _ _ _ hk=>Par.pv [(18,Value.bool true),(25,undef)] hk (by kernel_rfl) ⟨Ext.refl _,rfl⟩⟩,?_⟩
       refine⟨⟨fun _ _=>trivial,fun ρ w' hX hG hk=> ?_⟩,?_⟩
       · exact Par.val_of_run rfl ⟨Ext.refl _,hk.1⟩
       refine⟨⟨fun _ _ u hu=> .inr rfl,fun ρ w' hX hG hk=> ?_⟩,?_⟩
       · cases hG
       refine⟨⟨fun _ _ u hu=> .inr rfl,fun ρ w' hX hG hk=> ?_⟩,?_⟩
       · cases hG
       refine⟨⟨fun _ _ u hu=> .inr rfl,fun ρ w' hX hG hk=> ?_⟩,?_⟩
       · cases hG
       refine⟨⟨fun _ _ u hu=> .inr rfl,fun ρ w' hX hG hk=> ?_⟩,?_⟩
       · cases hG
       refine⟨⟨fun _ _=>trivial,fun _ _ _ _ hk=>Par.pv [(27,Value.bool true),(31,undef)] hk (by kernel_rfl) ⟨Ext.refl _,rfl⟩⟩,?_⟩
       trivial
     intro a' w' inv
     have hX:=inv.ext
     have hq:=Par.donesI inv;simp only[Par.dones,Par.EQ,true_and,and_true] at hq
     clear inv
     simp only[List.filterMap_cons,List.filterMap_nil,Par.putAll,Act.put,List.setIfInBounds_toArray,List.set_cons_succ,List.set_cons_zero,hq]
     clear hq
     clear a'
     have HF3:=hid (HF2.out.trans (Ext.fr (S:=[p,mp,ms]) hX))
     clear hX
     go_wp2
     go_returns
     rw[←HT3.out]
     exact⟨HF3.out,rfl⟩
    cases b2
    case true=>
     refine Par.wp_region_par (l:=[_,_,_,_,_,_,_,_,_,_,_,_,_,_,_,_,_,_,_]) rfl Ext (Par.VL [Par.EQ (Value.pointer (some ⟨rb,1,none⟩)),Par.EQ (vU z2),Par.EQ (vU ah),Par.EQ (Value.bool false),Par.EQ (Value.bool false),Par.EQ (Value.pointer (some ⟨rb,1,none⟩)),Par.EQ (vU z2),Par.EQ (pv p),Par.EQ (pv p),Par.EQ (Value.pointer (some ⟨p,0,none⟩)),Par.EQ (vU s2.last),Par.EQ (Value.bool true),Par.EQ (Value.bool true),Par.EQ (Value.bool true),Par.EQ (undef),Par.EQ (undef),Par.EQ (undef),Par.EQ (undef),Par.EQ (Value.bool true)]) (by kernel_rfl) Ext.refl (fun _ _ _ h1 h2=>Ext.trans h1 h2) (Ext.draw _) (Par.VL_stab ?_) ?_ ?_
     · simp only[List.forall_mem_cons,List.not_mem_nil,false_implies,implies_true,and_true]
       refine⟨fun _ _ _ _ h=>h,fun _ _ _ _ h=>h,fun _ _ _ _ h=>h,fun _ _ _ _ h=>h,fun _ _ _ _ h=>h,fun _ _ _ _ h=>h,fun _ _ _ _ h=>h,fun _ _ _ _ h=>h,fun _ _ _ _ h=>h,fun _ _ _ _ h=>h,fun _ _ _ _ h=>h,fun _ _ _ _ h=>h,fun _ _ _ _ h=>h,fun _ _ _ _ h=>h,fun _ _ _ _ h=>h,fun _ _ _ _ h=>h,fun _ _ _ _ h=>h,fun _ _ _ _ h=>h,fun _ _ _ _ h=>h⟩
     · refine⟨⟨fun _ _=>trivial,fun _ _ _ _ hk=>Par.pv [(7,pv rb)] hk (by kernel_rfl) ⟨Ext.refl _,rfl⟩⟩,?_⟩
       refine⟨⟨fun _ _=>trivial,fun ρ w' hX hG hk=> ?_⟩,?_⟩
       · obtain⟨(e0:ρ (.tmp 14)=Value.pointer (some ⟨rb,1,none⟩)),-⟩:=hk;refine Par.val_k fun K hK=> ?_;unfold Par.val
         (have cc:=(lk2 (hX.obj HB.out)).2.1;go_simp;exact hK _ _ ⟨Ext.refl _,rfl⟩)
       refine⟨⟨fun _ _=>trivial,fun ρ w' hX hG hk=> ?_⟩,?_⟩
       · exact Par.val_of_run rfl ⟨Ext.refl _,hk.1⟩
       refine⟨⟨fun _ _=>trivial,fun ρ w' hX hG hk=> ?_⟩,?_⟩
       · obtain⟨(e0:ρ (.tmp 15)=vU z2),(e1:ρ (.tmp 16)=vU ah),-⟩:=hk;refine Par.val_k fun K hK=> ?_;unfold Par.val
         (go_simp;exact hK _ _ ⟨Ext.refl _,rfl⟩)
       refine⟨⟨fun _ _=>trivial,fun ρ w' hX hG hk=> ?_⟩,?_⟩
       · exact Par.val_of_run rfl ⟨Ext.refl _,hk.1⟩
       refine⟨⟨fun _ _ u hu=> .inl hu,fun _ _ _ _ hk=>Par.pv [(7,pv rb)] hk (by kernel_rfl) ⟨Ext.refl _,rfl⟩⟩,?_⟩
       refine⟨⟨fun _ _ u hu=> .inl hu,fun ρ w' hX hG hk=> ?_⟩,?_⟩
       · obtain⟨(e0:ρ (.tmp 19)=Value.pointer (some ⟨rb,1,none⟩)),-⟩:=hk;refine Par.val_k fun K hK=> ?_;unfold Par.val
         (have cc:=(lk2 (hX.obj HB.out)).2.1;go_simp;exact hK _ _ ⟨Ext.refl _,rfl⟩)
       refine⟨⟨fun _ _ u hu=> .inl hu,fun ρ w' hX hG hk=> ?_⟩,?_⟩
       · exact Par.val_of_run rfl ⟨Ext.refl _,hk.1⟩
       refine⟨⟨fun _ _ u hu=> .inl hu,fun ρ w' hX hG hk=> ?_⟩,?_⟩
       · obtain⟨(e0:ρ (.tmp 21)=pv p),-⟩:=hk;refine Par.val_k fun K hK=> ?_;unfold Par.val
         (go_simp;exact hK _ _ ⟨Ext.refl _,rfl⟩)
       refine⟨⟨fun _ _ u hu=> .inl hu,fun _ _ _ _ hk=>Par.pv [(22,pv p)] hk (by kernel_rfl) ⟨Ext.refl _,rfl⟩⟩,?_⟩
       refine⟨⟨fun _ _ u hu=> .inl hu,fun ρ w' hX hG hk=> ?_⟩,?_⟩
       · obtain⟨(e0:ρ (.tmp 23)=Value.pointer (some ⟨p,0,none⟩)),-⟩:=hk;refine Par.val_k fun K hK=> ?_;unfold Par.val
         (have cc:=(lk3D (HD2.out.ext hX).hd).1;go_simp;exact hK _ _ ⟨Ext.refl _,rfl⟩)
       refine⟨⟨fun _ _ u hu=> .inl hu,fun ρ w' hX hG hk=> ?_⟩,?_⟩
       · obtain⟨(e0:ρ (.tmp 20)=vU z2),(e1:ρ (.tmp 24)=vU s2.last),-⟩:=hk;refine Par.val_k fun K hK=> ?_;unfold Par.val
         (go_simp;exact hK _ _ ⟨Ext.refl _,rfl⟩)
       refine⟨⟨fun _ _=>trivial,fun _ _ _ _ hk=>Par.pv [(18,Value.bool false),(25,Value.bool true)] hk (by kernel_rfl) ⟨Ext.refl _,rfl⟩⟩,?_⟩
       refine⟨⟨fun _ _=>trivial,fun ρ w' hX hG hk=> ?_⟩,?_⟩
       · exact Par.val_of_run rfl ⟨Ext.refl _,hk.1⟩
       refine⟨⟨fun _ _ u hu=> .inr rfl,fun ρ w' hX hG hk=> ?_⟩,?_⟩
       · cases hG
       refine⟨⟨fun _ _ u hu=> .inr rfl,fun ρ w' hX hG hk=> ?_⟩,?_⟩
       · cases hG
       refine⟨⟨fun _ _ u hu=> .inr rfl,fun ρ w' hX hG hk=> ?_⟩,?_⟩
       · cases hG
       refine⟨⟨fun _ _ u hu=> .inr rfl,fun ρ w' hX hG hk=> ?_⟩,?_⟩
       · cases hG
       refine⟨⟨fun _ _=>trivial,fun _ _ _ _ hk=>Par.pv [(27,Value.bool true),(31,undef)] hk (by kernel_rfl) ⟨Ext.refl _,rfl⟩⟩,?_⟩
       trivial
     intro a' w' inv
     have hX:=inv.ext
     have hq:=Par.donesI inv;simp only[Par.dones,Par.EQ,true_and,and_true] at hq
     clear inv
     simp only[List.filterMap_cons,List.filterMap_nil,Par.putAll,Act.put,List.setIfInBounds_toArray,List.set_cons_succ,List.set_cons_zero,hq]
     clear hq
     clear a'
     have HF3:=hid (HF2.out.trans (Ext.fr (S:=[p,mp,ms]) hX))
     clear hX
     go_wp2
     go_returns
     rw[←HT3.out]
     exact⟨HF3.out,rfl⟩
    cases b3
    case true=>
     refine Par.wp_region_par (l:=[_,_,_,_,_,_,_,_,_,_,_,_,_,_,_,_,_,_,_]) rfl Ext (Par.VL [Par.EQ (Value.pointer (some ⟨rb,1,none⟩)),Par.EQ (vU z2),Par.EQ (vU ah),Par.EQ (Value.bool false),Par.EQ (Value.bool false),Par.EQ (Value.pointer (some ⟨rb,1,none⟩)),Par.EQ (vU z2),Par.EQ (pv p),Par.EQ (pv p),Par.EQ (Value.pointer (some ⟨p,0,none⟩)),Par.EQ (vU s2.last),Par.EQ (Value.bool false),Par.EQ (Value.bool false),Par.EQ (Value.bool false),Par.EQ (pv p),Par.EQ (Value.pointer (some ⟨rb,0,none⟩)),Par.EQ (vU z1),Par.EQ (Value.bool true),Par.EQ (Value.bool true)]) (by kernel_rfl) Ext.refl (fun _ _ _ h1 h2=>Ext.trans h1 h2) (Ext.draw _) (Par.VL_stab ?_) ?_ ?_
     · simp only[List.forall_mem_cons,List.not_mem_nil,false_implies,implies_true,and_true]
       refine⟨fun _ _ _ _ h=>h,fun _ _ _ _ h=>h,fun _ _ _ _ h=>h,fun _ _ _ _ h=>h,fun _ _ _ _ h=>h,fun _ _ _ _ h=>h,fun _ _ _ _ h=>h,fun _ _ _ _ h=>h,fun _ _ _ _ h=>h,fun _ _ _ _ h=>h,fun _ _ _ _ h=>h,fun _ _ _ _ h=>h,fun _ _ _ _ h=>h,fun _ _ _ _ h=>h,fun _ _ _ _ h=>h,fun _ _ _ _ h=>h,fun _ _ _ _ h=>h,fun _ _ _ _ h=>h,fun _ _ _ _ h=>h⟩
     · refine⟨⟨fun _ _=>trivial,fun _ _ _ _ hk=>Par.pv [(7,pv rb)] hk (by kernel_rfl) ⟨Ext.refl _,rfl⟩⟩,?_⟩
       refine⟨⟨fun _ _=>trivial,fun ρ w' hX hG hk=> ?_⟩,?_⟩
       · obtain⟨(e0:ρ (.tmp 14)=Value.pointer (some ⟨rb,1,none⟩)),-⟩:=hk;refine Par.val_k fun K hK=> ?_;unfold Par.val
         (have cc:=(lk2 (hX.obj HB.out)).2.1;go_simp;exact hK _ _ ⟨Ext.refl _,rfl⟩)
       refine⟨⟨fun _ _=>trivial,fun ρ w' hX hG hk=> ?_⟩,?_⟩
       · exact Par.val_of_run rfl ⟨Ext.refl _,hk.1⟩
       refine⟨⟨fun _ _=>trivial,fun ρ w' hX hG hk=> ?_⟩,?_⟩
       · obtain⟨(e0:ρ (.tmp 15)=vU z2),(e1:ρ (.tmp 16)=vU ah),-⟩:=hk;refine Par.val_k fun K hK=> ?_;unfold Par.val
         (go_simp;exact hK _ _ ⟨Ext.refl _,rfl⟩)
       refine⟨⟨fun _ _=>trivial,fun ρ w' hX hG hk=> ?_⟩,?_⟩
       · exact Par.val_of_run rfl ⟨Ext.refl _,hk.1⟩
       refine⟨⟨fun _ _ u hu=> .inl hu,fun _ _ _ _ hk=>Par.pv [(7,pv rb)] hk (by kernel_rfl) ⟨Ext.refl _,rfl⟩⟩,?_⟩
       refine⟨⟨fun _ _ u hu=> .inl hu,fun ρ w' hX hG hk=> ?_⟩,?_⟩
       · obtain⟨(e0:ρ (.tmp 19)=Value.pointer (some ⟨rb,1,none⟩)),-⟩:=hk;refine Par.val_k fun K hK=> ?_;unfold Par.val
         (have cc:=(lk2 (hX.obj HB.out)).2.1;go_simp;exact hK _ _ ⟨Ext.refl _,rfl⟩)
       refine⟨⟨fun _ _ u hu=> .inl hu,fun ρ w' hX hG hk=> ?_⟩,?_⟩
       · exact Par.val_of_run rfl ⟨Ext.refl _,hk.1⟩
       refine⟨⟨fun _ _ u hu=> .inl hu,fun ρ w' hX hG hk=> ?_⟩,?_⟩
       · obtain⟨(e0:ρ (.tmp 21)=pv p),-⟩:=hk;refine Par.val_k fun K hK=> ?_;unfold Par.val
         (go_simp;exact hK _ _ ⟨Ext.refl _,rfl⟩)
       refine⟨⟨fun _ _ u hu=> .inl hu,fun _ _ _ _ hk=>Par.pv [(22,pv p)] hk (by kernel_rfl) ⟨Ext.refl _,rfl⟩⟩,?_⟩
       refine⟨⟨fun _ _ u hu=> .inl hu,fun ρ w' hX hG hk=> ?_⟩,?_⟩
       · obtain⟨(e0:ρ (.tmp 23)=Value.pointer (some ⟨p,0,none⟩)),-⟩:=hk;refine Par.val_k fun K hK=> ?_;unfold Par.val
         (have cc:=(lk3D (HD2.out.ext hX).hd).1;go_simp;exact hK _ _ ⟨Ext.refl _,rfl⟩)
       refine⟨⟨fun _ _ u hu=> .inl hu,fun ρ w' hX hG hk=> ?_⟩,?_⟩
       · obtain⟨(e0:ρ (.tmp 20)=vU z2),(e1:ρ (.tmp 24)=vU s2.last),-⟩:=hk;refine Par.val_k fun K hK=> ?_;unfold Par.val
         (go_simp;exact hK _ _ ⟨Ext.refl _,rfl⟩)
       refine⟨⟨fun _ _=>trivial,fun _ _ _ _ hk=>Par.pv [(18,Value.bool false),(25,Value.bool false)] hk (by kernel_rfl) ⟨Ext.refl _,rfl⟩⟩,?_⟩
       refine⟨⟨fun _ _=>trivial,fun ρ w' hX hG hk=> ?_⟩,?_⟩
       · exact Par.val_of_run rfl ⟨Ext.refl _,hk.1⟩
       refine⟨⟨fun _ _ u hu=> .inl hu,fun ρ w' hX hG hk=> ?_⟩,?_⟩
       · exact Par.val_of_run rfl ⟨Ext.refl _,hk.1⟩
       refine⟨⟨fun _ _ u hu=> .inl hu,fun _ _ _ _ hk=>Par.pv [(7,pv rb)] hk (by kernel_rfl) ⟨Ext.refl _,rfl⟩⟩,?_⟩
       refine⟨⟨fun _ _ u hu=> .inl hu,fun ρ w' hX hG hk=> ?_⟩,?_⟩
       · obtain⟨(e0:ρ (.tmp 29)=Value.pointer (some ⟨rb,0,none⟩)),-⟩:=hk;refine Par.val_k fun K hK=> ?_;unfold Par.val
         (have cc:=(lk2 (hX.obj HB.out)).1;go_simp;exact hK _ _ ⟨Ext.refl _,rfl⟩)
       refine⟨⟨fun _ _ u hu=> .inl hu,fun ρ w' hX hG hk=> ?_⟩,?_⟩
       · obtain⟨e0,(e1:ρ (.tmp 28)=pv p),(e2:ρ (.tmp 30)=vU z1),-⟩:=hk;refine Par.val_k fun K hK=> ?_;unfold Par.val
         refine Par.val_call Tryz.func165 (by kernel_rfl) rfl e0 ?_
         simp only[List.map_toArray,List.map_cons,List.map_nil,e1,e2]
         refine(dhas_any z1 (HD2.out.ext hX)).mono ?_
         rintro e w2 ⟨rfl,rfl⟩
         exact⟨_,rfl,hK _ _ ⟨Ext.refl _,(congrArg Value.bool HB3.out)⟩⟩
       refine⟨⟨fun _ _=>trivial,fun _ _ _ _ hk=>Par.pv [(27,Value.bool false),(31,Value.bool true)] hk (by kernel_rfl) ⟨Ext.refl _,rfl⟩⟩,?_⟩
       trivial
     intro a' w' inv
     have hX:=inv.ext
     have hq:=Par.donesI inv;simp only[Par.dones,Par.EQ,true_and,and_true] at hq
     clear inv
     simp only[List.filterMap_cons,List.filterMap_nil,Par.putAll,Act.put,List.setIfInBounds_toArray,List.set_cons_succ,List.set_cons_zero,hq]
     clear hq
     clear a'
     have HF3:=hid (HF2.out.trans (Ext.fr (S:=[p,mp,ms]) hX))
     clear hX
     go_wp2
     go_returns
     rw[←HT3.out]
     exact⟨HF3.out,rfl⟩
    refine Par.wp_region_par (l:=[_,_,_,_,_,_,_,_,_,_,_,_,_,_,_,_,_,_,_]) rfl Ext (Par.VL [Par.EQ (Value.pointer (some ⟨rb,1,none⟩)),Par.EQ (vU z2),Par.EQ (vU ah),Par.EQ (Value.bool false),Par.EQ (Value.bool false),Par.EQ (Value.pointer (some ⟨rb,1,none⟩)),Par.EQ (vU z2),Par.EQ (pv p),Par.EQ (pv p),Par.EQ (Value.pointer (some ⟨p,0,none⟩)),Par.EQ (vU s2.last),Par.EQ (Value.bool false),Par.EQ (Value.bool false),Par.EQ (Value.bool false),Par.EQ (pv p),Par.EQ (Value.pointer (some ⟨rb,0,none⟩)),Par.EQ (vU z1),Par.EQ (Value.bool false),Par.EQ (Value.bool false)]) (by kernel_rfl) Ext.refl (fun _ _ _ h1 h2=>Ext.trans h1 h2) (Ext.draw _) (Par.VL_stab ?_) ?_ ?_
    · simp only[List.forall_mem_cons,List.not_mem_nil,false_implies,implies_true,and_true]
      refine⟨fun _ _ _ _ h=>h,fun _ _ _ _ h=>h,fun _ _ _ _ h=>h,fun _ _ _ _ h=>h,fun _ _ _ _ h=>h,fun _ _ _ _ h=>h,fun _ _ _ _ h=>h,fun _ _ _ _ h=>h,fun _ _ _ _ h=>h,fun _ _ _ _ h=>h,fun _ _ _ _ h=>h,fun _ _ _ _ h=>h,fun _ _ _ _ h=>h,fun _ _ _ _ h=>h,fun _ _ _ _ h=>h,fun _ _ _ _ h=>h,fun _ _ _ _ h=>h,fun _ _ _ _ h=>h,fun _ _ _ _ h=>h⟩
    · refine⟨⟨fun _ _=>trivial,fun _ _ _ _ hk=>Par.pv [(7,pv rb)] hk (by kernel_rfl) ⟨Ext.refl _,rfl⟩⟩,?_⟩
      refine⟨⟨fun _ _=>trivial,fun ρ w' hX hG hk=> ?_⟩,?_⟩
      · obtain⟨(e0:ρ (.tmp 14)=Value.pointer (some ⟨rb,1,none⟩)),-⟩:=hk;refine Par.val_k fun K hK=> ?_;unfold Par.val
        (have cc:=(lk2 (hX.obj HB.out)).2.1;go_simp;exact hK _ _ ⟨Ext.refl _,rfl⟩)
      refine⟨⟨fun _ _=>trivial,fun ρ w' hX hG hk=> ?_⟩,?_⟩
      · exact Par.val_of_run rfl ⟨Ext.refl _,hk.1⟩
      refine⟨⟨fun _ _=>trivial,fun ρ w' hX hG hk=> ?_⟩,?_⟩
      · obtain⟨(e0:ρ (.tmp 15)=vU z2),(e1:ρ (.tmp 16)=vU ah),-⟩:=hk;refine Par.val_k fun K hK=> ?_;unfold Par.val
        (go_simp;exact hK _ _ ⟨Ext.refl _,rfl⟩)
      refine⟨⟨fun _ _=>trivial,fun ρ w' hX hG hk=> ?_⟩,?_⟩
      · exact Par.val_of_run rfl ⟨Ext.refl _,hk.1⟩
      refine⟨⟨fun _ _ u hu=> .inl hu,fun _ _ _ _ hk=>Par.pv [(7,pv rb)] hk (by kernel_rfl) ⟨Ext.refl _,rfl⟩⟩,?_⟩
      refine⟨⟨fun _ _ u hu=> .inl hu,fun ρ w' hX hG hk=> ?_⟩,?_⟩
      · obtain⟨(e0:ρ (.tmp 19)=Value.pointer (some ⟨rb,1,none⟩)),-⟩:=hk;refine Par.val_k fun K hK=> ?_;unfold Par.val
        (have cc:=(lk2 (hX.obj HB.out)).2.1;go_simp;exact hK _ _ ⟨Ext.refl _,rfl⟩)
      refine⟨⟨fun _ _ u hu=> .inl hu,fun ρ w' hX hG hk=> ?_⟩,?_⟩
      · exact Par.val_of_run rfl ⟨Ext.refl _,hk.1⟩
      refine⟨⟨fun _ _ u hu=> .inl hu,fun ρ w' hX hG hk=> ?_⟩,?_⟩
      · obtain⟨(e0:ρ (.tmp 21)=pv p),-⟩:=hk;refine Par.val_k fun K hK=> ?_;unfold Par.val
        (go_simp;exact hK _ _ ⟨Ext.refl _,rfl⟩)
      refine⟨⟨fun _ _ u hu=> .inl hu,fun _ _ _ _ hk=>Par.pv [(22,pv p)] hk (by kernel_rfl) ⟨Ext.refl _,rfl⟩⟩,?_⟩
      refine⟨⟨fun _ _ u hu=> .inl hu,fun ρ w' hX hG hk=> ?_⟩,?_⟩
      · obtain⟨(e0:ρ (.tmp 23)=Value.pointer (some ⟨p,0,none⟩)),-⟩:=hk;refine Par.val_k fun K hK=> ?_;unfold Par.val
        (have cc:=(lk3D (HD2.out.ext hX).hd).1;go_simp;exact hK _ _ ⟨Ext.refl _,rfl⟩)
      refine⟨⟨fun _ _ u hu=> .inl hu,fun ρ w' hX hG hk=> ?_⟩,?_⟩
      · obtain⟨(e0:ρ (.tmp 20)=vU z2),(e1:ρ (.tmp 24)=vU s2.last),-⟩:=hk;refine Par.val_k fun K hK=> ?_;unfold Par.val
        (go_simp;exact hK _ _ ⟨Ext.refl _,rfl⟩)
      refine⟨⟨fun _ _=>trivial,fun _ _ _ _ hk=>Par.pv [(18,Value.bool false),(25,Value.bool false)] hk (by kernel_rfl) ⟨Ext.refl _,rfl⟩⟩,?_⟩
      refine⟨⟨fun _ _=>trivial,fun ρ w' hX hG hk=> ?_⟩,?_⟩
      · exact Par.val_of_run rfl ⟨Ext.refl _,hk.1⟩
      refine⟨⟨fun _ _ u hu=> .inl hu,fun ρ w' hX hG hk=> ?_⟩,?_⟩
      · exact Par.val_of_run rfl ⟨Ext.refl _,hk.1⟩
      refine⟨⟨fun _ _ u hu=> .inl hu,fun _ _ _ _ hk=>Par.pv [(7,pv rb)] hk (by kernel_rfl) ⟨Ext.refl _,rfl⟩⟩,?_⟩
      refine⟨⟨fun _ _ u hu=> .inl hu,fun ρ w' hX hG hk=> ?_⟩,?_⟩
      · obtain⟨(e0:ρ (.tmp 29)=Value.pointer (some ⟨rb,0,none⟩)),-⟩:=hk;refine Par.val_k fun K hK=> ?_;unfold Par.val
        (have cc:=(lk2 (hX.obj HB.out)).1;go_simp;exact hK _ _ ⟨Ext.refl _,rfl⟩)
      refine⟨⟨fun _ _ u hu=> .inl hu,fun ρ w' hX hG hk=> ?_⟩,?_⟩
      · obtain⟨e0,(e1:ρ (.tmp 28)=pv p),(e2:ρ (.tmp 30)=vU z1),-⟩:=hk;refine Par.val_k fun K hK=> ?_;unfold Par.val
        refine Par.val_call Tryz.func165 (by kernel_rfl) rfl e0 ?_
        simp only[List.map_toArray,List.map_cons,List.map_nil,e1,e2]
        refine(dhas_any z1 (HD2.out.ext hX)).mono ?_
        rintro e w2 ⟨rfl,rfl⟩
        exact⟨_,rfl,hK _ _ ⟨Ext.refl _,(congrArg Value.bool HB3.out)⟩⟩
      refine⟨⟨fun _ _=>trivial,fun _ _ _ _ hk=>Par.pv [(27,Value.bool false),(31,Value.bool false)] hk (by kernel_rfl) ⟨Ext.refl _,rfl⟩⟩,?_⟩
      trivial
    intro a' w' inv
    have hX:=inv.ext
    have hq:=Par.donesI inv;simp only[Par.dones,Par.EQ,true_and,and_true] at hq
    clear inv
    simp only[List.filterMap_cons,List.filterMap_nil,Par.putAll,Act.put,List.setIfInBounds_toArray,List.set_cons_succ,List.set_cons_zero,hq]
    clear hq
    clear a'
    have HF3:=hid (HF2.out.trans (Ext.fr (S:=[p,mp,ms]) hX))
    have HD3:=hid (HD2.out.ext hX)
    have HB4:=hid (hX.obj HB.out)
    clear hX HF2 HD2 HB
    obtain⟨HNO,HT4⟩:Hid (s2.rows.lookup z1=none)∧Hid (takeR z2 (rows.drop (k+1)) {s2 with rows:=s2.rows++[(z1,z2)]}=O):=⟨hid (by have:=HB3.out;cases hq:s2.rows.lookup z1<;>simp_all),hid (by have:=HT3.out;simpa using this)⟩
    obtain⟨W6,rfl⟩:∃x,x=w':=⟨_,rfl⟩
    go_wp2_with fail
    refine ParE.wp_region_e (l:=[_,_,_,_,_,_,_,_,_]) rfl (Rg.Ch [8] [] (OneQ W6 fun w'=>DD w' p mp ms {s2 with rows:=s2.rows++[(z1,z2)]}∧Fr [mp] W6 w')) (ParC.VC [ParC.EQ (pv p),ParC.EQ (pv p),ParC.EQ (Value.pointer (some ⟨p,1,none⟩)),ParC.EQ (Value.map (some mp)),ParC.EQ (Value.pointer (some ⟨rb,0,none⟩)),ParC.EQ (vU z1),ParC.EQ (Value.pointer (some ⟨rb,1,none⟩)),ParC.EQ (vU z2),fun _=>True]) (by kernel_rfl) (by kernel_rfl) (Rg.Ch.start ⟨fun _=>Ext.draw _,trivial⟩) ?_ ?_
    · refine⟨fun L ρ w' hR hC hL hd hk=> ?_,?_⟩
      · exact Par.val_of_run rfl ⟨hR.other (by decide),hk.1⟩
      refine⟨fun L ρ w' hR hC hL hd hk=> ?_,?_⟩
      · obtain⟨(e0:ρ (.tmp 33)=pv p),-⟩:=hk;refine Par.val_k fun K hK=> ?_;unfold Par.val
        (go_simp;exact hK _ _ ⟨hR.other (by decide),rfl⟩)
      refine⟨fun _ _ _ hR _ _ _ hk=>Par.pv [(34,pv p)] hk (by kernel_rfl) ⟨hR.other (by decide),rfl⟩,?_⟩
      refine⟨fun L ρ w' hR hC hL hd hk=> ?_,?_⟩
      · obtain⟨(e0:ρ (.tmp 35)=Value.pointer (some ⟨p,1,none⟩)),-⟩:=hk;refine Par.val_k fun K hK=> ?_;unfold Par.val
        (obtain⟨i,hi,hq⟩:=hR.some 0 rfl (hC.notyet 8 3 hL (by kernel_rfl));have cc:=(lk3D (HD3.out.ext (hq.1 (by omega))).hd).2.1;go_simp;exact hK _ _ ⟨hR.other (by decide),rfl⟩)
      refine⟨fun _ _ _ hR _ _ _ hk=>Par.pv [(7,pv rb)] hk (by kernel_rfl) ⟨hR.other (by decide),rfl⟩,?_⟩
      refine⟨fun L ρ w' hR hC hL hd hk=> ?_,?_⟩
      · obtain⟨(e0:ρ (.tmp 37)=Value.pointer (some ⟨rb,0,none⟩)),-⟩:=hk;refine Par.val_k fun K hK=> ?_;unfold Par.val
        (obtain⟨i,hi,hq⟩:=hR.some 0 rfl (hC.notyet 8 5 hL (by kernel_rfl));have cc:=(lk2 ((hq.1 (by omega)).obj HB4.out)).1;go_simp;exact hK _ _ ⟨hR.other (by decide),rfl⟩)
      refine⟨fun _ _ _ hR _ _ _ hk=>Par.pv [(7,pv rb)] hk (by kernel_rfl) ⟨hR.other (by decide),rfl⟩,?_⟩
      refine⟨fun L ρ w' hR hC hL hd hk=> ?_,?_⟩
      · obtain⟨(e0:ρ (.tmp 39)=Value.pointer (some ⟨rb,1,none⟩)),-⟩:=hk;refine Par.val_k fun K hK=> ?_;unfold Par.val
        (obtain⟨i,hi,hq⟩:=hR.some 0 rfl (hC.notyet 8 7 hL (by kernel_rfl));have cc:=(lk2 ((hq.1 (by omega)).obj HB4.out)).2.1;go_simp;exact hK _ _ ⟨hR.other (by decide),rfl⟩)
      refine⟨fun L ρ w' hR hC hL hd hk=> ?_,?_⟩
      · obtain⟨(e0:ρ (.tmp 36)=Value.map (some mp)),(e1:ρ (.tmp 38)=vU z1),(e2:ρ (.tmp 40)=vU z2),-⟩:=hk;refine Par.val_k fun K hK=> ?_;unfold Par.val
        (obtain⟨hq,hs⟩:=hR.go 0 rfl hL (.inl rfl) (by decide);have hx:=hq.1 (by decide);have hD:=HD3.out.ext hx;obtain⟨l,hl,pl⟩:=hD.rm;have hLL:=HL.out;have hKM:=HKM.out;obtain⟨w4,hrun,hl4,ht4⟩:=hl.store Tryz.underlying133 (by have:=pl.length_eq;omega) (perm_nodup pl hD.nr) z1 z2;have hlk:l.lookup z1=none:=(perm_lookup pl hD.nr z1).trans HNO.out;have hF3:=fr_turned (S:=[mp]) ht4 (by simp);have hres:Hid (DD w4 p mp ms {s2 with rows:=s2.rows++[(z1,z2)]}∧Fr [mp] W6 w4):=hid ⟨⟨(hF3.block p hD.lt.1 (by simpa using hD.pm)).trans hD.hd,⟨_,hl4,by rw[noK_none hlk];exact(List.Perm.cons _ pl).trans (List.perm_append_singleton _ _).symm⟩,(by obtain⟨k7,hk2,pk⟩:=hD.sm;exact⟨k7,hk2.fr hF3 (by simpa using hD.ne.symm),pk⟩),hD.ne,by(have h7:=hD.nr;simp only[List.map_append,List.map_cons,List.map_nil];refine List.nodup_append.2 ⟨h7,by simp,fun a ha b hb=> ?_⟩;simp at hb;subst hb;intro e;exact lku_none.1 HNO.out (e▸ha)),hD.ns,by(simp only[List.length_append,List.length_cons,List.length_nil];omega),hD.ls⟩,(Ext.fr hx).trans hF3⟩;clear hl4 ht4 hF3 pl hlk hl hD hLL hKM;go_simp;exact hK _ _ ⟨hs none _ _ ⟨fun h=>absurd h (by decide),hres.out⟩,trivial⟩)
      trivial
    intro a' w' inv hR
    have hq:=Par.donesC inv;simp only[Par.donesV,ParC.EQ,true_and,and_true] at hq
    clear inv
    simp only[List.filterMap_cons,List.filterMap_nil,Par.putAll,Act.put,List.setIfInBounds_toArray,List.set_cons_succ,List.set_cons_zero,hq]
    clear hq
    obtain⟨-,hrd,hf⟩:=Rg.Ch.fin hR (by decide) 1 rfl;have HRD:=hid hrd;have HF4:=hid (HF3.out.trans (hf.mono (T:=[p,mp,ms]) (by simp)));have HB5:=hid ((hf.block rb (Array.getElem?_eq_some_iff.1 HB4.out).1 (fun hm=>by(obtain⟨l,hl,-⟩:=HD3.out.rm;obtain⟨es,ck,hb⟩:=hl.block;obtain rfl:rb=mp:=(by simpa using hm);rw[HB4.out] at hb;cases hb))).trans HB4.out);clear hrd hf hR
    try clear a'
    have q1:=(lk2 HB5.out).2.1
    go_wp2
    go_roundw
    case rel=>exact⟨k+1,z2,_,by omega,by go_num,rfl,HT4,HRD,hid (by have:=HL.out;have:=HKM.out;simp only[List.length_append,List.length_cons,List.length_nil];omega),HF4⟩
    case measure=>
     show rows.length - ((k:Int)+1).toNat<rows.length - ((k:Int)).toNat
     omega
  · have hkf:decide ((k:Int)<(rows.length:Int))=false:=by simp;omega
    obtain rfl:k=rows.length:=by omega
    have HT2:Hid (some s2=O):=hid (by have:=HT.out;rw[List.drop_length,takeR] at this;exact this)
    go_wp2
    go_returns
    rw[←HT2.out]
    exact⟨HF.out,rfl,HD.out⟩
end Go.Proofs.YtcfgafododiioaaGreatDoor
set_option maxRecDepth 100000
namespace Go.Proofs.YtcfgafododiioaaGreatDoor
open Go Go.RowKit Go.Tum Go.ChangeMaps Go.Sort
theorem row10 {w:World} {L:List It} {a:Addr} {n cap:Nat} (h:Sl w 10 (.slice (some a) n cap) n (L.flatMap itE)) {k:Nat} (hk:k<L.length):
 w.cell? (a.add (k*10))=some (vU L[k].id)∧w.cell? ⟨(a.add (k*10)).block,(a.add (k*10)).off+1,none⟩=some (.int .i64 L[k].lane)∧w.cell? ⟨(a.add (k*10)).block,(a.add (k*10)).off+2,none⟩=some (.int .i64 L[k].st)∧
 w.cell? ⟨(a.add (k*10)).block,(a.add (k*10)).off+3,none⟩=some (.int .i64 L[k].ct)∧w.cell? ⟨(a.add (k*10)).block,(a.add (k*10)).off+4,none⟩=some (vU L[k].due)∧w.cell? ⟨(a.add (k*10)).block,(a.add (k*10)).off+5,none⟩=some (vU L[k].tok)∧
 w.cell? ⟨(a.add (k*10)).block,(a.add (k*10)).off+6,none⟩=some (vU L[k].turn)∧w.cell? ⟨(a.add (k*10)).block,(a.add (k*10)).off+7,none⟩=some (vU L[k].seg)∧w.cell? ⟨(a.add (k*10)).block,(a.add (k*10)).off+8,none⟩=some (vU L[k].pos)∧
 w.cell? ⟨(a.add (k*10)).block,(a.add (k*10)).off+9,none⟩=some (.int .i64 L[k].size):=by
 obtain⟨-,-,-,hc⟩:=Sl.cells h
 have hg:∀j,j<10→(L.flatMap itE)[k*10+j]? =(itE L[k])[j]? :=fun j hj=>flat_get (c:=itE) (size:=10) (l:=L) (fun x _=>rfl) k hk j hj
 refine⟨cell_first (i:=k*10) (hc a rfl _ _ (hg 0 (by decide))),cell_next (i:=k*10) (j:=1) (hc a rfl _ _ (hg 1 (by decide))) (by decide),cell_next (i:=k*10) (j:=2) (hc a rfl _ _ (hg 2 (by decide))) (by decide),
  cell_next (i:=k*10) (j:=3) (hc a rfl _ _ (hg 3 (by decide))) (by decide),cell_next (i:=k*10) (j:=4) (hc a rfl _ _ (hg 4 (by decide))) (by decide),cell_next (i:=k*10) (j:=5) (hc a rfl _ _ (hg 5 (by decide))) (by decide),
  cell_next (i:=k*10) (j:=6) (hc a rfl _ _ (hg 6 (by decide))) (by decide),cell_next (i:=k*10) (j:=7) (hc a rfl _ _ (hg 7 (by decide))) (by decide),cell_next (i:=k*10) (j:=8) (hc a rfl _ _ (hg 8 (by decide))) (by decide),cell_next (i:=k*10) (j:=9) (hc a rfl _ _ (hg 9 (by decide))) (by decide)⟩
theorem sortW_pair (l:List It):(sortW l).Pairwise fun x y=>ltW y x=false:=by
 have:=List.pairwise_mergeSort (le:=fun x y=> !(ltW y x)) (fun a b c h1 h2=>by
  simp only[Bool.not_eq_true'] at*
  exact ltW_total h1 h2) (fun a b=>by
  cases h:ltW b a with
  |false=>rfl
  |true=>rw[ltW_asymm h];rfl) l
 exact this.imp fun h=>by simpa using h
theorem ltW_eq {a b:It} (h1:ltW a b=false) (h2:ltW b a=false):a.id=b.id:=by
 unfold ltW at h1 h2
 simp only[decide_eq_false_iff_not,u64_lt,u64_eq] at h1 h2
 exact u64_eq.2 (by omega)
theorem sortW_of {q:QR} (hq:WQ q) {m:List It} (h:m.Perm (lesI q)) (hm:m.Pairwise fun x y=>ltOf cfD y x=false):m=sortW (lesI q):=by
 refine List.Perm.eq_of_pairwise (le:=fun x y=>ltW y x=false) (fun a b ha hb h1 h2=> ?_) (hm.imp fun h=>by rwa[lt_cfD] at h) (sortW_pair _) (h.trans (sortW_perm _).symm)
 have k1:=(les_in hq (h.mem_iff.1 ha)).1
 have k2:=(les_in hq ((sortW_perm _).mem_iff.1 hb)).1
 rw[ltW_eq h2 h1,k2] at k1
 exact(Option.some.inj k1).symm
structure RsR (d:Int) (RQ:QR) (L:List It) (q:QR):Prop where
 eq:resL d L q=RQ
 de:q.del=d
 lk:∀z∈L,look q z.id=some z∧z.st=3
 nd:(L.map It.id).Nodup
 tu:q.turns.toNat+L.length<18446744073709551615
 wq:WQ q
theorem RsR.start {q:QR} (hq:WQ q) (hb:q.turns.toNat+201<18446744073709551615):RsR q.del (resetQ q) (sortW (lesI q)) q:=by
 have hp:=sortW_perm (lesI q)
 have hl1:(lesI q).length≤200:=Nat.le_trans (List.length_filter_le _ _) (by rw[List.length_map];exact hq.ln)
 refine⟨rfl,rfl,fun z hz=>les_in hq (hp.mem_iff.1 hz),?_,by rw[hp.length_eq];omega,hq⟩
 rw[(hp.map It.id).nodup_iff]
 refine List.Nodup.sublist (List.filter_sublist.map It.id) ?_
 rw[hq.ids]
 exact hq.nd
theorem les_len {q:QR} (hq:WQ q):(sortW (lesI q)).length≤200:=by
 rw[(sortW_perm (lesI q)).length_eq]
 exact Nat.le_trans (List.length_filter_le _ _) (by rw[List.length_map];exact hq.ln)
theorem RsR.next {d:Int} {RQ q:QR} {z:It} {r:List It} (h:RsR d RQ (z::r) q):RsR d RQ r (becQ q z (resetL z.l d)):=by
 obtain⟨heq,hde,hz,hn,hb,hw⟩:=h
 subst hde
 rw[List.map_cons,List.nodup_cons] at hn
 simp only[List.length_cons] at hb
 obtain⟨h1,h2⟩:=hz z (by simp)
 have hr:ItR q z:=hw.it _ (look_in h1)
 obtain⟨k1,k2,k3⟩:=reset_lf hr h2
 have hw2:WQ (becQ q z (resetL z.l q.del)):=hw.become (.inl h1) k1 (by omega) (by omega) fun k=>by omega
 obtain⟨a1,a2,a3,a4,a5,a6,a7⟩:=becQ_same q z (resetL z.l q.del)
 have htn:(becQ q z (resetL z.l q.del)).turns.toNat≤q.turns.toNat+1:=by
  rw[a7]
  split
  · rw[UInt64.toNat_add,show(1:UInt64).toNat=1 from rfl];omega
  · omega
 refine⟨heq,a3,fun y hy=> ?_,hn.2,by omega,hw2⟩
 obtain⟨h3,h4⟩:=hz y (List.mem_cons_of_mem _ hy)
 have hne:y.id≠z.id:=fun e=>hn.1 (List.mem_map.2 ⟨y,hy,e⟩)
 refine⟨?_,h4⟩
 unfold look
 rw[bec_its (by omega),lku_cons,if_neg hne,lookup_noK,if_neg hne]
 exact h3
theorem RsR.done {d:Int} {RQ q:QR} (h:RsR d RQ [] q):q=RQ:=h.eq
theorem reset_u (z:It) (del:Int):U64 (resetL z.l del).d∧U64 (resetL z.l del).t:=by
 have h1:=z.due.toNat_lt
 have h2:=z.tok.toNat_lt
 have hd:U64 z.l.d:=⟨Int.natCast_nonneg _,by show(z.due.toNat:Int)≤_;omega⟩
 have ht:U64 z.l.t:=⟨Int.natCast_nonneg _,by show(z.tok.toNat:Int)≤_;omega⟩
 have h0:U64 0:=⟨Int.le_refl _,by decide⟩
 unfold resetL endL
 repeat' split
 all_goals first|exact⟨hd,ht⟩|exact⟨h0,h0⟩
theorem next_lessN {m N:Nat} (h:m≤200) (hN:m<N):N - (intOf (Value.int .i64 (wrap64 ((m:Int)+1)))).toNat<N - (intOf (Value.int .i64 (m:Int))).toNat:=by
 rw[next_i64 h]
 simp only[intOf,Int.toNat_natCast]
 omega
theorem res1_any (z:It) (w:World):Calls Tryz.prog 92 (#[itV z]++ #[]) w fun e w'=>e= .returned (.bool (decide (z.st=3)))∧Ext w w':=by
 obtain⟨id,la,st,ct,du,tk,tu,sg,ps,sz⟩:=z
 show Calls Tryz.prog 92 #[itV ⟨id,la,st,ct,du,tk,tu,sg,ps,sz⟩] w _
 obtain⟨w1,hw1⟩:∃W,w.alloc (itO ⟨id,la,st,ct,du,tk,tu,sg,ps,sz⟩)=W:=⟨_,rfl⟩
 have e1:Ext w w1:=by rw[←hw1];exact Ext.alloc _ _
 have hb1:w1.heap[w.heap.size]? =some (itO ⟨id,la,st,ct,du,tk,tu,sg,ps,sz⟩):=by rw[←hw1];exact heap_alloc_new _ _
 obtain⟨-,-,d2,-⟩:=blk10 hb1
 have HE:=hid e1
 clear hb1 e1
 go_enter Tryz.func92,Tryz.ntmps92
 go_wp2
 go_ret
 exact⟨rfl,HE.out⟩
theorem enRes1 (args:Array Value) (w:World):Sem.run Tryz.prog (callFunc 92 args) w= .ok (.enter 92 args) w:=enter_of Tryz.func92 (by kernel_rfl) (by kernel_rfl) args w
end Go.Proofs.YtcfgafododiioaaGreatDoor
