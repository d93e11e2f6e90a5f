/- Texts of a claim, side by side. -/
import Derived.Test.YtcfgafododiioaaGreatDoorC11
import Derived.Test.YtcfgafododiioaaGreatDoorC28
set_option linter.unusedSimpArgs false
set_option linter.unusedVariables false
namespace Go.Proofs.YtcfgafododiioaaGreatDoor
open Go Go.RowKit Go.Tum Go.ChangeMaps Go.Sort Go.Tum.Rn
open Go.ParB (upd Lof)
open Go.ParE (putS slotsR slots Closed)
def prevN (l:List Cur) (k:Nat):Option Nm:=if k=0 then none else(l[k - 1]?).map Prod.fst
def lessO (o:Option Nm) (x:Nm):Bool:=match o with
 |none=>true
 |some y=>lessR (runes y) (runes x)
def takeC:Option Nm→List Cur→PD→Option PD
 |_,[],s=>some s
 |prev,c::r,s=>if(!rightL c.1)||((!(decide (foldL c.1=c.1)))||(decide (s.last<c.2)|| !lessO prev c.1)) then none else takeC (some c.1) r {s with seen:=s.seen++[c]}
def takeCs (l:List Cur) (s:PD):Option PD:=if 8<l.length then none else takeC none l s
set_option maxRecDepth 100000 in
set_option maxHeartbeats 2000000 in
theorem dtakeC_any {w:World} {p mp ms:Nat} {s:PD} {v:Value} (rows:List Cur) (h:DD w p mp ms s) (h0:s.seen=[]) (hs:∀w',Fr [p,mp,ms] w w'→Sl w' 2 v rows.length (rows.flatMap encC)) (ht:TB w) (hlo:2≤p∧2≤mp∧2≤ms) (hln:∀z∈rows,z.1.length≤100000):
 Calls Tryz.prog 163 #[pv p,v] w fun e w'=>TakP w p mp ms (takeCs rows s) e w':=by
 obtain⟨O,hO⟩:∃O,takeCs rows s=O:=⟨_,rfl⟩
 have HO:=hid hO
 rw[hO]
 have H:=hid h
 have HS:=hid hs
 have HT:=hid ht
 have HLN:=hid hln
 have HLO:=hid hlo
 have H0:=hid h0
 obtain⟨hfl,ao,cap,rfl,hnc,hcm,hz,-⟩:=hs w (Fr.refl _ _)
 have hcm2:cap≤9223372036854775807:=by simpa[maxLen] using hcm
 clear h hs hO hfl hcm ht hln hlo h0
 by_cases h8:8<rows.length
 · have h8':decide ((8:Int)<(rows.length:Int))=true:=by simp;omega
   have HN:Hid (none=O):=hid (by rw[←HO.out];unfold takeCs;rw[if_pos h8])
   go_enter Tryz.func163,Tryz.ntmps163
   go_wp2
   go_returns
   rw[←HN.out]
   exact⟨Fr.refl _ _,rfl⟩
 have h8':decide ((8:Int)<(rows.length:Int))=false:=by simp;omega
 have HO2:Hid (takeC (prevN rows 0) (rows.drop 0) {s with seen:=rows.take 0}=O):=hid (by
  rw[←HO.out];unfold takeCs prevN;rw[if_neg h8,if_pos rfl,List.drop_zero,List.take_zero]
  congr 1
  have:=H0.out
  cases s;simp_all)
 have HD0:Hid (DD w p mp ms {s with seen:=rows.take 0}):=hid (by
  have:({s with seen:=rows.take 0}:PD)=s:=by have:=H0.out;cases s;simp_all
  rw[this];exact H.out)
 clear HO
 go_enter Tryz.func163,Tryz.ntmps163
 go_wp2
 go_loopw [12] (fun iv wr=>∃(k:Nat),k≤rows.length∧iv= .int .i64 (k:Int)∧Hid (takeC (prevN rows k) (rows.drop k) {s with seen:=rows.take k}=O)∧Hid (DD wr p mp ms {s with seen:=rows.take k})∧Hid ((∀z∈rows.take k,rightL z.1=true)∧(rows.take k).Pairwise fun x y=>ltC x y=true)∧Hid (Fr [p,mp,ms] w wr)) (fun iv _=>rows.length - (intOf iv).toNat)
 case atStart=>exact⟨0,by omega,rfl,HO2,HD0,hid ⟨by simp,by simp⟩,hid (Fr.refl _ _)⟩
 case round=>
  clear HO2 HD0
  obtain⟨k,hk,rfl,HTK,HD,HP,HF⟩:=hrel
  by_cases hkm:k<rows.length
  · have hki:decide ((k:Int)<(rows.length:Int))=true:=by simp;omega
    obtain⟨a,rfl⟩:∃a,ao=some a:=by
     cases ao with
     |none=>have:=hz rfl;omega
     |some a=>exact⟨a,rfl⟩
    obtain⟨-,-,-,hc⟩:=Sl.cells (HS.out wr HF.out)
    obtain⟨g0,g1⟩:=flat2_get (A:=fun z:Cur=>vN z.1) (Bf:=fun z=>vU z.2) rows k hkm
    have r0:=cell_first (i:=k*2) (hc a rfl _ _ g0)
    have r1:=cell_next (i:=k*2) (j:=1) (hc a rfl _ _ g1) (by decide)
    have HPR:Hid (∀j,k=j+1→∃y,prevN rows k=some y∧y.length≤100000∧wr.cell? (a.add (j*2))=some (vN y)):=hid (fun j hj=>by
     have hjr:j<rows.length:=by omega
     obtain⟨g2,-⟩:=flat2_get (A:=fun z:Cur=>vN z.1) (Bf:=fun z=>vU z.2) rows j hjr
     refine⟨rows[j].1,?_,HLN.out _ (List.getElem_mem hjr),cell_first (i:=j*2) (hc a rfl _ _ g2)⟩
     unfold prevN
     rw[if_neg (by omega),show k - 1=j by omega,List.getElem?_eq_getElem hjr];rfl)
    have hdrop:=List.drop_eq_getElem_cons hkm
    have hprev:prevN rows (k+1)=some rows[k].1:=by unfold prevN;rw[if_neg (by omega),show k+1 - 1=k by omega,List.getElem?_eq_getElem hkm];rfl
    have htake:rows.take (k+1)=rows.take k++[rows[k]]:=by rw[List.take_add_one,List.getElem?_eq_getElem hkm];rfl
    have hzl:=HLN.out _ (List.getElem_mem hkm)
    have hpv:k≠0→∀z∈rows.take k,∃y,prevN rows k=some y∧(runes z.1=runes y∨lessR (runes z.1) (runes y)=true):=fun h0 z hz=>by
     obtain⟨j,rfl⟩:∃j,k=j+1:=⟨k - 1,by omega⟩
     have hjr:j<rows.length:=by omega
     have e1:rows.take (j+1)=rows.take j++[rows[j]]:=by rw[List.take_add_one,List.getElem?_eq_getElem hjr];rfl
     have hpw:=HP.out.2
     rw[e1] at hz hpw
     refine⟨rows[j].1,by unfold prevN;rw[if_neg (by omega),show j+1 - 1=j by omega,List.getElem?_eq_getElem hjr];rfl,?_⟩
     rcases List.mem_append.1 hz with hm|hm
     · exact .inr ((List.pairwise_append.1 hpw).2.2 z hm _ (by simp))
     · rw[List.mem_singleton.1 hm];exact .inl rfl
    have HPV:=hid hpv
    obtain⟨z,hz2⟩:∃z,rows[k]=z:=⟨_,rfl⟩
    rw[hz2] at r0 r1 hdrop hprev htake hzl
    have ht:=HTK.out
    rw[hdrop] at ht
    obtain⟨z1,z2⟩:=z
    have HT2:=hid ht
    have HPRV:=hid hprev
    have HTAK:=hid htake
    have HZL:Hid (z1.length≤100000):=hid hzl
    have HB:=hid (heap_alloc_new wr (.cells #[vN z1,vU z2] 123 (0,0)))
    have HD2:=hid (HD.out.ext (Ext.alloc wr (.cells #[vN z1,vU z2] 123 (0,0))))
    have HF2:=hid (HF.out.trans (Ext.fr (S:=[p,mp,ms]) (Ext.alloc wr (.cells #[vN z1,vU z2] 123 (0,0)))))
    have HPR2:Hid (∀j,k=j+1→∃y,prevN rows k=some y∧y.length≤100000∧(wr.alloc (.cells #[vN z1,vU z2] 123 (0,0))).cell? (a.add (j*2))=some (vN y)):=hid (fun j hj=>by
     obtain⟨y,h1,h2,h3⟩:=HPR.out j hj
     exact⟨y,h1,h2,(Ext.alloc _ _).cell h3⟩)
    have HT3:Hid (TB (wr.alloc (.cells #[vN z1,vU z2] 123 (0,0)))):=hid (TBx (HT.out.fr HF.out (by have:=HLO.out;simp;omega)) (Ext.alloc _ _))
    have HKM:=hid hkm
    clear hc g0 g1 hdrop hz2 ht HTK HD HF hprev htake hzl HPR hpv
    go_wp2_with fail
    clear r0 r1
    obtain⟨rb,hrb⟩:∃b,wr.heap.size=b:=⟨_,rfl⟩
    try rw[hrb] at HB
    try rw[hrb]
    clear hrb
    generalize wr.alloc (.cells #[vN z1,vU z2] 123 (0,0))=W5 at*
    obtain⟨b1,hb1⟩:∃b,rightL z1=b:=⟨_,rfl⟩
    obtain⟨F,hF⟩:∃F,foldL z1=F:=⟨_,rfl⟩
    obtain⟨b2,hb2⟩:∃b,decide (F=z1)=b:=⟨_,rfl⟩
    obtain⟨b3,hb3⟩:∃b,decide (s.last<z2)=b:=⟨_,rfl⟩
    obtain⟨b4,hb4⟩:∃b,lessO (prevN rows k) z1=b:=⟨_,rfl⟩
    have HT4:Hid ((if(!b1)||((!b2)||(b3|| !b4)) then none else takeC (some z1) (rows.drop (k+1)) {s with seen:=rows.take k++[(z1,z2)]})=O):=hid (by have:=HT2.out;rw[takeC] at this;dsimp only at this;rw[hb1,hF,hb2,hb3,hb4] at this;exact this)
    have HB1:=hid hb1
    have HFF:=hid hF
    have HB4:=hid hb4
    have hb2':(F==z1)=b2:=by rw[←hb2];by_cases e:F=z1<;>simp[e]
    have hb3':decide (s.last.toNat<z2.toNat)=b3:=by rw[←hb3];simp only[u64_lt]
    clear hb1 hF hb2 hb3 hb4 HT2
    cases b1
    case false=>
     refine Par.wp_region_par (l:=[_,_,_,_,_,_,_,_,_,_,_,_,_,_,_,_,_,_,_,_,_]) rfl Ext (Par.VL [Par.EQ (Value.pointer (some ⟨rb,0,none⟩)),Par.EQ (vN z1),Par.EQ (Value.bool false),Par.EQ (Value.bool true),Par.EQ (Value.bool true),Par.EQ (undef),Par.EQ (undef),Par.EQ (undef),Par.EQ (undef),Par.EQ (undef),Par.EQ (undef),Par.EQ (Value.bool true),Par.EQ (Value.bool true),Par.EQ (undef),Par.EQ (undef),Par.EQ (undef),Par.EQ (undef),Par.EQ (undef),Par.EQ (undef),Par.EQ (undef),Par.EQ (Value.bool true)]) (by kernel_rfl) Ext.refl (fun _ _ _ h1 h2=>Ext.trans h1 h2) (Ext.draw _) (Par.VL_stab ?_) ?_ ?_
     · simp only[List.forall_mem_cons,List.not_mem_nil,false_implies,implies_true,and_true]
       refine⟨fun _ _ _ _ h=>h,fun _ _ _ _ h=>h,fun _ _ _ _ h=>h,fun _ _ _ _ h=>h,fun _ _ _ _ h=>h,fun _ _ _ _ h=>h,fun _ _ _ _ h=>h,fun _ _ _ _ h=>h,fun _ _ _ _ h=>h,fun _ _ _ _ h=>h,fun _ _ _ _ h=>h,fun _ _ _ _ h=>h,fun _ _ _ _ h=>h,fun _ _ _ _ h=>h,fun _ _ _ _ h=>h,fun _ _ _ _ h=>h,fun _ _ _ _ h=>h,fun _ _ _ _ h=>h,fun _ _ _ _ h=>h,fun _ _ _ _ h=>h,fun _ _ _ _ h=>h⟩
     · refine⟨⟨fun _ _=>trivial,fun _ _ _ _ hk=>Par.pv [(6,pv rb)] hk (by kernel_rfl) ⟨Ext.refl _,rfl⟩⟩,?_⟩
       refine⟨⟨fun _ _=>trivial,fun ρ w' hX hG hk=> ?_⟩,?_⟩
       · obtain⟨(e0:ρ (.tmp 17)=Value.pointer (some ⟨rb,0,none⟩)),-⟩:=hk;refine Par.val_k fun K hK=> ?_;unfold Par.val
         (have cc:=(lk2 (hX.obj HB.out)).1;go_simp;exact hK _ _ ⟨Ext.refl _,rfl⟩)
       refine⟨⟨fun _ _=>trivial,fun ρ w' hX hG hk=> ?_⟩,?_⟩
       · obtain⟨e0,(e1:ρ (.tmp 18)=vN z1),-⟩:=hk;refine Par.val_k fun K hK=> ?_;unfold Par.val
         refine Par.val_call Tryz.func139 (by kernel_rfl) rfl e0 ?_
         simp only[List.map_toArray,List.map_cons,List.map_nil,e1]
         refine(right_any z1 _ (by have:=HZL.out;omega)).mono ?_
         rintro e w2 ⟨rfl,hE⟩
         exact⟨_,rfl,hK _ _ ⟨hE,(congrArg Value.bool HB1.out)⟩⟩
       refine⟨⟨fun _ _=>trivial,fun _ _ _ _ hk=>Par.pv [(19,Value.bool false)] hk (by kernel_rfl) ⟨Ext.refl _,rfl⟩⟩,?_⟩
       refine⟨⟨fun _ _=>trivial,fun ρ w' hX hG hk=> ?_⟩,?_⟩
       · exact Par.val_of_run rfl ⟨Ext.refl _,hk.1⟩
       refine⟨⟨fun _ _ u hu=> .inr rfl,fun ρ w' hX hG hk=> ?_⟩,?_⟩
       · cases hG
       refine⟨⟨fun _ _ u hu=> .inr rfl,fun ρ w' hX hG hk=> ?_⟩,?_⟩
       · cases hG
       refine⟨⟨fun _ _ u hu=> .inr rfl,fun ρ w' hX hG hk=> ?_⟩,?_⟩
       · cases hG
       refine⟨⟨fun _ _ u hu=> .inr rfl,fun ρ w' hX hG hk=> ?_⟩,?_⟩
       · cases hG
       refine⟨⟨fun _ _ u hu=> .inr rfl,fun ρ w' hX hG hk=> ?_⟩,?_⟩
       · cases hG
       refine⟨⟨fun _ _ u hu=> .inr rfl,fun ρ w' hX hG hk=> ?_⟩,?_⟩
       · cases hG
       refine⟨⟨fun _ _=>trivial,fun _ _ _ _ hk=>Par.pv [(21,Value.bool true),(27,undef)] hk (by kernel_rfl) ⟨Ext.refl _,rfl⟩⟩,?_⟩
       refine⟨⟨fun _ _=>trivial,fun ρ w' hX hG hk=> ?_⟩,?_⟩
       · exact Par.val_of_run rfl ⟨Ext.refl _,hk.1⟩
       refine⟨⟨fun _ _ u hu=> .inr rfl,fun ρ w' hX hG hk=> ?_⟩,?_⟩
       · cases hG
       refine⟨⟨fun _ _ u hu=> .inr rfl,fun ρ w' hX hG hk=> ?_⟩,?_⟩
       · cases hG
       refine⟨⟨fun _ _ u hu=> .inr rfl,fun ρ w' hX hG hk=> ?_⟩,?_⟩
       · cases hG
       refine⟨⟨fun _ _ u hu=> .inr rfl,fun ρ w' hX hG hk=> ?_⟩,?_⟩
       · cases hG
       refine⟨⟨fun _ _ u hu=> .inr rfl,fun ρ w' hX hG hk=> ?_⟩,?_⟩
       · cases hG
       refine⟨⟨fun _ _ u hu=> .inr rfl,fun ρ w' hX hG hk=> ?_⟩,?_⟩
       · cases hG
       refine⟨⟨fun _ _ u hu=> .inr rfl,fun ρ w' hX hG hk=> ?_⟩,?_⟩
       · cases hG
       refine⟨⟨fun _ _=>trivial,fun _ _ _ _ hk=>Par.pv [(29,Value.bool true),(36,undef)] hk (by kernel_rfl) ⟨Ext.refl _,rfl⟩⟩,?_⟩
       trivial
     intro a' w' inv
     have hX:=inv.ext
     have hq:=Par.donesI inv;simp only[Par.dones,Par.EQ,true_and,and_true] at hq
     clear inv
     simp only[List.filterMap_cons,List.filterMap_nil,Par.putAll,Act.put,List.setIfInBounds_toArray,List.set_cons_succ,List.set_cons_zero,hq]
     clear hq
     clear a'
     have HF3:=hid (HF2.out.trans (Ext.fr (S:=[p,mp,ms]) hX))
     clear hX
     go_wp2
     go_returns
     rw[←HT4.out]
     exact⟨HF3.out,by simp⟩
    cases b2
    case false=>
     refine Par.wp_region_par (l:=[_,_,_,_,_,_,_,_,_,_,_,_,_,_,_,_,_,_,_,_,_]) rfl Ext (Par.VL [Par.EQ (Value.pointer (some ⟨rb,0,none⟩)),Par.EQ (vN z1),Par.EQ (Value.bool true),Par.EQ (Value.bool false),Par.EQ (Value.bool false),Par.EQ (Value.pointer (some ⟨rb,0,none⟩)),Par.EQ (vN z1),Par.EQ (vN F),Par.EQ (Value.pointer (some ⟨rb,0,none⟩)),Par.EQ (vN z1),Par.EQ (Value.bool true),Par.EQ (Value.bool true),Par.EQ (Value.bool true),Par.EQ (undef),Par.EQ (undef),Par.EQ (undef),Par.EQ (undef),Par.EQ (undef),Par.EQ (undef),Par.EQ (undef),Par.EQ (Value.bool true)]) (by kernel_rfl) Ext.refl (fun _ _ _ h1 h2=>Ext.trans h1 h2) (Ext.draw _) (Par.VL_stab ?_) ?_ ?_
     · simp only[List.forall_mem_cons,List.not_mem_nil,false_implies,implies_true,and_true]
       refine⟨fun _ _ _ _ h=>h,fun _ _ _ _ h=>h,fun _ _ _ _ h=>h,fun _ _ _ _ h=>h,fun _ _ _ _ h=>h,fun _ _ _ _ h=>h,fun _ _ _ _ h=>h,fun _ _ _ _ h=>h,fun _ _ _ _ h=>h,fun _ _ _ _ h=>h,fun _ _ _ _ h=>h,fun _ _ _ _ h=>h,fun _ _ _ _ h=>h,fun _ _ _ _ h=>h,fun _ _ _ _ h=>h,fun _ _ _ _ h=>h,fun _ _ _ _ h=>h,fun _ _ _ _ h=>h,fun _ _ _ _ h=>h,fun _ _ _ _ h=>h,fun _ _ _ _ h=>h⟩
     · refine⟨⟨fun _ _=>trivial,fun _ _ _ _ hk=>Par.pv [(6,pv rb)] hk (by kernel_rfl) ⟨Ext.refl _,rfl⟩⟩,?_⟩
       refine⟨⟨fun _ _=>trivial,fun ρ w' hX hG hk=> ?_⟩,?_⟩
       · obtain⟨(e0:ρ (.tmp 17)=Value.pointer (some ⟨rb,0,none⟩)),-⟩:=hk;refine Par.val_k fun K hK=> ?_;unfold Par.val
         (have cc:=(lk2 (hX.obj HB.out)).1;go_simp;exact hK _ _ ⟨Ext.refl _,rfl⟩)
       refine⟨⟨fun _ _=>trivial,fun ρ w' hX hG hk=> ?_⟩,?_⟩
       · obtain⟨e0,(e1:ρ (.tmp 18)=vN z1),-⟩:=hk;refine Par.val_k fun K hK=> ?_;unfold Par.val
         refine Par.val_call Tryz.func139 (by kernel_rfl) rfl e0 ?_
         simp only[List.map_toArray,List.map_cons,List.map_nil,e1]
         refine(right_any z1 _ (by have:=HZL.out;omega)).mono ?_
         rintro e w2 ⟨rfl,hE⟩
         exact⟨_,rfl,hK _ _ ⟨hE,(congrArg Value.bool HB1.out)⟩⟩
       refine⟨⟨fun _ _=>trivial,fun _ _ _ _ hk=>Par.pv [(19,Value.bool true)] hk (by kernel_rfl) ⟨Ext.refl _,rfl⟩⟩,?_⟩
       refine⟨⟨fun _ _=>trivial,fun ρ w' hX hG hk=> ?_⟩,?_⟩
       · exact Par.val_of_run rfl ⟨Ext.refl _,hk.1⟩
       refine⟨⟨fun _ _ u hu=> .inl hu,fun _ _ _ _ hk=>Par.pv [(6,pv rb)] hk (by kernel_rfl) ⟨Ext.refl _,rfl⟩⟩,?_⟩
       refine⟨⟨fun _ _ u hu=> .inl hu,fun ρ w' hX hG hk=> ?_⟩,?_⟩
       · obtain⟨(e0:ρ (.tmp 22)=Value.pointer (some ⟨rb,0,none⟩)),-⟩:=hk;refine Par.val_k fun K hK=> ?_;unfold Par.val
         (have cc:=(lk2 (hX.obj HB.out)).1;go_simp;exact hK _ _ ⟨Ext.refl _,rfl⟩)
       refine⟨⟨fun _ _ u hu=> .inl hu,fun ρ w' hX hG hk=> ?_⟩,?_⟩
       · obtain⟨e0,(e1:ρ (.tmp 23)=vN z1),-⟩:=hk;refine Par.val_k fun K hK=> ?_;unfold Par.val
         refine Par.val_call Tryz.func138 (by kernel_rfl) rfl e0 ?_
         simp only[List.map_toArray,List.map_cons,List.map_nil,e1]
         refine(fold_any z1 _ (by have:=HZL.out;omega) (TBx HT3.out hX)).mono ?_
         rintro e w2 ⟨rfl,hE⟩
         exact⟨_,rfl,hK _ _ ⟨hE,(congrArg (fun x=>Value.string (str x)) HFF.out)⟩⟩
       refine⟨⟨fun _ _ u hu=> .inl hu,fun _ _ _ _ hk=>Par.pv [(6,pv rb)] hk (by kernel_rfl) ⟨Ext.refl _,rfl⟩⟩,?_⟩
       refine⟨⟨fun _ _ u hu=> .inl hu,fun ρ w' hX hG hk=> ?_⟩,?_⟩
       · obtain⟨(e0:ρ (.tmp 25)=Value.pointer (some ⟨rb,0,none⟩)),-⟩:=hk;refine Par.val_k fun K hK=> ?_;unfold Par.val
         (have cc:=(lk2 (hX.obj HB.out)).1;go_simp;exact hK _ _ ⟨Ext.refl _,rfl⟩)
       refine⟨⟨fun _ _ u hu=> .inl hu,fun ρ w' hX hG hk=> ?_⟩,?_⟩
       · obtain⟨(e0:ρ (.tmp 24)=vN F),(e1:ρ (.tmp 26)=vN z1),-⟩:=hk;refine Par.val_k fun K hK=> ?_;unfold Par.val
         (go_simp;exact hK _ _ ⟨Ext.refl _,rfl⟩)
       refine⟨⟨fun _ _=>trivial,fun _ _ _ _ hk=>Par.pv [(21,Value.bool false),(27,Value.bool true)] hk (by kernel_rfl) ⟨Ext.refl _,rfl⟩⟩,?_⟩
       refine⟨⟨fun _ _=>trivial,fun ρ w' hX hG hk=> ?_⟩,?_⟩
       · exact Par.val_of_run rfl ⟨Ext.refl _,hk.1⟩
       refine⟨⟨fun _ _ u hu=> .inr rfl,fun ρ w' hX hG hk=> ?_⟩,?_⟩
       · cases hG
       refine⟨⟨fun _ _ u hu=> .inr rfl,fun ρ w' hX hG hk=> ?_⟩,?_⟩
       · cases hG
       refine⟨⟨fun _ _ u hu=> .inr rfl,fun ρ w' hX hG hk=> ?_⟩,?_⟩
       · cases hG
       refine⟨⟨fun _ _ u hu=> .inr rfl,fun ρ w' hX hG hk=> ?_⟩,?_⟩
       · cases hG
       refine⟨⟨fun _ _ u hu=> .inr rfl,fun ρ w' hX hG hk=> ?_⟩,?_⟩
       · cases hG
       refine⟨⟨fun _ _ u hu=> .inr rfl,fun ρ w' hX hG hk=> ?_⟩,?_⟩
       · cases hG
       refine⟨⟨fun _ _ u hu=> .inr rfl,fun ρ w' hX hG hk=> ?_⟩,?_⟩
       · cases hG
       refine⟨⟨fun _ _=>trivial,fun _ _ _ _ hk=>Par.pv [(29,Value.bool true),(36,undef)] hk (by kernel_rfl) ⟨Ext.refl _,rfl⟩⟩,?_⟩
       trivial
     intro a' w' inv
     have hX:=inv.ext
     have hq:=Par.donesI inv;simp only[Par.dones,Par.EQ,true_and,and_true] at hq
     clear inv
     simp only[List.filterMap_cons,List.filterMap_nil,Par.putAll,Act.put,List.setIfInBounds_toArray,List.set_cons_succ,List.set_cons_zero,hq]
     clear hq
     clear a'
     have HF3:=hid (HF2.out.trans (Ext.fr (S:=[p,mp,ms]) hX))
     clear hX
     go_wp2
     go_returns
     rw[←HT4.out]
     exact⟨HF3.out,by simp⟩
    cases b3
    case true=>
     refine Par.wp_region_par (l:=[_,_,_,_,_,_,_,_,_,_,_,_,_,_,_,_,_,_,_,_,_]) rfl Ext (Par.VL [Par.EQ (Value.pointer (some ⟨rb,0,none⟩)),Par.EQ (vN z1),Par.EQ (Value.bool true),Par.EQ (Value.bool false),Par.EQ (Value.bool false),Par.EQ (Value.pointer (some ⟨rb,0,none⟩)),Par.EQ (vN z1),Par.EQ (vN F),Par.EQ (Value.pointer (some ⟨rb,0,none⟩)),Par.EQ (vN z1),Par.EQ (Value.bool false),Par.EQ (Value.bool false),Par.EQ (Value.bool false),Par.EQ (Value.pointer (some ⟨rb,1,none⟩)),Par.EQ (vU z2),Par.EQ (pv p),Par.EQ (pv p),Par.EQ (Value.pointer (some ⟨p,0,none⟩)),Par.EQ (vU s.last),Par.EQ (Value.bool true),Par.EQ (Value.bool true)]) (by kernel_rfl) Ext.refl (fun _ _ _ h1 h2=>Ext.trans h1 h2) (Ext.draw _) (Par.VL_stab ?_) ?_ ?_
     · simp only[List.forall_mem_cons,List.not_mem_nil,false_implies,implies_true,and_true]
       refine⟨fun _ _ _ _ h=>h,fun _ _ _ _ h=>h,fun _ _ _ _ h=>h,fun _ _ _ _ h=>h,fun _ _ _ _ h=>h,fun _ _ _ _ h=>h,fun _ _ _ _ h=>h,fun _ _ _ _ h=>h,fun _ _ _ _ h=>h,fun _ _ _ _ h=>h,fun _ _ _ _ h=>h,fun _ _ _ _ h=>h,fun _ _ _ _ h=>h,fun _ _ _ _ h=>h,fun _ _ _ _ h=>h,fun _ _ _ _ h=>h,fun _ _ _ _ h=>h,fun _ _ _ _ h=>h,fun _ _ _ _ h=>h,fun _ _ _ _ h=>h,fun _ _ _ _ h=>h⟩
     · refine⟨⟨fun _ _=>trivial,fun _ _ _ _ hk=>Par.pv [(6,pv rb)] hk (by kernel_rfl) ⟨Ext.refl _,rfl⟩⟩,?_⟩
       refine⟨⟨fun _ _=>trivial,fun ρ w' hX hG hk=> ?_⟩,?_⟩
       · obtain⟨(e0:ρ (.tmp 17)=Value.pointer (some ⟨rb,0,none⟩)),-⟩:=hk;refine Par.val_k fun K hK=> ?_;unfold Par.val
         (have cc:=(lk2 (hX.obj HB.out)).1;go_simp;exact hK _ _ ⟨Ext.refl _,rfl⟩)
       refine⟨⟨fun _ _=>trivial,fun ρ w' hX hG hk=> ?_⟩,?_⟩
       · obtain⟨e0,(e1:ρ (.tmp 18)=vN z1),-⟩:=hk;refine Par.val_k fun K hK=> ?_;unfold Par.val
         refine Par.val_call Tryz.func139 (by kernel_rfl) rfl e0 ?_
         simp only[List.map_toArray,List.map_cons,List.map_nil,e1]
         refine(right_any z1 _ (by have:=HZL.out;omega)).mono ?_
         rintro e w2 ⟨rfl,hE⟩
         exact⟨_,rfl,hK _ _ ⟨hE,(congrArg Value.bool HB1.out)⟩⟩
       refine⟨⟨fun _ _=>trivial,fun _ _ _ _ hk=>Par.pv [(19,Value.bool true)] hk (by kernel_rfl) ⟨Ext.refl _,rfl⟩⟩,?_⟩
       refine⟨⟨fun _ _=>trivial,fun ρ w' hX hG hk=> ?_⟩,?_⟩
       · exact Par.val_of_run rfl ⟨Ext.refl _,hk.1⟩
       refine⟨⟨fun _ _ u hu=> .inl hu,fun _ _ _ _ hk=>Par.pv [(6,pv rb)] hk (by kernel_rfl) ⟨Ext.refl _,rfl⟩⟩,?_⟩
       refine⟨⟨fun _ _ u hu=> .inl hu,fun ρ w' hX hG hk=> ?_⟩,?_⟩
       · obtain⟨(e0:ρ (.tmp 22)=Value.pointer (some ⟨rb,0,none⟩)),-⟩:=hk;refine Par.val_k fun K hK=> ?_;unfold Par.val
         (have cc:=(lk2 (hX.obj HB.out)).1;go_simp;exact hK _ _ ⟨Ext.refl _,rfl⟩)
       refine⟨⟨fun _ _ u hu=> .inl hu,fun ρ w' hX hG hk=> ?_⟩,?_⟩
       · obtain⟨e0,(e1:ρ (.tmp 23)=vN z1),-⟩:=hk;refine Par.val_k fun K hK=> ?_;unfold Par.val
         refine Par.val_call Tryz.func138 (by kernel_rfl) rfl e0 ?_
         simp only[List.map_toArray,List.map_cons,List.map_nil,e1]
         refine(fold_any z1 _ (by have:=HZL.out;omega) (TBx HT3.out hX)).mono ?_
         rintro e w2 ⟨rfl,hE⟩
         exact⟨_,rfl,hK _ _ ⟨hE,(congrArg (fun x=>Value.string (str x)) HFF.out)⟩⟩
       refine⟨⟨fun _ _ u hu=> .inl hu,fun _ _ _ _ hk=>Par.pv [(6,pv rb)] hk (by kernel_rfl) ⟨Ext.refl _,rfl⟩⟩,?_⟩
       refine⟨⟨fun _ _ u hu=> .inl hu,fun ρ w' hX hG hk=> ?_⟩,?_⟩
       · obtain⟨(e0:ρ (.tmp 25)=Value.pointer (some ⟨rb,0,none⟩)),-⟩:=hk;refine Par.val_k fun K hK=> ?_;unfold Par.val
         (have cc:=(lk2 (hX.obj HB.out)).1;go_simp;exact hK _ _ ⟨Ext.refl _,rfl⟩)
       refine⟨⟨fun _ _ u hu=> .inl hu,fun ρ w' hX hG hk=> ?_⟩,?_⟩
       · obtain⟨(e0:ρ (.tmp 24)=vN F),(e1:ρ (.tmp 26)=vN z1),-⟩:=hk;refine Par.val_k fun K hK=> ?_;unfold Par.val
         (go_simp;exact hK _ _ ⟨Ext.refl _,rfl⟩)
       refine⟨⟨fun _ _=>trivial,fun _ _ _ _ hk=>Par.pv [(21,Value.bool false),(27,Value.bool false)] hk (by kernel_rfl) ⟨Ext.refl _,rfl⟩⟩,?_⟩
       refine⟨⟨fun _ _=>trivial,fun ρ w' hX hG hk=> ?_⟩,?_⟩
       · exact Par.val_of_run rfl ⟨Ext.refl _,hk.1⟩
       refine⟨⟨fun _ _ u hu=> .inl hu,fun _ _ _ _ hk=>Par.pv [(6,pv rb)] hk (by kernel_rfl) ⟨Ext.refl _,rfl⟩⟩,?_⟩
       refine⟨⟨fun _ _ u hu=> .inl hu,fun ρ w' hX hG hk=> ?_⟩,?_⟩
       · obtain⟨(e0:ρ (.tmp 30)=Value.pointer (some ⟨rb,1,none⟩)),-⟩:=hk;refine Par.val_k fun K hK=> ?_;unfold Par.val
         (have cc:=(lk2 (hX.obj HB.out)).2.1;go_simp;exact hK _ _ ⟨Ext.refl _,rfl⟩)
       refine⟨⟨fun _ _ u hu=> .inl hu,fun ρ w' hX hG hk=> ?_⟩,?_⟩
       · exact Par.val_of_run rfl ⟨Ext.refl _,hk.1⟩
       refine⟨⟨fun _ _ u hu=> .inl hu,fun ρ w' hX hG hk=> ?_⟩,?_⟩
       · obtain⟨(e0:ρ (.tmp 32)=pv p),-⟩:=hk;refine Par.val_k fun K hK=> ?_;unfold Par.val
         (go_simp;exact hK _ _ ⟨Ext.refl _,rfl⟩)
       refine⟨⟨fun _ _ u hu=> .inl hu,fun _ _ _ _ hk=>Par.pv [(33,pv p)] hk (by kernel_rfl) ⟨Ext.refl _,rfl⟩⟩,?_⟩
       refine⟨⟨fun _ _ u hu=> .inl hu,fun ρ w' hX hG hk=> ?_⟩,?_⟩
       · obtain⟨(e0:ρ (.tmp 34)=Value.pointer (some ⟨p,0,none⟩)),-⟩:=hk;refine Par.val_k fun K hK=> ?_;unfold Par.val
         (have cc:=(lk3D (HD2.out.ext hX).hd).1;go_simp;exact hK _ _ ⟨Ext.refl _,rfl⟩)
       refine⟨⟨fun _ _ u hu=> .inl hu,fun ρ w' hX hG hk=> ?_⟩,?_⟩
       · obtain⟨(e0:ρ (.tmp 31)=vU z2),(e1:ρ (.tmp 35)=vU s.last),-⟩:=hk;refine Par.val_k fun K hK=> ?_;unfold Par.val
         (go_simp;exact hK _ _ ⟨Ext.refl _,rfl⟩)
       refine⟨⟨fun _ _=>trivial,fun _ _ _ _ hk=>Par.pv [(29,Value.bool false),(36,Value.bool true)] hk (by kernel_rfl) ⟨Ext.refl _,rfl⟩⟩,?_⟩
       trivial
     intro a' w' inv
     have hX:=inv.ext
     have hq:=Par.donesI inv;simp only[Par.dones,Par.EQ,true_and,and_true] at hq
     clear inv
     simp only[List.filterMap_cons,List.filterMap_nil,Par.putAll,Act.put,List.setIfInBounds_toArray,List.set_cons_succ,List.set_cons_zero,hq]
     clear hq
     clear a'
     have HF3:=hid (HF2.out.trans (Ext.fr (S:=[p,mp,ms]) hX))
     clear hX
     go_wp2
     go_returns
     rw[←HT4.out]
     exact⟨HF3.out,by simp⟩
    refine Par.wp_region_par (l:=[_,_,_,_,_,_,_,_,_,_,_,_,_,_,_,_,_,_,_,_,_]) rfl Ext (Par.VL [Par.EQ (Value.pointer (some ⟨rb,0,none⟩)),Par.EQ (vN z1),Par.EQ (Value.bool true),Par.EQ (Value.bool false),Par.EQ (Value.bool false),Par.EQ (Value.pointer (some ⟨rb,0,none⟩)),Par.EQ (vN z1),Par.EQ (vN F),Par.EQ (Value.pointer (some ⟨rb,0,none⟩)),Par.EQ (vN z1),Par.EQ (Value.bool false),Par.EQ (Value.bool false),Par.EQ (Value.bool false),Par.EQ (Value.pointer (some ⟨rb,1,none⟩)),Par.EQ (vU z2),Par.EQ (pv p),Par.EQ (pv p),Par.EQ (Value.pointer (some ⟨p,0,none⟩)),Par.EQ (vU s.last),Par.EQ (Value.bool false),Par.EQ (Value.bool false)]) (by kernel_rfl) Ext.refl (fun _ _ _ h1 h2=>Ext.trans h1 h2) (Ext.draw _) (Par.VL_stab ?_) ?_ ?_
    · simp only[List.forall_mem_cons,List.not_mem_nil,false_implies,implies_true,and_true]
      refine⟨fun _ _ _ _ h=>h,fun _ _ _ _ h=>h,fun _ _ _ _ h=>h,fun _ _ _ _ h=>h,fun _ _ _ _ h=>h,fun _ _ _ _ h=>h,fun _ _ _ _ h=>h,fun _ _ _ _ h=>h,fun _ _ _ _ h=>h,fun _ _ _ _ h=>h,fun _ _ _ _ h=>h,fun _ _ _ _ h=>h,fun _ _ _ _ h=>h,fun _ _ _ _ h=>h,fun _ _ _ _ h=>h,fun _ _ _ _ h=>h,fun _ _ _ _ h=>h,fun _ _ _ _ h=>h,fun _ _ _ _ h=>h,fun _ _ _ _ h=>h,fun _ _ _ _ h=>h⟩
    · refine⟨⟨fun _ _=>trivial,fun _ _ _ _ hk=>Par.pv [(6,pv rb)] hk (by kernel_rfl) ⟨Ext.refl _,rfl⟩⟩,?_⟩
      refine⟨⟨fun _ _=>trivial,fun ρ w' hX hG hk=> ?_⟩,?_⟩
      · obtain⟨(e0:ρ (.tmp 17)=Value.pointer (some ⟨rb,0,none⟩)),-⟩:=hk;refine Par.val_k fun K hK=> ?_;unfold Par.val
        (have cc:=(lk2 (hX.obj HB.out)).1;go_simp;exact hK _ _ ⟨Ext.refl _,rfl⟩)
      refine⟨⟨fun _ _=>trivial,fun ρ w' hX hG hk=> ?_⟩,?_⟩
      · obtain⟨e0,(e1:ρ (.tmp 18)=vN z1),-⟩:=hk;refine Par.val_k fun K hK=> ?_;unfold Par.val
        refine Par.val_call Tryz.func139 (by kernel_rfl) rfl e0 ?_
        simp only[List.map_toArray,List.map_cons,List.map_nil,e1]
        refine(right_any z1 _ (by have:=HZL.out;omega)).mono ?_
        rintro e w2 ⟨rfl,hE⟩
        exact⟨_,rfl,hK _ _ ⟨hE,(congrArg Value.bool HB1.out)⟩⟩
      refine⟨⟨fun _ _=>trivial,fun _ _ _ _ hk=>Par.pv [(19,Value.bool true)] hk (by kernel_rfl) ⟨Ext.refl _,rfl⟩⟩,?_⟩
      refine⟨⟨fun _ _=>trivial,fun ρ w' hX hG hk=> ?_⟩,?_⟩
      · exact Par.val_of_run rfl ⟨Ext.refl _,hk.1⟩
      refine⟨⟨fun _ _ u hu=> .inl hu,fun _ _ _ _ hk=>Par.pv [(6,pv rb)] hk (by kernel_rfl) ⟨Ext.refl _,rfl⟩⟩,?_⟩
      refine⟨⟨fun _ _ u hu=> .inl hu,fun ρ w' hX hG hk=> ?_⟩,?_⟩
      · obtain⟨(e0:ρ (.tmp 22)=Value.pointer (some ⟨rb,0,none⟩)),-⟩:=hk;refine Par.val_k fun K hK=> ?_;unfold Par.val
        (have cc:=(lk2 (hX.obj HB.out)).1;go_simp;exact hK _ _ ⟨Ext.refl _,rfl⟩)
      refine⟨⟨fun _ _ u hu=> .inl hu,fun ρ w' hX hG hk=> ?_⟩,?_⟩
      · obtain⟨e0,(e1:ρ (.tmp 23)=vN z1),-⟩:=hk;refine Par.val_k fun K hK=> ?_;unfold Par.val
        refine Par.val_call Tryz.func138 (by kernel_rfl) rfl e0 ?_
        simp only[List.map_toArray,List.map_cons,List.map_nil,e1]
        refine(fold_any z1 _ (by have:=HZL.out;omega) (TBx HT3.out hX)).mono ?_
        rintro e w2 ⟨rfl,hE⟩
        exact⟨_,rfl,hK _ _ ⟨hE,(congrArg (fun x=>Value.string (str x)) HFF.out)⟩⟩
      refine⟨⟨fun _ _ u hu=> .inl hu,fun _ _ _ _ hk=>Par.pv [(6,pv rb)] hk (by kernel_rfl) ⟨Ext.refl _,rfl⟩⟩,?_⟩
      refine⟨⟨fun _ _ u hu=> .inl hu,fun ρ w' hX hG hk=> ?_⟩,?_⟩
      · obtain⟨(e0:ρ (.tmp 25)=Value.pointer (some ⟨rb,0,none⟩)),-⟩:=hk;refine Par.val_k fun K hK=> ?_;unfold Par.val
        (have cc:=(lk2 (hX.obj HB.out)).1;go_simp;exact hK _ _ ⟨Ext.refl _,rfl⟩)
      refine⟨⟨fun _ _ u hu=> .inl hu,fun ρ w' hX hG hk=> ?_⟩,?_⟩
      · obtain⟨(e0:ρ (.tmp 24)=vN F),(e1:ρ (.tmp 26)=vN z1),-⟩:=hk;refine Par.val_k fun K hK=> ?_;unfold Par.val
        (go_simp;exact hK _ _ ⟨Ext.refl _,rfl⟩)
      refine⟨⟨fun _ _=>trivial,fun _ _ _ _ hk=>Par.pv [(21,Value.bool false),(27,Value.bool false)] hk (by kernel_rfl) ⟨Ext.refl _,rfl⟩⟩,?_⟩
      refine⟨⟨fun _ _=>trivial,fun ρ w' hX hG hk=> ?_⟩,?_⟩
      · exact Par.val_of_run rfl ⟨Ext.refl _,hk.1⟩
      refine⟨⟨fun _ _ u hu=> .inl hu,fun _ _ _ _ hk=>Par.pv [(6,pv rb)] hk (by kernel_rfl) ⟨Ext.refl _,rfl⟩⟩,?_⟩
      refine⟨⟨fun _ _ u hu=> .inl hu,fun ρ w' hX hG hk=> ?_⟩,?_⟩
      · obtain⟨(e0:ρ (.tmp 30)=Value.pointer (some ⟨rb,1,none⟩)),-⟩:=hk;refine Par.val_k fun K hK=> ?_;unfold Par.val
        (have cc:=(lk2 (hX.obj HB.out)).2.1;go_simp;exact hK _ _ ⟨Ext.refl _,rfl⟩)
      refine⟨⟨fun _ _ u hu=> .inl hu,fun ρ w' hX hG hk=> ?_⟩,?_⟩
      · exact Par.val_of_run rfl ⟨Ext.refl _,hk.1⟩
      refine⟨⟨fun _ _ u hu=> .inl hu,fun ρ w' hX hG hk=> ?_⟩,?_⟩
      · obtain⟨(e0:ρ (.tmp 32)=pv p),-⟩:=hk;refine Par.val_k fun K hK=> ?_;unfold Par.val
        (go_simp;exact hK _ _ ⟨Ext.refl _,rfl⟩)
      refine⟨⟨fun _ _ u hu=> .inl hu,fun _ _ _ _ hk=>Par.pv [(33,pv p)] hk (by kernel_rfl) ⟨Ext.refl _,rfl⟩⟩,?_⟩
      refine⟨⟨fun _ _ u hu=> .inl hu,fun ρ w' hX hG hk=> ?_⟩,?_⟩
      · obtain⟨(e0:ρ (.tmp 34)=Value.pointer (some ⟨p,0,none⟩)),-⟩:=hk;refine Par.val_k fun K hK=> ?_;unfold Par.val
        (have cc:=(lk3D (HD2.out.ext hX).hd).1;go_simp;exact hK _ _ ⟨Ext.refl _,rfl⟩)
      refine⟨⟨fun _ _ u hu=> .inl hu,fun ρ w' hX hG hk=> ?_⟩,?_⟩
      · obtain⟨(e0:ρ (.tmp 31)=vU z2),(e1:ρ (.tmp 35)=vU s.last),-⟩:=hk;refine Par.val_k fun K hK=> ?_;unfold Par.val
        (go_simp;exact hK _ _ ⟨Ext.refl _,rfl⟩)
      refine⟨⟨fun _ _=>trivial,fun _ _ _ _ hk=>Par.pv [(29,Value.bool false),(36,Value.bool false)] hk (by kernel_rfl) ⟨Ext.refl _,rfl⟩⟩,?_⟩
      trivial
    intro a' w' inv
    have hX:=inv.ext
    have hq:=Par.donesI inv;simp only[Par.dones,Par.EQ,true_and,and_true] at hq
    clear inv
    simp only[List.filterMap_cons,List.filterMap_nil,Par.putAll,Act.put,List.setIfInBounds_toArray,List.set_cons_succ,List.set_cons_zero,hq]
    clear hq
    clear a'
    have HF3:=hid (HF2.out.trans (Ext.fr (S:=[p,mp,ms]) hX))
    have HD3:=hid (HD2.out.ext hX)
    have HBX:=hid (hX.obj HB.out)
    have HT5:=hid (TBx HT3.out hX)
    have HPR3:Hid (∀j,k=j+1→∃y,prevN rows k=some y∧y.length≤100000∧w'.cell? (a.add (j*2))=some (vN y)):=hid (fun j hj=>by
     obtain⟨y,h1,h2,h3⟩:=HPR2.out j hj
     exact⟨y,h1,h2,hX.cell h3⟩)
    clear hX HF2 HD2 HB HT3 HPR2
    obtain⟨W6,rfl⟩:∃x,x=w':=⟨_,rfl⟩
    rcases Nat.eq_zero_or_pos k with rfl|hkp
    · have HLT:Hid (∀x∈rows.take 0,ltC x (z1,z2)=true):=hid (by simp)
      have HNO:Hid ((rows.take 0).lookup z1=none):=hid (lku_none.2 (fun hm=>by
       obtain⟨z,hz,e⟩:=List.mem_map.1 hm
       have:=HLT.out z hz
       unfold ltC at this
       rw[show z.1=z1 from e,lessR_irrefl] at this;cases this))
      have e4:b4=true:=by rw[←HB4.out];rfl
      subst e4
      go_wp2_with fail
      refine Par.wp_region_par (l:=[_,_,_,_,_,_,_,_,_,_,_,_,_,_]) rfl Ext (Par.VL [Par.EQ (Value.int IntKind.i64 0),Par.EQ (Value.bool false),Par.EQ (Value.bool false),Par.EQ (undef),Par.EQ (undef),Par.EQ (undef),Par.EQ (undef),Par.EQ (undef),Par.EQ (undef),Par.EQ (undef),Par.EQ (undef),Par.EQ (undef),Par.EQ (undef),Par.EQ (Value.bool false)]) (by kernel_rfl) Ext.refl (fun _ _ _ h1 h2=>Ext.trans h1 h2) (Ext.draw _) (Par.VL_stab ?_) ?_ ?_
      · simp only[List.forall_mem_cons,List.not_mem_nil,false_implies,implies_true,and_true]
        refine⟨fun _ _ _ _ h=>h,fun _ _ _ _ h=>h,fun _ _ _ _ h=>h,fun _ _ _ _ h=>h,fun _ _ _ _ h=>h,fun _ _ _ _ h=>h,fun _ _ _ _ h=>h,fun _ _ _ _ h=>h,fun _ _ _ _ h=>h,fun _ _ _ _ h=>h,fun _ _ _ _ h=>h,fun _ _ _ _ h=>h,fun _ _ _ _ h=>h,fun _ _ _ _ h=>h⟩
      · refine⟨⟨fun _ _=>trivial,fun ρ w' hX hG hk=> ?_⟩,?_⟩
        · exact Par.val_of_run rfl ⟨Ext.refl _,hk.1⟩
        refine⟨⟨fun _ _=>trivial,fun _ _ _ _ hk=>Par.pv [(38,Value.int IntKind.i64 0)] hk (by kernel_rfl) ⟨Ext.refl _,rfl⟩⟩,?_⟩
        refine⟨⟨fun _ _=>trivial,fun ρ w' hX hG hk=> ?_⟩,?_⟩
        · exact Par.val_of_run rfl ⟨Ext.refl _,hk.1⟩
        refine⟨⟨fun _ _ u hu=> .inr rfl,fun ρ w' hX hG hk=> ?_⟩,?_⟩
        · cases hG
        refine⟨⟨fun _ _ u hu=> .inr rfl,fun ρ w' hX hG hk=> ?_⟩,?_⟩
        · cases hG
        refine⟨⟨fun _ _ u hu=> .inr rfl,fun ρ w' hX hG hk=> ?_⟩,?_⟩
        · cases hG
        refine⟨⟨fun _ _ u hu=> .inr rfl,fun ρ w' hX hG hk=> ?_⟩,?_⟩
        · cases hG
        refine⟨⟨fun _ _ u hu=> .inr rfl,fun ρ w' hX hG hk=> ?_⟩,?_⟩
        · cases hG
        refine⟨⟨fun _ _ u hu=> .inr rfl,fun ρ w' hX hG hk=> ?_⟩,?_⟩
        · cases hG
        refine⟨⟨fun _ _ u hu=> .inr rfl,fun ρ w' hX hG hk=> ?_⟩,?_⟩
        · cases hG
        refine⟨⟨fun _ _ u hu=> .inr rfl,fun ρ w' hX hG hk=> ?_⟩,?_⟩
        · cases hG
        refine⟨⟨fun _ _ u hu=> .inr rfl,fun ρ w' hX hG hk=> ?_⟩,?_⟩
        · cases hG
        refine⟨⟨fun _ _ u hu=> .inr rfl,fun ρ w' hX hG hk=> ?_⟩,?_⟩
        · cases hG
        refine⟨⟨fun _ _=>trivial,fun _ _ _ _ hk=>Par.pv [(40,Value.bool false),(50,undef)] hk (by kernel_rfl) ⟨Ext.refl _,rfl⟩⟩,?_⟩
        trivial
      intro a' w' inv
      have hX:=inv.ext
      have hq:=Par.donesI inv;simp only[Par.dones,Par.EQ,true_and,and_true] at hq
      clear inv
      simp only[List.filterMap_cons,List.filterMap_nil,Par.putAll,Act.put,List.setIfInBounds_toArray,List.set_cons_succ,List.set_cons_zero,hq]
      clear hq
      clear a'
      have HF4:=hid (HF3.out.trans (Ext.fr (S:=[p,mp,ms]) hX))
      have HD4:=hid (HD3.out.ext hX)
      have HB6:=hid (hX.obj HBX.out)
      clear hX HF3 HD3 HBX
      obtain⟨W7,rfl⟩:∃x,x=w':=⟨_,rfl⟩
      have HT6:Hid (takeC (some z1) (rows.drop (0+1)) {s with seen:=rows.take 0++[(z1,z2)]}=O):=hid (by have:=HT4.out;simpa using this)
      have HRT:Hid (rightL z1=true):=hid HB1.out
      go_wp2_with fail
      refine ParE.wp_region_e (l:=[_,_,_,_,_,_,_,_,_]) rfl (Rg.Ch [8] [] (OneQ W7 fun w'=>DD w' p mp ms {s with seen:=rows.take 0++[(z1,z2)]}∧Fr [ms] W7 w')) (ParC.VC [ParC.EQ (pv p),ParC.EQ (pv p),ParC.EQ (Value.pointer (some ⟨p,2,none⟩)),ParC.EQ (Value.map (some ms)),ParC.EQ (Value.pointer (some ⟨rb,0,none⟩)),ParC.EQ (vN z1),ParC.EQ (Value.pointer (some ⟨rb,1,none⟩)),ParC.EQ (vU z2),fun _=>True]) (by kernel_rfl) (by kernel_rfl) (Rg.Ch.start ⟨fun _=>Ext.draw _,trivial⟩) ?_ ?_
      · refine⟨fun L ρ w' hR hC hL hd hk=> ?_,?_⟩
        · exact Par.val_of_run rfl ⟨hR.other (by decide),hk.1⟩
        refine⟨fun L ρ w' hR hC hL hd hk=> ?_,?_⟩
        · obtain⟨(e0:ρ (.tmp 52)=pv p),-⟩:=hk;refine Par.val_k fun K hK=> ?_;unfold Par.val
          (go_simp;exact hK _ _ ⟨hR.other (by decide),rfl⟩)
        refine⟨fun _ _ _ hR _ _ _ hk=>Par.pv [(53,pv p)] hk (by kernel_rfl) ⟨hR.other (by decide),rfl⟩,?_⟩
        refine⟨fun L ρ w' hR hC hL hd hk=> ?_,?_⟩
        · obtain⟨(e0:ρ (.tmp 54)=Value.pointer (some ⟨p,2,none⟩)),-⟩:=hk;refine Par.val_k fun K hK=> ?_;unfold Par.val
          (obtain⟨i,hi,hq⟩:=hR.some 0 rfl (hC.notyet 8 3 hL (by kernel_rfl));have cc:=(lk3D (HD4.out.ext (hq.1 (by omega))).hd).2.2.1;go_simp;exact hK _ _ ⟨hR.other (by decide),rfl⟩)
        refine⟨fun _ _ _ hR _ _ _ hk=>Par.pv [(6,pv rb)] hk (by kernel_rfl) ⟨hR.other (by decide),rfl⟩,?_⟩
        refine⟨fun L ρ w' hR hC hL hd hk=> ?_,?_⟩
        · obtain⟨(e0:ρ (.tmp 56)=Value.pointer (some ⟨rb,0,none⟩)),-⟩:=hk;refine Par.val_k fun K hK=> ?_;unfold Par.val
          (obtain⟨i,hi,hq⟩:=hR.some 0 rfl (hC.notyet 8 5 hL (by kernel_rfl));have cc:=(lk2 ((hq.1 (by omega)).obj HB6.out)).1;go_simp;exact hK _ _ ⟨hR.other (by decide),rfl⟩)
        refine⟨fun _ _ _ hR _ _ _ hk=>Par.pv [(6,pv rb)] hk (by kernel_rfl) ⟨hR.other (by decide),rfl⟩,?_⟩
        refine⟨fun L ρ w' hR hC hL hd hk=> ?_,?_⟩
        · obtain⟨(e0:ρ (.tmp 58)=Value.pointer (some ⟨rb,1,none⟩)),-⟩:=hk;refine Par.val_k fun K hK=> ?_;unfold Par.val
          (obtain⟨i,hi,hq⟩:=hR.some 0 rfl (hC.notyet 8 7 hL (by kernel_rfl));have cc:=(lk2 ((hq.1 (by omega)).obj HB6.out)).2.1;go_simp;exact hK _ _ ⟨hR.other (by decide),rfl⟩)
        refine⟨fun L ρ w' hR hC hL hd hk=> ?_,?_⟩
        · obtain⟨(e0:ρ (.tmp 55)=Value.map (some ms)),(e1:ρ (.tmp 57)=vN z1),(e2:ρ (.tmp 59)=vU z2),-⟩:=hk;refine Par.val_k fun K hK=> ?_;unfold Par.val
          (obtain⟨hq,hs⟩:=hR.go 0 rfl hL (.inl rfl) (by decide);have hx:=hq.1 (by decide);have hD:=HD4.out.ext hx;obtain⟨l,hl,pl⟩:=hD.sm;have hKM:=HKM.out;have hTL:(rows.take 0).length≤8:=(by rw[List.length_take];omega);obtain⟨w4,hrun,hl4,ht4⟩:=hl.store Tryz.underlying184 (by have:=pl.length_eq;dsimp only at this;omega) (perm_nodup pl hD.ns) z1 (by have:=HZL.out;simp[maxLen];omega) z2;have hno:(rows.take 0).lookup z1=none:=HNO.out;have hlk:l.lookup z1=none:=(perm_lookup pl hD.ns z1).trans hno;have hF3:=fr_turned (S:=[ms]) ht4 (by simp);have hres:Hid (DD w4 p mp ms {s with seen:=rows.take 0++[(z1,z2)]}∧Fr [ms] W7 w4):=hid ⟨⟨(hF3.block p hD.lt.1 (by simpa using hD.ps)).trans hD.hd,(by obtain⟨k7,hk2,pk⟩:=hD.rm;exact⟨k7,hk2.fr hF3 (by simpa using hD.ne),pk⟩),⟨_,hl4,by rw[noK_none hlk];exact(List.Perm.cons _ pl).trans (List.perm_append_singleton _ _).symm⟩,hD.ne,hD.nr,by(have h7:=hD.ns;simp only[List.map_append,List.map_cons,List.map_nil];refine List.nodup_append.2 ⟨h7,by simp,fun a ha b hb=> ?_⟩;simp at hb;subst hb;intro e;exact lku_none.1 hno (e▸ha)),hD.lr,by(simp only[List.length_append,List.length_cons,List.length_nil];omega)⟩,(Ext.fr hx).trans hF3⟩;clear hl4 ht4 hF3 pl hlk hl hD hno hTL hKM;go_simp;exact hK _ _ ⟨hs none _ _ ⟨fun h=>absurd h (by decide),hres.out⟩,trivial⟩)
        trivial
      intro a' w' inv hR
      have hq:=Par.donesC inv;simp only[Par.donesV,ParC.EQ,true_and,and_true] at hq
      clear inv
      simp only[List.filterMap_cons,List.filterMap_nil,Par.putAll,Act.put,List.setIfInBounds_toArray,List.set_cons_succ,List.set_cons_zero,hq]
      clear hq
      obtain⟨-,hrd,hf⟩:=Rg.Ch.fin hR (by decide) 1 rfl;have HRD:=hid hrd;have HF5:=hid (HF4.out.trans (hf.mono (T:=[p,mp,ms]) (by simp)));clear hrd hf hR
      try clear a'
      go_wp2
      go_roundw
      case rel=>
       refine⟨0+1,by have:=HKM.out;omega,by go_num,hid ?_,hid ?_,hid ⟨?_,?_⟩,HF5⟩
       · rw[HPRV.out,HTAK.out];exact HT6.out
       · rw[HTAK.out];exact HRD.out
       · rw[HTAK.out]
         intro z hz
         rcases List.mem_append.1 hz with hm|hm
         · exact HP.out.1 z hm
         · rw[List.mem_singleton.1 hm];exact HRT.out
       · rw[HTAK.out,List.pairwise_append]
         exact⟨HP.out.2,by simp,fun x hx y hy=>by rw[List.mem_singleton.1 hy];exact HLT.out x hx⟩
      case measure=>
       have:=HKM.out
       simp[intOf];omega
    · obtain⟨j,rfl⟩:∃i,k=i+1:=⟨k - 1,by omega⟩
      have hpos:decide ((0:Int)<(j:Int)+1)=true:=by first|(simp;done)|(simp;omega)
      have hjr:j<rows.length:=by omega
      obtain⟨y,hy1,hy2,hy3⟩:=HPR3.out j rfl
      have HY:=hid hy3
      have HYL:=hid hy2
      have HY1:=hid hy1
      have HLS:Hid (lessR (runes y) (runes z1)=b4):=hid (by have:=HB4.out;rw[hy1] at this;exact this)
      clear hy1 hy2 hy3
      cases b4
      case false=>
       go_wp2_with fail
       refine Par.wp_region_par (l:=[_,_,_,_,_,_,_,_,_,_,_,_,_,_]) rfl Ext (Par.VL [Par.EQ (Value.int IntKind.i64 ((j:Int)+1)),Par.EQ (Value.bool true),Par.EQ (Value.bool true),Par.EQ (Value.slice (some a) rows.length cap),Par.EQ (Value.int IntKind.i64 ((j:Int)+1)),Par.EQ (Value.int IntKind.i64 (j:Int)),Par.EQ (Value.pointer (some (a.add (j*2)))),Par.EQ (Value.pointer (some (a.add (j*2)))),Par.EQ (vN y),Par.EQ (Value.pointer (some ⟨rb,0,none⟩)),Par.EQ (vN z1),Par.EQ (Value.bool false),Par.EQ (Value.bool true),Par.EQ (Value.bool true)]) (by kernel_rfl) Ext.refl (fun _ _ _ h1 h2=>Ext.trans h1 h2) (Ext.draw _) (Par.VL_stab ?_) ?_ ?_
       · simp only[List.forall_mem_cons,List.not_mem_nil,false_implies,implies_true,and_true]
         refine⟨fun _ _ _ _ h=>h,fun _ _ _ _ h=>h,fun _ _ _ _ h=>h,fun _ _ _ _ h=>h,fun _ _ _ _ h=>h,fun _ _ _ _ h=>h,fun _ _ _ _ h=>h,fun _ _ _ _ h=>h,fun _ _ _ _ h=>h,fun _ _ _ _ h=>h,fun _ _ _ _ h=>h,fun _ _ _ _ h=>h,fun _ _ _ _ h=>h,fun _ _ _ _ h=>h⟩
       · refine⟨⟨fun _ _=>trivial,fun ρ w' hX hG hk=> ?_⟩,?_⟩
         · exact Par.val_of_run rfl ⟨Ext.refl _,hk.1⟩
         refine⟨⟨fun _ _=>trivial,fun ρ w' hX hG hk=> ?_⟩,?_⟩
         · obtain⟨(e0:ρ (.tmp 38)=Value.int IntKind.i64 ((j:Int)+1)),(e1:ρ (Operand.const (Value.int IntKind.i64 0))=(Value.int IntKind.i64 0)),-⟩:=hk;refine Par.val_k fun K hK=> ?_;unfold Par.val
           (go_simp;exact hK _ _ ⟨Ext.refl _,rfl⟩)
         refine⟨⟨fun _ _=>trivial,fun ρ w' hX hG hk=> ?_⟩,?_⟩
         · exact Par.val_of_run rfl ⟨Ext.refl _,hk.1⟩
         refine⟨⟨fun _ _ u hu=> .inl hu,fun ρ w' hX hG hk=> ?_⟩,?_⟩
         · exact Par.val_of_run rfl ⟨Ext.refl _,hk.1⟩
         refine⟨⟨fun _ _ u hu=> .inl hu,fun ρ w' hX hG hk=> ?_⟩,?_⟩
         · exact Par.val_of_run rfl ⟨Ext.refl _,hk.1⟩
         refine⟨⟨fun _ _ u hu=> .inl hu,fun ρ w' hX hG hk=> ?_⟩,?_⟩
         · obtain⟨(e0:ρ (.tmp 42)=Value.int IntKind.i64 ((j:Int)+1)),(e1:ρ (Operand.const (Value.int IntKind.i64 1))=(Value.int IntKind.i64 1)),-⟩:=hk;refine Par.val_k fun K hK=> ?_;unfold Par.val
           (have hwr:IntKind.i64.wrap (j:Int)=(j:Int):=IntWalk.i64_in _ (by omega);go_simp;exact hK _ _ ⟨Ext.refl _,rfl⟩)
         refine⟨⟨fun _ _ u hu=> .inl hu,fun ρ w' hX hG hk=> ?_⟩,?_⟩
         · obtain⟨(e0:ρ (.tmp 41)=Value.slice (some a) rows.length cap),(e1:ρ (.tmp 43)=Value.int IntKind.i64 (j:Int)),-⟩:=hk;refine Par.val_k fun K hK=> ?_;unfold Par.val
           (go_simp;exact hK _ _ ⟨Ext.refl _,rfl⟩)
         refine⟨⟨fun _ _ u hu=> .inl hu,fun ρ w' hX hG hk=> ?_⟩,?_⟩
         · obtain⟨(e0:ρ (.tmp 44)=Value.pointer (some (a.add (j*2)))),-⟩:=hk;refine Par.val_k fun K hK=> ?_;unfold Par.val
           (go_simp;exact hK _ _ ⟨Ext.refl _,rfl⟩)
         refine⟨⟨fun _ _ u hu=> .inl hu,fun ρ w' hX hG hk=> ?_⟩,?_⟩
         · obtain⟨(e0:ρ (.tmp 45)=Value.pointer (some (a.add (j*2)))),-⟩:=hk;refine Par.val_k fun K hK=> ?_;unfold Par.val
           (have cc:=hX.cell HY.out;go_simp;exact hK _ _ ⟨Ext.refl _,rfl⟩)
         refine⟨⟨fun _ _ u hu=> .inl hu,fun _ _ _ _ hk=>Par.pv [(6,pv rb)] hk (by kernel_rfl) ⟨Ext.refl _,rfl⟩⟩,?_⟩
         refine⟨⟨fun _ _ u hu=> .inl hu,fun ρ w' hX hG hk=> ?_⟩,?_⟩
         · obtain⟨(e0:ρ (.tmp 47)=Value.pointer (some ⟨rb,0,none⟩)),-⟩:=hk;refine Par.val_k fun K hK=> ?_;unfold Par.val
           (have cc:=(lk2 (hX.obj HBX.out)).1;go_simp;exact hK _ _ ⟨Ext.refl _,rfl⟩)
         refine⟨⟨fun _ _ u hu=> .inl hu,fun ρ w' hX hG hk=> ?_⟩,?_⟩
         · obtain⟨e0,(e1:ρ (.tmp 46)=vN y),(e2:ρ (.tmp 48)=vN z1),-⟩:=hk;refine Par.val_k fun K hK=> ?_;unfold Par.val
           refine Par.val_call Tryz.func160 (by kernel_rfl) rfl e0 ?_
           simp only[List.map_toArray,List.map_cons,List.map_nil,e1,e2]
           refine(less_any y z1 _ (by have:=HYL.out;omega) (by have:=HZL.out;omega) (TBx HT5.out hX)).mono ?_
           rintro e w2 ⟨rfl,hE⟩
           exact⟨_,rfl,hK _ _ ⟨hE,(congrArg Value.bool HLS.out)⟩⟩
         refine⟨⟨fun _ _ u hu=> .inl hu,fun _ _ _ _ hk=>Par.pv [(49,Value.bool false)] hk (by kernel_rfl) ⟨Ext.refl _,rfl⟩⟩,?_⟩
         refine⟨⟨fun _ _=>trivial,fun _ _ _ _ hk=>Par.pv [(40,Value.bool true),(50,Value.bool true)] hk (by kernel_rfl) ⟨Ext.refl _,rfl⟩⟩,?_⟩
         trivial
       intro a' w' inv
       have hX:=inv.ext
       have hq:=Par.donesI inv;simp only[Par.dones,Par.EQ,true_and,and_true] at hq
       clear inv
       simp only[List.filterMap_cons,List.filterMap_nil,Par.putAll,Act.put,List.setIfInBounds_toArray,List.set_cons_succ,List.set_cons_zero,hq]
       clear hq
       clear a'
       have HF4:=hid (HF3.out.trans (Ext.fr (S:=[p,mp,ms]) hX))
       clear hX
       go_wp2
       go_returns
       rw[←HT4.out]
       exact⟨HF4.out,by simp⟩
      have HLT:Hid (∀x∈rows.take (j+1),ltC x (z1,z2)=true):=hid (fun x hx=>by
       obtain⟨y2,e1,e2⟩:=HPV.out (by omega) x hx
       rw[HY1.out] at e1
       cases e1
       unfold ltC
       rcases e2 with e2|e2
       · rw[e2];exact HLS.out
       · exact lessR_trans _ _ _ e2 HLS.out)
      have HNO:Hid ((rows.take (j+1)).lookup z1=none):=hid (lku_none.2 (fun hm=>by
       obtain⟨z,hz,e⟩:=List.mem_map.1 hm
       have:=HLT.out z hz
       unfold ltC at this
       rw[show z.1=z1 from e,lessR_irrefl] at this;cases this))
      go_wp2_with fail
      refine Par.wp_region_par (l:=[_,_,_,_,_,_,_,_,_,_,_,_,_,_]) rfl Ext (Par.VL [Par.EQ (Value.int IntKind.i64 ((j:Int)+1)),Par.EQ (Value.bool true),Par.EQ (Value.bool true),Par.EQ (Value.slice (some a) rows.length cap),Par.EQ (Value.int IntKind.i64 ((j:Int)+1)),Par.EQ (Value.int IntKind.i64 (j:Int)),Par.EQ (Value.pointer (some (a.add (j*2)))),Par.EQ (Value.pointer (some (a.add (j*2)))),Par.EQ (vN y),Par.EQ (Value.pointer (some ⟨rb,0,none⟩)),Par.EQ (vN z1),Par.EQ (Value.bool true),Par.EQ (Value.bool false),Par.EQ (Value.bool false)]) (by kernel_rfl) Ext.refl (fun _ _ _ h1 h2=>Ext.trans h1 h2) (Ext.draw _) (Par.VL_stab ?_) ?_ ?_
      · simp only[List.forall_mem_cons,List.not_mem_nil,false_implies,implies_true,and_true]
        refine⟨fun _ _ _ _ h=>h,fun _ _ _ _ h=>h,fun _ _ _ _ h=>h,fun _ _ _ _ h=>h,fun _ _ _ _ h=>h,fun _ _ _ _ h=>h,fun _ _ _ _ h=>h,fun _ _ _ _ h=>h,fun _ _ _ _ h=>h,fun _ _ _ _ h=>h,fun _ _ _ _ h=>h,fun _ _ _ _ h=>h,fun _ _ _ _ h=>h,fun _ _ _ _ h=>h⟩
      · refine⟨⟨fun _ _=>trivial,fun ρ w' hX hG hk=> ?_⟩,?_⟩
        · exact Par.val_of_run rfl ⟨Ext.refl _,hk.1⟩
        refine⟨⟨fun _ _=>trivial,fun ρ w' hX hG hk=> ?_⟩,?_⟩
        · obtain⟨(e0:ρ (.tmp 38)=Value.int IntKind.i64 ((j:Int)+1)),(e1:ρ (Operand.const (Value.int IntKind.i64 0))=(Value.int IntKind.i64 0)),-⟩:=hk;refine Par.val_k fun K hK=> ?_;unfold Par.val
          (go_simp;exact hK _ _ ⟨Ext.refl _,rfl⟩)
        refine⟨⟨fun _ _=>trivial,fun ρ w' hX hG hk=> ?_⟩,?_⟩
        · exact Par.val_of_run rfl ⟨Ext.refl _,hk.1⟩
        refine⟨⟨fun _ _ u hu=> .inl hu,fun ρ w' hX hG hk=> ?_⟩,?_⟩
        · exact Par.val_of_run rfl ⟨Ext.refl _,hk.1⟩
        refine⟨⟨fun _ _ u hu=> .inl hu,fun ρ w' hX hG hk=> ?_⟩,?_⟩
        · exact Par.val_of_run rfl ⟨Ext.refl _,hk.1⟩
        refine⟨⟨fun _ _ u hu=> .inl hu,fun ρ w' hX hG hk=> ?_⟩,?_⟩
        · obtain⟨(e0:ρ (.tmp 42)=Value.int IntKind.i64 ((j:Int)+1)),(e1:ρ (Operand.const (Value.int IntKind.i64 1))=(Value.int IntKind.i64 1)),-⟩:=hk;refine Par.val_k fun K hK=> ?_;unfold Par.val
          (have hwr:IntKind.i64.wrap (j:Int)=(j:Int):=IntWalk.i64_in _ (by omega);go_simp;exact hK _ _ ⟨Ext.refl _,rfl⟩)
        refine⟨⟨fun _ _ u hu=> .inl hu,fun ρ w' hX hG hk=> ?_⟩,?_⟩
        · obtain⟨(e0:ρ (.tmp 41)=Value.slice (some a) rows.length cap),(e1:ρ (.tmp 43)=Value.int IntKind.i64 (j:Int)),-⟩:=hk;refine Par.val_k fun K hK=> ?_;unfold Par.val
          (go_simp;exact hK _ _ ⟨Ext.refl _,rfl⟩)
        refine⟨⟨fun _ _ u hu=> .inl hu,fun ρ w' hX hG hk=> ?_⟩,?_⟩
        · obtain⟨(e0:ρ (.tmp 44)=Value.pointer (some (a.add (j*2)))),-⟩:=hk;refine Par.val_k fun K hK=> ?_;unfold Par.val
          (go_simp;exact hK _ _ ⟨Ext.refl _,rfl⟩)
        refine⟨⟨fun _ _ u hu=> .inl hu,fun ρ w' hX hG hk=> ?_⟩,?_⟩
        · obtain⟨(e0:ρ (.tmp 45)=Value.pointer (some (a.add (j*2)))),-⟩:=hk;refine Par.val_k fun K hK=> ?_;unfold Par.val
          (have cc:=hX.cell HY.out;go_simp;exact hK _ _ ⟨Ext.refl _,rfl⟩)
        refine⟨⟨fun _ _ u hu=> .inl hu,fun _ _ _ _ hk=>Par.pv [(6,pv rb)] hk (by kernel_rfl) ⟨Ext.refl _,rfl⟩⟩,?_⟩
        refine⟨⟨fun _ _ u hu=> .inl hu,fun ρ w' hX hG hk=> ?_⟩,?_⟩
        · obtain⟨(e0:ρ (.tmp 47)=Value.pointer (some ⟨rb,0,none⟩)),-⟩:=hk;refine Par.val_k fun K hK=> ?_;unfold Par.val
          (have cc:=(lk2 (hX.obj HBX.out)).1;go_simp;exact hK _ _ ⟨Ext.refl _,rfl⟩)
        refine⟨⟨fun _ _ u hu=> .inl hu,fun ρ w' hX hG hk=> ?_⟩,?_⟩
        · obtain⟨e0,(e1:ρ (.tmp 46)=vN y),(e2:ρ (.tmp 48)=vN z1),-⟩:=hk;refine Par.val_k fun K hK=> ?_;unfold Par.val
          refine Par.val_call Tryz.func160 (by kernel_rfl) rfl e0 ?_
          simp only[List.map_toArray,List.map_cons,List.map_nil,e1,e2]
          refine(less_any y z1 _ (by have:=HYL.out;omega) (by have:=HZL.out;omega) (TBx HT5.out hX)).mono ?_
          rintro e w2 ⟨rfl,hE⟩
          exact⟨_,rfl,hK _ _ ⟨hE,(congrArg Value.bool HLS.out)⟩⟩
        refine⟨⟨fun _ _ u hu=> .inl hu,fun _ _ _ _ hk=>Par.pv [(49,Value.bool true)] hk (by kernel_rfl) ⟨Ext.refl _,rfl⟩⟩,?_⟩
        refine⟨⟨fun _ _=>trivial,fun _ _ _ _ hk=>Par.pv [(40,Value.bool true),(50,Value.bool false)] hk (by kernel_rfl) ⟨Ext.refl _,rfl⟩⟩,?_⟩
        trivial
      intro a' w' inv
      have hX:=inv.ext
      have hq:=Par.donesI inv;simp only[Par.dones,Par.EQ,true_and,and_true] at hq
      clear inv
      simp only[List.filterMap_cons,List.filterMap_nil,Par.putAll,Act.put,List.setIfInBounds_toArray,List.set_cons_succ,List.set_cons_zero,hq]
      clear hq
      clear a'
      have HF4:=hid (HF3.out.trans (Ext.fr (S:=[p,mp,ms]) hX))
      have HD4:=hid (HD3.out.ext hX)
      have HB6:=hid (hX.obj HBX.out)
      clear hX HF3 HD3 HBX
      obtain⟨W7,rfl⟩:∃x,x=w':=⟨_,rfl⟩
      have HT6:Hid (takeC (some z1) (rows.drop ((j+1)+1)) {s with seen:=rows.take (j+1)++[(z1,z2)]}=O):=hid (by have:=HT4.out;simpa using this)
      have HRT:Hid (rightL z1=true):=hid HB1.out
      go_wp2_with fail
      refine ParE.wp_region_e (l:=[_,_,_,_,_,_,_,_,_]) rfl (Rg.Ch [8] [] (OneQ W7 fun w'=>DD w' p mp ms {s with seen:=rows.take (j+1)++[(z1,z2)]}∧Fr [ms] W7 w')) (ParC.VC [ParC.EQ (pv p),ParC.EQ (pv p),ParC.EQ (Value.pointer (some ⟨p,2,none⟩)),ParC.EQ (Value.map (some ms)),ParC.EQ (Value.pointer (some ⟨rb,0,none⟩)),ParC.EQ (vN z1),ParC.EQ (Value.pointer (some ⟨rb,1,none⟩)),ParC.EQ (vU z2),fun _=>True]) (by kernel_rfl) (by kernel_rfl) (Rg.Ch.start ⟨fun _=>Ext.draw _,trivial⟩) ?_ ?_
      · refine⟨fun L ρ w' hR hC hL hd hk=> ?_,?_⟩
        · exact Par.val_of_run rfl ⟨hR.other (by decide),hk.1⟩
        refine⟨fun L ρ w' hR hC hL hd hk=> ?_,?_⟩
        · obtain⟨(e0:ρ (.tmp 52)=pv p),-⟩:=hk;refine Par.val_k fun K hK=> ?_;unfold Par.val
          (go_simp;exact hK _ _ ⟨hR.other (by decide),rfl⟩)
        refine⟨fun _ _ _ hR _ _ _ hk=>Par.pv [(53,pv p)] hk (by kernel_rfl) ⟨hR.other (by decide),rfl⟩,?_⟩
        refine⟨fun L ρ w' hR hC hL hd hk=> ?_,?_⟩
        · obtain⟨(e0:ρ (.tmp 54)=Value.pointer (some ⟨p,2,none⟩)),-⟩:=hk;refine Par.val_k fun K hK=> ?_;unfold Par.val
          (obtain⟨i,hi,hq⟩:=hR.some 0 rfl (hC.notyet 8 3 hL (by kernel_rfl));have cc:=(lk3D (HD4.out.ext (hq.1 (by omega))).hd).2.2.1;go_simp;exact hK _ _ ⟨hR.other (by decide),rfl⟩)
        refine⟨fun _ _ _ hR _ _ _ hk=>Par.pv [(6,pv rb)] hk (by kernel_rfl) ⟨hR.other (by decide),rfl⟩,?_⟩
        refine⟨fun L ρ w' hR hC hL hd hk=> ?_,?_⟩
        · obtain⟨(e0:ρ (.tmp 56)=Value.pointer (some ⟨rb,0,none⟩)),-⟩:=hk;refine Par.val_k fun K hK=> ?_;unfold Par.val
          (obtain⟨i,hi,hq⟩:=hR.some 0 rfl (hC.notyet 8 5 hL (by kernel_rfl));have cc:=(lk2 ((hq.1 (by omega)).obj HB6.out)).1;go_simp;exact hK _ _ ⟨hR.other (by decide),rfl⟩)
        refine⟨fun _ _ _ hR _ _ _ hk=>Par.pv [(6,pv rb)] hk (by kernel_rfl) ⟨hR.other (by decide),rfl⟩,?_⟩
        refine⟨fun L ρ w' hR hC hL hd hk=> ?_,?_⟩
        · obtain⟨(e0:ρ (.tmp 58)=Value.pointer (some ⟨rb,1,none⟩)),-⟩:=hk;refine Par.val_k fun K hK=> ?_;unfold Par.val
          (obtain⟨i,hi,hq⟩:=hR.some 0 rfl (hC.notyet 8 7 hL (by kernel_rfl));have cc:=(lk2 ((hq.1 (by omega)).obj HB6.out)).2.1;go_simp;exact hK _ _ ⟨hR.other (by decide),rfl⟩)
        refine⟨fun L ρ w' hR hC hL hd hk=> ?_,?_⟩
        · obtain⟨(e0:ρ (.tmp 55)=Value.map (some ms)),(e1:ρ (.tmp 57)=vN z1),(e2:ρ (.tmp 59)=vU z2),-⟩:=hk;refine Par.val_k fun K hK=> ?_;unfold Par.val
          (obtain⟨hq,hs⟩:=hR.go 0 rfl hL (.inl rfl) (by decide);have hx:=hq.1 (by decide);have hD:=HD4.out.ext hx;obtain⟨l,hl,pl⟩:=hD.sm;have hKM:=HKM.out;have hTL:(rows.take (j+1)).length≤8:=(by rw[List.length_take];omega);obtain⟨w4,hrun,hl4,ht4⟩:=hl.store Tryz.underlying184 (by have:=pl.length_eq;dsimp only at this;omega) (perm_nodup pl hD.ns) z1 (by have:=HZL.out;simp[maxLen];omega) z2;have hno:(rows.take (j+1)).lookup z1=none:=HNO.out;have hlk:l.lookup z1=none:=(perm_lookup pl hD.ns z1).trans hno;have hF3:=fr_turned (S:=[ms]) ht4 (by simp);have hres:Hid (DD w4 p mp ms {s with seen:=rows.take (j+1)++[(z1,z2)]}∧Fr [ms] W7 w4):=hid ⟨⟨(hF3.block p hD.lt.1 (by simpa using hD.ps)).trans hD.hd,(by obtain⟨k7,hk2,pk⟩:=hD.rm;exact⟨k7,hk2.fr hF3 (by simpa using hD.ne),pk⟩),⟨_,hl4,by rw[noK_none hlk];exact(List.Perm.cons _ pl).trans (List.perm_append_singleton _ _).symm⟩,hD.ne,hD.nr,by(have h7:=hD.ns;simp only[List.map_append,List.map_cons,List.map_nil];refine List.nodup_append.2 ⟨h7,by simp,fun a ha b hb=> ?_⟩;simp at hb;subst hb;intro e;exact lku_none.1 hno (e▸ha)),hD.lr,by(simp only[List.length_append,List.length_cons,List.length_nil];omega)⟩,(Ext.fr hx).trans hF3⟩;clear hl4 ht4 hF3 pl hlk hl hD hno hTL hKM;go_simp;exact hK _ _ ⟨hs none _ _ ⟨fun h=>absurd h (by decide),hres.out⟩,trivial⟩)
        trivial
      intro a' w' inv hR
      have hq:=Par.donesC inv;simp only[Par.donesV,ParC.EQ,true_and,and_true] at hq
      clear inv
      simp only[List.filterMap_cons,List.filterMap_nil,Par.putAll,Act.put,List.setIfInBounds_toArray,List.set_cons_succ,List.set_cons_zero,hq]
      clear hq
      obtain⟨-,hrd,hf⟩:=Rg.Ch.fin hR (by decide) 1 rfl;have HRD:=hid hrd;have HF5:=hid (HF4.out.trans (hf.mono (T:=[p,mp,ms]) (by simp)));clear hrd hf hR
      try clear a'
      go_wp2
      go_roundw
      case rel=>
       refine⟨(j+1)+1,by have:=HKM.out;omega,by go_num,hid ?_,hid ?_,hid ⟨?_,?_⟩,HF5⟩
       · rw[HPRV.out,HTAK.out];exact HT6.out
       · rw[HTAK.out];exact HRD.out
       · rw[HTAK.out]
         intro z hz
         rcases List.mem_append.1 hz with hm|hm
         · exact HP.out.1 z hm
         · rw[List.mem_singleton.1 hm];exact HRT.out
       · rw[HTAK.out,List.pairwise_append]
         exact⟨HP.out.2,by simp,fun x hx y hy=>by rw[List.mem_singleton.1 hy];exact HLT.out x hx⟩
      case measure=>
       have:=HKM.out
       simp[intOf];omega
  · have hkf:decide ((k:Int)<(rows.length:Int))=false:=by simp;omega
    obtain rfl:k=rows.length:=by omega
    have HT2:Hid (some {s with seen:=rows.take rows.length}=O):=hid (by have:=HTK.out;rw[List.drop_length,takeC] at this;exact this)
    go_wp2
    go_returns
    rw[←HT2.out]
    exact⟨HF.out,rfl,HD.out⟩
end Go.Proofs.YtcfgafododiioaaGreatDoor
