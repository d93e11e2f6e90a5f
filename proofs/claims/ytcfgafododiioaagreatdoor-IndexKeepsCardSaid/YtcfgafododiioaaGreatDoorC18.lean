/- Texts of a claim, side by side. -/
import Derived.Test.YtcfgafododiioaaGreatDoorC11
import Derived.Test.YtcfgafododiioaaGreatDoorC17
set_option linter.unusedSimpArgs false
set_option linter.unusedVariables false
namespace Go.Proofs.YtcfgafododiioaaGreatDoor
open Go Go.RowKit Go.Tum Go.ChangeMaps Go.Sort Go.Tum.Rn
open Go.ParB (upd Lof)
open Go.ParE (putS slotsR slots Closed)
theorem TB.fr {S:List Nat} {w w':World} (h:TB w) (f:Fr S w w') (hs:∀q∈S,2≤q):TB w':=by
 have key:∀{a:Addr} {v:Value},a.block<2→w.cell? a=some v→w'.cell? a=some v:=fun{a v} hb hc=>by
  rw[f.cell (fun hm=>by have:=hs _ hm;omega) (World.block_lt_of_cell? w a hc)]
  exact hc
 exact⟨fun c hc=>key (by simp) (h.1 c hc),fun i hi=>⟨key (by simp) (h.2 i hi).1,key (by simp) (h.2 i hi).2⟩⟩
theorem swp_list (d:Array Cur) (j:Nat) (h:j+1<d.size):(swp d (j+1) j).toList=(d.toList.set (j+1) (d.toList[j]'(by simp;omega))).set j (d.toList[j+1]'(by simpa using h)):=by
 unfold swp
 rw[getElem!_pos d j (by omega),getElem!_pos d (j+1) h]
 simp
theorem RowC.st {w:World} {B g n cap:Nat} {l:List Cur} (h:RowC w B g n cap l) (hn:l.length=n) {j:Nat} (hj:j<n) {a:Addr} (ha:a=⟨g,0,none⟩) (v:Value):
 (∃u,w.cell? (a.add (j*2))=some u)∧w.frozen? (a.add (j*2))=false∧(∃u,(w.setCell (a.add (j*2)) v).cell? ⟨(a.add (j*2)).block,(a.add (j*2)).off+1,none⟩=some u)∧(w.setCell (a.add (j*2)) v).frozen? ⟨(a.add (j*2)).block,(a.add (j*2)).off+1,none⟩=false:=by
 have he:=h.ec hn hj
 rw[←ha] at he
 have h1:=(World.ownsRow.stored h (j*2) v).1
 have hl:(l.flatMap encC).length=n*2:=h.1
 refine⟨⟨_,he.c0⟩,he.f0,?_,?_⟩
 · subst ha
   rw[addr0]
   exact⟨_,(World.ownsRow.cellAt h1 (j*2+1) (by omega)).trans (List.getElem?_eq_getElem (by simp only[List.length_set];omega))⟩
 · subst ha
   rw[addr0]
   exact World.ownsRow.frozenAt h1 _
def SwQ (W:World) (B g n cap J:Nat) (l:List Cur) (z:Cur) (P:World→Prop) (i:Nat) (_:Nat→Value) (w':World):Prop:=(i<1→Ext W w')∧match i with
 |1=>RowC w' B g n cap (l.set J z)∧Fr [g] W w'
 |2=>P w'
 |_=>True
set_option maxRecDepth 100000 in
set_option maxHeartbeats 2000000 in
theorem insC_any {B:Nat} {w:World} (g n cap:Nat) (l:List Cur) (h:RowC w B g n cap l) (hn:l.length=n) (hn12:n≤12) (hlen:∀z∈l,z.1.length≤1048576) (ht:TB w) (hg:2≤g):
 Calls Tryz.prog 183 #[.slice (some ⟨g,0,none⟩) n cap,.int .i64 0,.int .i64 (n:Int),.func (.func 118) #[] #[]] w fun e w'=>
  (∃u,e= .returned u)∧RowC w' B g n cap (insertionSort ltC l.toArray 0 n).toList∧Fr [g] w w':=by
 obtain⟨D,hD⟩:∃D,insertionSort ltC l.toArray 0 n=D:=⟨_,rfl⟩
 have HD:Hid (insOuter ltC 0 n 1 l.toArray=D):=hid hD
 rw[hD]
 have H0:=hid h
 have HN0:=hid hn
 have HLEN:=hid hlen
 have HT:=hid ht
 have HG:=hid hg
 have hcapf:n≤cap∧cap≤9223372036854775807:=by
  rcases h.2 with ⟨hv,-⟩|⟨g',cap',cur,hv,hb,hgg,h1,h2,-⟩
  · cases hv
  · cases hv;exact⟨h1,by simpa[maxLen] using h2⟩
 obtain⟨hcap1,hcap2⟩:=hcapf
 obtain⟨a,ha⟩:∃a:Addr,a=⟨g,0,none⟩:=⟨_,rfl⟩
 have HA:=hid ha
 rw[←ha]
 clear h hn hlen ht hg hD ha
 go_enter Tryz.func183,Tryz.ntmps183
 go_wp2
 go_loopw [8] (fun iv wr=>∃(k:Nat) (d:Array Cur),1≤k∧k≤n+1∧iv= .int .i64 (k:Int)∧Hid (d.size=n)∧Hid (RowC wr B g n cap d.toList)∧Hid (insOuter ltC 0 n k d=D)∧Hid (∀z∈d.toList,z.1.length≤1048576)∧Hid (Fr [g] w wr)) (fun iv _=>n+1 - (intOf iv).toNat)
 case atStart=>exact⟨1,l.toArray,by omega,by omega,rfl,hid (by simpa using HN0.out),H0,HD,hid (by simpa using HLEN.out),hid (Fr.refl _ _)⟩
 case round=>
  obtain⟨k,d,hk1,hk2,rfl,HS,HR,HO,HL,HF⟩:=hrel
  by_cases hlt:k<n
  · have hki:(k:Int)<n:=by omega
    have HKN:=hid hlt
    have HK1:=hid hk1
    have HO2:Hid (insOuter ltC 0 n (k+1) (insInner ltC 0 k d)=D):=hid (by have:=HO.out;rw[insOuter,if_pos hlt] at this;exact this)
    go_wp2
    go_loopw [9] (fun jv w3=>∃(j:Nat) (e:Array Cur),j≤k∧jv= .int .i64 (j:Int)∧Hid (e.size=n)∧Hid (RowC w3 B g n cap e.toList)∧Hid (insOuter ltC 0 n (k+1) (insInner ltC 0 j e)=D)∧Hid (∀z∈e.toList,z.1.length≤1048576)∧Hid (Fr [g] w w3)) (fun jv _=>(intOf jv).toNat)
    case atStart=>exact⟨k,d,by omega,rfl,HS,HR,HO2,HL,HF⟩
    case round=>
     clear HO2 HS HR HO HL HF
     obtain⟨j,e,hj,rfl,HS,HR,HO,HL,HF⟩:=hrel
     have HJ:=hid hj
     rcases Nat.eq_zero_or_pos j with rfl|hjp
     · -- the first place:no more
       have HO3:Hid (insOuter ltC 0 n (k+1) e=D):=hid (by have:=HO.out;rw[insInner] at this;exact this)
       go_wp2_with fail
       refine Par.wp_region_par (l:=[_,_,_,_,_,_,_,_,_,_,_,_,_,_,_,_,_]) rfl Ext (Par.VL [Par.EQ (Value.int IntKind.i64 0),Par.EQ (Value.int IntKind.i64 0),Par.EQ (Value.bool false),Par.EQ (Value.bool false),Par.EQ (undef),Par.EQ (undef),Par.EQ (undef),Par.EQ (undef),Par.EQ (undef),Par.EQ (undef),Par.EQ (undef),Par.EQ (undef),Par.EQ (undef),Par.EQ (undef),Par.EQ (undef),Par.EQ (undef),Par.EQ (Value.bool false)]) (by kernel_rfl) Ext.refl (fun _ _ _ h1 h2=>Ext.trans h1 h2) (Ext.draw _) (Par.VL_stab ?_) ?_ ?_
       · simp only[List.forall_mem_cons,List.not_mem_nil,false_implies,implies_true,and_true]
         refine⟨fun _ _ _ _ h=>h,fun _ _ _ _ h=>h,fun _ _ _ _ h=>h,fun _ _ _ _ h=>h,fun _ _ _ _ h=>h,fun _ _ _ _ h=>h,fun _ _ _ _ h=>h,fun _ _ _ _ h=>h,fun _ _ _ _ h=>h,fun _ _ _ _ h=>h,fun _ _ _ _ h=>h,fun _ _ _ _ h=>h,fun _ _ _ _ h=>h,fun _ _ _ _ h=>h,fun _ _ _ _ h=>h,fun _ _ _ _ h=>h,fun _ _ _ _ h=>h⟩
       · refine⟨⟨fun _ _=>trivial,fun ρ w' hX hG hk=> ?_⟩,?_⟩
         · exact Par.val_of_run rfl ⟨Ext.refl _,hk.1⟩
         refine⟨⟨fun _ _=>trivial,fun ρ w' hX hG hk=> ?_⟩,?_⟩
         · exact Par.val_of_run rfl ⟨Ext.refl _,hk.1⟩
         refine⟨⟨fun _ _=>trivial,fun _ _ _ _ hk=>Par.pv [(18,Value.int IntKind.i64 0),(19,Value.int IntKind.i64 0)] hk (by kernel_rfl) ⟨Ext.refl _,rfl⟩⟩,?_⟩
         refine⟨⟨fun _ _=>trivial,fun ρ w' hX hG hk=> ?_⟩,?_⟩
         · exact Par.val_of_run rfl ⟨Ext.refl _,hk.1⟩
         refine⟨⟨fun _ _ u hu=> .inr rfl,fun ρ w' hX hG hk=> ?_⟩,?_⟩
         · cases hG
         refine⟨⟨fun _ _ u hu=> .inr rfl,fun ρ w' hX hG hk=> ?_⟩,?_⟩
         · cases hG
         refine⟨⟨fun _ _ u hu=> .inr rfl,fun ρ w' hX hG hk=> ?_⟩,?_⟩
         · cases hG
         refine⟨⟨fun _ _ u hu=> .inr rfl,fun ρ w' hX hG hk=> ?_⟩,?_⟩
         · cases hG
         refine⟨⟨fun _ _ u hu=> .inr rfl,fun ρ w' hX hG hk=> ?_⟩,?_⟩
         · cases hG
         refine⟨⟨fun _ _ u hu=> .inr rfl,fun ρ w' hX hG hk=> ?_⟩,?_⟩
         · cases hG
         refine⟨⟨fun _ _ u hu=> .inr rfl,fun ρ w' hX hG hk=> ?_⟩,?_⟩
         · cases hG
         refine⟨⟨fun _ _ u hu=> .inr rfl,fun ρ w' hX hG hk=> ?_⟩,?_⟩
         · cases hG
         refine⟨⟨fun _ _ u hu=> .inr rfl,fun ρ w' hX hG hk=> ?_⟩,?_⟩
         · cases hG
         refine⟨⟨fun _ _ u hu=> .inr rfl,fun ρ w' hX hG hk=> ?_⟩,?_⟩
         · cases hG
         refine⟨⟨fun _ _ u hu=> .inr rfl,fun ρ w' hX hG hk=> ?_⟩,?_⟩
         · cases hG
         refine⟨⟨fun _ _ u hu=> .inr rfl,fun ρ w' hX hG hk=> ?_⟩,?_⟩
         · cases hG
         refine⟨⟨fun _ _=>trivial,fun _ _ _ _ hk=>Par.pv [(21,Value.bool false),(33,undef)] hk (by kernel_rfl) ⟨Ext.refl _,rfl⟩⟩,?_⟩
         trivial
       intro a' w' inv
       have hX:=inv.ext
       have hq:=Par.donesI inv;simp only[Par.dones,Par.EQ,true_and,and_true] at hq
       clear inv
       simp only[List.filterMap_cons,List.filterMap_nil,Par.putAll,Act.put,List.setIfInBounds_toArray,List.set_cons_succ,List.set_cons_zero,hq]
       clear hq
       clear a'
       have HF2:=hid (HF.out.trans (Ext.fr hX))
       have HR2:=hid (hX.owns HR.out)
       clear hX HF HR
       go_wp2
       go_roundw
       case rel=>exact⟨k+1,e,by omega,by omega,by go_num,HS,HR2,HO3,HL,HF2⟩
       case measure=>simp[intOf];omega
     · obtain⟨j,rfl⟩:∃i,j=i+1:=⟨j - 1,by omega⟩
       have hjn:j+1<n:=by have:=HKN.out;omega
       have hes:e.toList.length=n:=by simpa using HS.out
       have hj1:(j:Int)+1<n:=by omega
       have hjl:j<e.toList.length:=by rw[hes];omega
       have hjl1:j+1<e.toList.length:=by rw[hes];omega
       obtain⟨zb,hzb⟩:∃z,e.toList[j]'hjl=z:=⟨_,rfl⟩
       obtain⟨za,hza⟩:∃z,e.toList[j+1]'hjl1=z:=⟨_,rfl⟩
       have HZB:=hid hzb
       have HZA:=hid hza
       have HEA:Hid (EC wr a (j+1) za):=hid (by rw[HA.out,←hza];exact HR.out.ec hes (by omega))
       have HEB:Hid (EC wr a j zb):=hid (by rw[HA.out,←hzb];exact HR.out.ec hes (by omega))
       have HLA:Hid (za.1.length≤1048576∧zb.1.length≤1048576):=hid ⟨by rw[←hza];exact HL.out _ (List.getElem_mem _),by rw[←hzb];exact HL.out _ (List.getElem_mem _)⟩
       have HT3:Hid (TB wr):=hid (HT.out.fr HF.out (by intro q hq;obtain rfl:q=g:=(by simpa using hq);exact HG.out))
       have HES:=hid hes
       have HJN:=hid hjn
       have HIN:Hid (insInner ltC 0 (j+1) e=if ltC za zb then insInner ltC 0 j (swp e (j+1) j) else e):=hid (by
        rw[insInner,getElem!_pos e (j+1) (by rw[HS.out];omega),getElem!_pos e j (by rw[HS.out];omega),←hza,←hzb]
        simp)
       have hcn:=cfC_neg za zb
       obtain⟨c,hc⟩:∃c,cfC za zb=c:=⟨_,rfl⟩
       rw[hc] at hcn
       have HC:=hid hc
       obtain⟨za1,za2⟩:=za
       obtain⟨zb1,zb2⟩:=zb
       clear hzb hza hes hc hj
       obtain⟨b0,hb0⟩:∃b,ltC (za1,za2) (zb1,zb2)=b:=⟨_,rfl⟩
       have HB0:=hid hb0
       rw[hb0] at hcn
       clear hb0
       have hpos:decide ((0:Int)<(j:Int)+1)=true:=by first|(simp;done)|(simp;omega)
       have hjn0:j<n:=by omega
       have hkb:k≤12:=by omega
       go_wp2_with fail
       refine Par.wp_region_par (l:=[_,_,_,_,_,_,_,_,_,_,_,_,_,_,_,_,_]) rfl Ext (Par.VL [Par.EQ (Value.int IntKind.i64 ((j:Int)+1)),Par.EQ (Value.int IntKind.i64 0),Par.EQ (Value.bool true),Par.EQ (Value.bool true),Par.EQ (Value.func (.func 118) #[] #[]),Par.EQ (Value.slice (some a) n cap),Par.EQ (Value.int IntKind.i64 ((j:Int)+1)),Par.EQ (Value.pointer (some (a.add ((j+1)*2)))),Par.EQ (Value.agg #[vN za1,vU za2]),Par.EQ (Value.slice (some a) n cap),Par.EQ (Value.int IntKind.i64 ((j:Int)+1)),Par.EQ (Value.int IntKind.i64 (j:Int)),Par.EQ (Value.pointer (some (a.add (j*2)))),Par.EQ (Value.agg #[vN zb1,vU zb2]),Par.EQ (Value.int IntKind.i64 c),Par.EQ (Value.bool b0),Par.EQ (Value.bool b0)]) (by kernel_rfl) Ext.refl (fun _ _ _ h1 h2=>Ext.trans h1 h2) (Ext.draw _) (Par.VL_stab ?_) ?_ ?_
       · simp only[List.forall_mem_cons,List.not_mem_nil,false_implies,implies_true,and_true]
         refine⟨fun _ _ _ _ h=>h,fun _ _ _ _ h=>h,fun _ _ _ _ h=>h,fun _ _ _ _ h=>h,fun _ _ _ _ h=>h,fun _ _ _ _ h=>h,fun _ _ _ _ h=>h,fun _ _ _ _ h=>h,fun _ _ _ _ h=>h,fun _ _ _ _ h=>h,fun _ _ _ _ h=>h,fun _ _ _ _ h=>h,fun _ _ _ _ h=>h,fun _ _ _ _ h=>h,fun _ _ _ _ h=>h,fun _ _ _ _ h=>h,fun _ _ _ _ h=>h⟩
       · refine⟨⟨fun _ _=>trivial,fun ρ w' hX hG hk=> ?_⟩,?_⟩
         · exact Par.val_of_run rfl ⟨Ext.refl _,hk.1⟩
         refine⟨⟨fun _ _=>trivial,fun ρ w' hX hG hk=> ?_⟩,?_⟩
         · exact Par.val_of_run rfl ⟨Ext.refl _,hk.1⟩
         refine⟨⟨fun _ _=>trivial,fun ρ w' hX hG hk=> ?_⟩,?_⟩
         · obtain⟨(e0:ρ (.tmp 18)=Value.int IntKind.i64 ((j:Int)+1)),(e1:ρ (.tmp 19)=Value.int IntKind.i64 0),-⟩:=hk;refine Par.val_k fun K hK=> ?_;unfold Par.val
           (go_simp;exact hK _ _ ⟨Ext.refl _,rfl⟩)
         refine⟨⟨fun _ _=>trivial,fun ρ w' hX hG hk=> ?_⟩,?_⟩
         · exact Par.val_of_run rfl ⟨Ext.refl _,hk.1⟩
         refine⟨⟨fun _ _ u hu=> .inl hu,fun ρ w' hX hG hk=> ?_⟩,?_⟩
         · exact Par.val_of_run rfl ⟨Ext.refl _,hk.1⟩
         refine⟨⟨fun _ _ u hu=> .inl hu,fun ρ w' hX hG hk=> ?_⟩,?_⟩
         · exact Par.val_of_run rfl ⟨Ext.refl _,hk.1⟩
         refine⟨⟨fun _ _ u hu=> .inl hu,fun ρ w' hX hG hk=> ?_⟩,?_⟩
         · exact Par.val_of_run rfl ⟨Ext.refl _,hk.1⟩
         refine⟨⟨fun _ _ u hu=> .inl hu,fun ρ w' hX hG hk=> ?_⟩,?_⟩
         · obtain⟨(e0:ρ (.tmp 23)=Value.slice (some a) n cap),(e1:ρ (.tmp 24)=Value.int IntKind.i64 ((j:Int)+1)),-⟩:=hk;refine Par.val_k fun K hK=> ?_;unfold Par.val
           (go_simp;exact hK _ _ ⟨Ext.refl _,rfl⟩)
         refine⟨⟨fun _ _ u hu=> .inl hu,fun ρ w' hX hG hk=> ?_⟩,?_⟩
         · obtain⟨(e0:ρ (.tmp 25)=Value.pointer (some (a.add ((j+1)*2)))),-⟩:=hk;refine Par.val_k fun K hK=> ?_;unfold Par.val
           (have he:=HEA.out;have cc0:=hX.cell he.c0;have cc1:=hX.cell he.c1;clear he;go_simp;exact hK _ _ ⟨Ext.refl _,rfl⟩)
         refine⟨⟨fun _ _ u hu=> .inl hu,fun ρ w' hX hG hk=> ?_⟩,?_⟩
         · exact Par.val_of_run rfl ⟨Ext.refl _,hk.1⟩
         refine⟨⟨fun _ _ u hu=> .inl hu,fun ρ w' hX hG hk=> ?_⟩,?_⟩
         · exact Par.val_of_run rfl ⟨Ext.refl _,hk.1⟩
         refine⟨⟨fun _ _ u hu=> .inl hu,fun ρ w' hX hG hk=> ?_⟩,?_⟩
         · obtain⟨(e0:ρ (.tmp 28)=Value.int IntKind.i64 ((j:Int)+1)),(e1:ρ (Operand.const (Value.int IntKind.i64 1))=(Value.int IntKind.i64 1)),-⟩:=hk;refine Par.val_k fun K hK=> ?_;unfold Par.val
           (have hwr:IntKind.i64.wrap (j:Int)=(j:Int):=IntWalk.i64_in _ (by omega);go_simp;exact hK _ _ ⟨Ext.refl _,rfl⟩)
         refine⟨⟨fun _ _ u hu=> .inl hu,fun ρ w' hX hG hk=> ?_⟩,?_⟩
         · obtain⟨(e0:ρ (.tmp 27)=Value.slice (some a) n cap),(e1:ρ (.tmp 29)=Value.int IntKind.i64 (j:Int)),-⟩:=hk;refine Par.val_k fun K hK=> ?_;unfold Par.val
           (go_simp;exact hK _ _ ⟨Ext.refl _,rfl⟩)
         refine⟨⟨fun _ _ u hu=> .inl hu,fun ρ w' hX hG hk=> ?_⟩,?_⟩
         · obtain⟨(e0:ρ (.tmp 30)=Value.pointer (some (a.add (j*2)))),-⟩:=hk;refine Par.val_k fun K hK=> ?_;unfold Par.val
           (have he:=HEB.out;have cc0:=hX.cell he.c0;have cc1:=hX.cell he.c1;clear he;go_simp;exact hK _ _ ⟨Ext.refl _,rfl⟩)
         refine⟨⟨fun _ _ u hu=> .inl hu,fun ρ w' hX hG hk=> ?_⟩,?_⟩
         · obtain⟨(e0:ρ (.tmp 22)=Value.func (.func 118) #[] #[]),(e1:ρ (.tmp 26)=Value.agg #[vN za1,vU za2]),(e2:ρ (.tmp 31)=Value.agg #[vN zb1,vU zb2]),-⟩:=hk;refine Par.val_k fun K hK=> ?_;unfold Par.val
           (refine val_callvD enByName e0 ?_;simp only[List.map_toArray,List.map_cons,List.map_nil,e1,e2,Array.append_empty];refine(byName_any (za1,za2) (zb1,zb2) _ HLA.out.1 HLA.out.2 (TBx HT3.out hX)).mono ?_;rintro e w2 ⟨rfl,hE⟩;rw[HC.out];exact⟨_,rfl,hK _ _ ⟨hE,rfl⟩⟩)
         refine⟨⟨fun _ _ u hu=> .inl hu,fun ρ w' hX hG hk=> ?_⟩,?_⟩
         · obtain⟨(e0:ρ (.tmp 32)=Value.int IntKind.i64 c),(e1:ρ (Operand.const (Value.int IntKind.i64 0))=(Value.int IntKind.i64 0)),-⟩:=hk;refine Par.val_k fun K hK=> ?_;unfold Par.val
           (go_simp;exact hK _ _ ⟨Ext.refl _,rfl⟩)
         refine⟨⟨fun _ _=>trivial,fun _ _ _ _ hk=>Par.pv [(21,Value.bool true),(33,Value.bool b0)] hk (by kernel_rfl) ⟨Ext.refl _,rfl⟩⟩,?_⟩
         trivial
       intro a' w' inv
       have hX:=inv.ext
       have hq:=Par.donesI inv;simp only[Par.dones,Par.EQ,true_and,and_true] at hq
       clear inv
       simp only[List.filterMap_cons,List.filterMap_nil,Par.putAll,Act.put,List.setIfInBounds_toArray,List.set_cons_succ,List.set_cons_zero,hq]
       clear hq
       clear a'
       have HF2:=hid (HF.out.trans (Ext.fr hX))
       have HR2:=hid (hX.owns HR.out)
       have HEA2:Hid (EC w' a (j+1) (za1,za2)):=hid (by rw[HA.out];have:=(show RowC w' B g n cap e.toList from HR2.out).ec HES.out HJN.out;rw[HZA.out] at this;exact this)
       have HEB2:Hid (EC w' a j (zb1,zb2)):=hid (by rw[HA.out];have:=(show RowC w' B g n cap e.toList from HR2.out).ec HES.out (j:=j) (by have:=HJN.out;omega);rw[HZB.out] at this;exact this)
       clear hX HF HR HEA HEB HT3
       cases b0
       case false=>
        have HO3:Hid (insOuter ltC 0 n (k+1) e=D):=hid (by have:=HO.out;rw[HIN.out,HB0.out] at this;simpa using this)
        go_wp2
        go_roundw
        case rel=>exact⟨k+1,e,by omega,by omega,by go_num,HS,HR2,HO3,HL,HF2⟩
        case measure=>simp[intOf];omega
       case true=>
        have HO3:Hid (insOuter ltC 0 n (k+1) (insInner ltC 0 j (swp e (j+1) j))=D):=hid (by have:=HO.out;rw[HIN.out,HB0.out] at this;simpa using this)
        have HSW:Hid ((swp e (j+1) j).toList=(e.toList.set (j+1) (zb1,zb2)).set j (za1,za2)):=hid (by rw[swp_list e j (by rw[HS.out];exact HJN.out),HZA.out,HZB.out])
        have HSS:Hid ((swp e (j+1) j).size=n):=hid (by unfold swp;simpa using HS.out)
        have HLL:Hid (∀z∈(swp e (j+1) j).toList,z.1.length≤1048576):=hid (by
         intro z hz
         rw[HSW.out] at hz
         rcases List.mem_or_eq_of_mem_set hz with h1|rfl
         · rcases List.mem_or_eq_of_mem_set h1 with h2|rfl
           · exact HL.out z h2
           · exact HLA.out.2
         · exact HLA.out.1)
        go_wp2_with fail
        refine ParE.wp_region_e (l:=[_,_,_,_,_,_,_,_,_,_,_,_,_,_,_,_,_,_]) rfl (Rg.Ch [15,17] [] (SwQ w' B g n cap (j+1) e.toList (zb1,zb2) fun w4=>RowC w4 B g n cap ((e.toList.set (j+1) (zb1,zb2)).set j (za1,za2))∧Fr [g] w' w4)) (ParC.VC [ParC.EQ (Value.slice (some a) n cap),ParC.EQ (Value.int IntKind.i64 ((j:Int)+1)),ParC.EQ (Value.slice (some a) n cap),ParC.EQ (Value.int IntKind.i64 ((j:Int)+1)),ParC.EQ (Value.int IntKind.i64 (j:Int)),ParC.EQ (Value.slice (some a) n cap),ParC.EQ (Value.int IntKind.i64 ((j:Int)+1)),ParC.EQ (Value.int IntKind.i64 (j:Int)),ParC.EQ (Value.pointer (some (a.add (j*2)))),ParC.EQ (Value.agg #[vN zb1,vU zb2]),ParC.EQ (Value.slice (some a) n cap),ParC.EQ (Value.int IntKind.i64 ((j:Int)+1)),ParC.EQ (Value.pointer (some (a.add ((j+1)*2)))),ParC.EQ (Value.agg #[vN za1,vU za2]),ParC.EQ (Value.pointer (some (a.add ((j+1)*2)))),fun _=>True,ParC.EQ (Value.pointer (some (a.add (j*2)))),fun _=>True]) (by kernel_rfl) (by kernel_rfl) (Rg.Ch.start ⟨fun _=>Ext.draw _,trivial⟩) ?_ ?_
        · refine⟨fun L ρ w' hR hC hL hd hk=> ?_,?_⟩
          · exact Par.val_of_run rfl ⟨hR.other (by decide),hk.1⟩
          refine⟨fun L ρ w' hR hC hL hd hk=> ?_,?_⟩
          · exact Par.val_of_run rfl ⟨hR.other (by decide),hk.1⟩
          refine⟨fun L ρ w' hR hC hL hd hk=> ?_,?_⟩
          · exact Par.val_of_run rfl ⟨hR.other (by decide),hk.1⟩
          refine⟨fun L ρ w' hR hC hL hd hk=> ?_,?_⟩
          · exact Par.val_of_run rfl ⟨hR.other (by decide),hk.1⟩
          refine⟨fun L ρ w' hR hC hL hd hk=> ?_,?_⟩
          · obtain⟨(e0:ρ (.tmp 40)=Value.int IntKind.i64 ((j:Int)+1)),(e1:ρ (Operand.const (Value.int IntKind.i64 1))=(Value.int IntKind.i64 1)),-⟩:=hk;refine Par.val_k fun K hK=> ?_;unfold Par.val
            (have hwr:IntKind.i64.wrap (j:Int)=(j:Int):=IntWalk.i64_in _ (by omega);go_simp;exact hK _ _ ⟨hR.other (by decide),rfl⟩)
          refine⟨fun L ρ w' hR hC hL hd hk=> ?_,?_⟩
          · exact Par.val_of_run rfl ⟨hR.other (by decide),hk.1⟩
          refine⟨fun L ρ w' hR hC hL hd hk=> ?_,?_⟩
          · exact Par.val_of_run rfl ⟨hR.other (by decide),hk.1⟩
          refine⟨fun L ρ w' hR hC hL hd hk=> ?_,?_⟩
          · obtain⟨(e0:ρ (.tmp 43)=Value.int IntKind.i64 ((j:Int)+1)),(e1:ρ (Operand.const (Value.int IntKind.i64 1))=(Value.int IntKind.i64 1)),-⟩:=hk;refine Par.val_k fun K hK=> ?_;unfold Par.val
            (have hwr:IntKind.i64.wrap (j:Int)=(j:Int):=IntWalk.i64_in _ (by omega);go_simp;exact hK _ _ ⟨hR.other (by decide),rfl⟩)
          refine⟨fun L ρ w' hR hC hL hd hk=> ?_,?_⟩
          · obtain⟨(e0:ρ (.tmp 42)=Value.slice (some a) n cap),(e1:ρ (.tmp 44)=Value.int IntKind.i64 (j:Int)),-⟩:=hk;refine Par.val_k fun K hK=> ?_;unfold Par.val
            (go_simp;exact hK _ _ ⟨hR.other (by decide),rfl⟩)
          refine⟨fun L ρ w' hR hC hL hd hk=> ?_,?_⟩
          · obtain⟨(e0:ρ (.tmp 45)=Value.pointer (some (a.add (j*2)))),-⟩:=hk;refine Par.val_k fun K hK=> ?_;unfold Par.val
            (obtain⟨i,hi,hq⟩:=hR.some 0 rfl (hC.notyet 15 9 hL (by kernel_rfl));have hx:=hq.1 (by omega);have he:=HEB2.out;have cc0:=hx.cell he.c0;have cc1:=hx.cell he.c1;clear he;go_simp;exact hK _ _ ⟨hR.other (by decide),rfl⟩)
          refine⟨fun L ρ w' hR hC hL hd hk=> ?_,?_⟩
          · exact Par.val_of_run rfl ⟨hR.other (by decide),hk.1⟩
          refine⟨fun L ρ w' hR hC hL hd hk=> ?_,?_⟩
          · exact Par.val_of_run rfl ⟨hR.other (by decide),hk.1⟩
          refine⟨fun L ρ w' hR hC hL hd hk=> ?_,?_⟩
          · obtain⟨(e0:ρ (.tmp 47)=Value.slice (some a) n cap),(e1:ρ (.tmp 48)=Value.int IntKind.i64 ((j:Int)+1)),-⟩:=hk;refine Par.val_k fun K hK=> ?_;unfold Par.val
            (go_simp;exact hK _ _ ⟨hR.other (by decide),rfl⟩)
          refine⟨fun L ρ w' hR hC hL hd hk=> ?_,?_⟩
          · obtain⟨(e0:ρ (.tmp 49)=Value.pointer (some (a.add ((j+1)*2)))),-⟩:=hk;refine Par.val_k fun K hK=> ?_;unfold Par.val
            (obtain⟨i,hi,hq⟩:=hR.some 0 rfl (hC.notyet 15 13 hL (by kernel_rfl));have hx:=hq.1 (by omega);have he:=HEA2.out;have cc0:=hx.cell he.c0;have cc1:=hx.cell he.c1;clear he;go_simp;exact hK _ _ ⟨hR.other (by decide),rfl⟩)
          refine⟨fun L ρ w' hR hC hL hd hk=> ?_,?_⟩
          · obtain⟨(e0:ρ (.tmp 37)=Value.slice (some a) n cap),(e1:ρ (.tmp 38)=Value.int IntKind.i64 ((j:Int)+1)),-⟩:=hk;refine Par.val_k fun K hK=> ?_;unfold Par.val
            (go_simp;exact hK _ _ ⟨hR.other (by decide),rfl⟩)
          refine⟨fun L ρ w' hR hC hL hd hk=> ?_,?_⟩
          · obtain⟨(e0:ρ (.tmp 51)=Value.pointer (some (a.add ((j+1)*2)))),(e1:ρ (.tmp 46)=Value.agg #[vN zb1,vU zb2]),-⟩:=hk;refine Par.val_k fun K hK=> ?_;unfold Par.val
            (obtain⟨hq,hs⟩:=hR.go 0 rfl hL (.inl rfl) (by decide);have hx:=hq.1 (by decide);have hrow:RowC _ B g n cap e.toList:=hx.owns HR2.out;obtain⟨hset,hfs⟩:=hrow.set (by simp[HES.out]) (j:=j+1) (by have:=HJN.out;omega) (zb1,zb2);obtain⟨⟨u1,cc0⟩,ff0,⟨u2,cc2⟩,ff2⟩:=hrow.st (by simp[HES.out]) (j:=j+1) (by have:=HJN.out;omega) HA.out (vN (zb1,zb2).1);have hadr:Hid (a.add ((j+1)*2)=⟨g,(j+1)*2,none⟩):=hid (by rw[HA.out,addr0]);have hadr2:Hid ((⟨(a.add ((j+1)*2)).block,(a.add ((j+1)*2)).off+1,none⟩:Addr)=⟨g,(j+1)*2+1,none⟩):=hid (by rw[HA.out,addr0]);have HSET:=hid hset;have HFS:=hid hfs;clear hset hfs;go_simp;rw[hadr2.out,hadr.out];exact hK _ _ ⟨hs none _ _ ⟨fun h=>absurd h (by decide),HSET.out,(Ext.fr hx).trans HFS.out⟩,trivial⟩)
          refine⟨fun L ρ w' hR hC hL hd hk=> ?_,?_⟩
          · obtain⟨(e0:ρ (.tmp 39)=Value.slice (some a) n cap),(e1:ρ (.tmp 41)=Value.int IntKind.i64 (j:Int)),-⟩:=hk;refine Par.val_k fun K hK=> ?_;unfold Par.val
            (go_simp;exact hK _ _ ⟨hR.other (by decide),rfl⟩)
          refine⟨fun L ρ w' hR hC hL hd hk=> ?_,?_⟩
          · obtain⟨(e0:ρ (.tmp 52)=Value.pointer (some (a.add (j*2)))),(e1:ρ (.tmp 50)=Value.agg #[vN za1,vU za2]),-⟩:=hk;refine Par.val_k fun K hK=> ?_;unfold Par.val
            (obtain⟨hq,hs⟩:=hR.go 1 rfl hL (.inr ⟨15,rfl,hC.before 15 (i:=17) rfl hd (by kernel_rfl)⟩) (by decide);obtain⟨hrow,hfr⟩:=hq.2;obtain⟨hset,hfs⟩:=hrow.set (by simp[HES.out]) (j:=j) (by have:=HJN.out;omega) (za1,za2);obtain⟨⟨u1,cc0⟩,ff0,⟨u2,cc2⟩,ff2⟩:=hrow.st (by simp[HES.out]) (j:=j) (by have:=HJN.out;omega) HA.out (vN (za1,za2).1);have hadr:Hid (a.add ((j)*2)=⟨g,(j)*2,none⟩):=hid (by rw[HA.out,addr0]);have hadr2:Hid ((⟨(a.add ((j)*2)).block,(a.add ((j)*2)).off+1,none⟩:Addr)=⟨g,(j)*2+1,none⟩):=hid (by rw[HA.out,addr0]);have HSET:=hid hset;have HFS:=hid hfs;clear hset hfs;go_simp;rw[hadr2.out,hadr.out];exact hK _ _ ⟨hs none _ _ ⟨fun h=>absurd h (by decide),HSET.out,hfr.trans HFS.out⟩,trivial⟩)
          trivial
        intro a' w' inv hR
        have hq:=Par.donesC inv;simp only[Par.donesV,ParC.EQ,true_and,and_true] at hq
        clear inv
        simp only[List.filterMap_cons,List.filterMap_nil,Par.putAll,Act.put,List.setIfInBounds_toArray,List.set_cons_succ,List.set_cons_zero,hq]
        clear hq
        obtain⟨-,hrd,hf⟩:=Rg.Ch.fin hR (by decide) 2 rfl;have HRD:=hid hrd;have HF4:=hid hf;clear hrd hf hR
        try clear a'
        go_wp2
        go_roundw
        case rel=>exact⟨j,swp e (j+1) j,by have:=HJ.out;omega,by go_num,HSS,hid (by rw[HSW.out];exact HRD.out),HO3,HLL,hid (HF2.out.trans HF4.out)⟩
        case measure=>simp[intOf]
  · have HO2:Hid (d=D):=hid (by have:=HO.out;rw[insOuter,if_neg hlt] at this;exact this)
    go_wp2
    go_returns
    exact⟨⟨_,rfl⟩,by have:=HR.out;rw[HO2.out] at this;exact this,HF.out⟩
end Go.Proofs.YtcfgafododiioaaGreatDoor
