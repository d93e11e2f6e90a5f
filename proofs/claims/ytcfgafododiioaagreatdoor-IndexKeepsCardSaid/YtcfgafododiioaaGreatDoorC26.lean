/- Texts of a claim, side by side. -/
import Derived.Test.YtcfgafododiioaaGreatDoorC11
import Derived.Test.YtcfgafododiioaaGreatDoorC19
import Derived.Test.YtcfgafododiioaaGreatDoorC25
import Derived.Test.YtcfgafododiioaaGreatDoorC3
import Derived.Test.YtcfgafododiioaaGreatDoorC16
set_option linter.unusedSimpArgs false
set_option linter.unusedVariables false
namespace Go.Proofs.YtcfgafododiioaaGreatDoor
open Go Go.RowKit Go.Tum Go.ChangeMaps Go.Sort Go.Tum.Rn
open Go.ParB (upd Lof)
open Go.ParE (putS slotsR slots Closed)
theorem infoU64:(Tryz.prog.info? 36).map (fun i=>(i.zero,i.size,i.bytes))=some (some (.int .u64 0),1,8):=by kernel_rfl
theorem id_one (w:World) (e:Nat) (x:UInt64):Sl (w.alloc (.cells #[vU x] e (0,0))) 1 (.slice (some ⟨w.heap.size,0,none⟩) 1 1) 1 [vU x]:=by
 have hblk:=heap_alloc_new w (.cells #[vU x] e (0,0))
 refine⟨rfl,some ⟨w.heap.size,0,none⟩,1,rfl,Nat.le_refl _,by simp[maxLen],(fun h=>by cases h),fun a ha j u hu=> ?_⟩
 cases ha
 have e1:(⟨w.heap.size,0,none⟩:Addr).add j=⟨w.heap.size,j,none⟩:=by unfold Addr.add;split<;>simp_all
 rw[e1,cell_of_row _ _ _ _ _ _ hblk]
 simpa using hu
theorem take_ids {l:List (UInt64×UInt64)} {k:Nat} (h:k<l.length):((l.take (k+1)).map Prod.fst).map vU=((l.take k).map Prod.fst).map vU++[vU l[k].1]:=by
 rw[List.take_add_one,List.getElem?_eq_getElem h,Option.toList_some,List.map_append,List.map_append]
 rfl
theorem ids_keep {wr w9:World} {pb k:Nat} {v:Value} {xs:List Value} {o1 o2:Obj} (h:wr.ownsRow (pb+1) 36 1 v k xs) (f:Fr (oB v) ((wr.alloc o1).alloc o2) w9):
 (∀j o,wr.heap[j]? =some o→(j≤pb∨∀cs,o≠ .cells cs 36 (0,0))→w9.heap[j]? =some o)∧w9.heap[wr.heap.size]? =some o1:=by
 have key:∀j o,((wr.alloc o1).alloc o2).heap[j]? =some o→j∉oB v→w9.heap[j]? =some o:=fun j o hj hn=>(f.block j (Array.getElem?_eq_some_iff.1 hj).1 hn).trans hj
 refine⟨fun j o hj hc=>key j o ((Ext.alloc _ _).obj ((Ext.alloc _ _).obj hj)) (fun hq=> ?_),key _ _ ((Ext.alloc _ _).obj (heap_alloc_new wr o1)) (fun hq=> ?_)⟩
 · rcases hc with hc|hc
   · have:=row_lo h j hq;omega
   · obtain⟨cs,e⟩:=row_kind h j hq
     rw[hj] at e;cases e;exact hc _ rfl
 · obtain⟨cs,e⟩:=row_kind h _ hq
   have:=(Array.getElem?_eq_some_iff.1 e).1
   omega
def NxtP (w:World) (p mp ms:Nat) (ids:List UInt64) (err:Int) (s:PD) (e:Ending) (w':World):Prop:=
 (∃v,e= .returned (.tuple #[v,.int .i64 err])∧w'.ownsRow w.heap.size 36 1 v ids.length (ids.map vU))∧DD w' p mp ms s∧Fr [p,mp,ms] w w'
set_option maxRecDepth 100000 in
set_option maxHeartbeats 2000000 in
theorem dnext_any {w:World} {p mp ms:Nat} {s:PD} (name:Nm) (n:Int) (hn1: -9223372036854775808≤n) (hn2:n≤9223372036854775807) (h:DD w p mp ms s) (hw:WD s) (ht:TB w) (hl:name.length≤100000):
 Calls Tryz.prog 87 #[pv p,vN name,.int .i64 n] w fun e w'=>NxtP w p mp ms (nextD s name n).1 (nextD s name n).2.1 (nextD s name n).2.2 e w':=by
 have H:=hid h
 have HW:=hid hw
 have HT:=hid ht
 have HL:=hid hl
 obtain⟨x,hx⟩:∃x,foldL name=x:=⟨_,rfl⟩
 have HX:=hid hx
 have HXL:Hid (x.length≤400000):=hid (by rw[←hx];have:=fold_lenD name;omega)
 obtain⟨R,hR⟩:∃R,nextD s name n=R:=⟨_,rfl⟩
 have HR:=hid hR
 rw[hR]
 clear h hw ht hl hR
 go_enter Tryz.func87,Tryz.ntmps87
 go_wp2_with fail
 refine(fold_any name w (by have:=HL.out;omega) HT.out).mono ?_
 rintro e w1 ⟨rfl,hE1⟩
 have HE1:=hid hE1
 rw[hx]
 clear hE1 hx
 by_cases hlt:n<1
 · have HR2:Hid (R=([],1,s)):=hid (by rw[←HR.out];unfold nextD;rw[decide_eq_true hlt];rfl)
   go_wp2
   go_returns
   rw[HR2.out]
   exact⟨⟨_,rfl,World.ownsRow_nil _ _ _ _⟩,H.out.ext HE1.out,Ext.fr HE1.out⟩
 have hlf:decide (n<1)=false:=decide_eq_false hlt
 have HLF:=hid hlf
 go_wp2_with fail
 refine(right_any x w1 (by have:=HXL.out;omega)).mono ?_
 rintro e w2 ⟨rfl,hE2⟩
 have HE2:=hid (HE1.out.trans hE2)
 clear hE2 HE1
 cases hr:rightL x
 case false=>
  have HR2:Hid (R=([],1,s)):=hid (by rw[←HR.out];unfold nextD;rw[HX.out,hr,hlf];rfl)
  clear hr
  go_wp2
  go_returns
  rw[HR2.out]
  exact⟨⟨_,rfl,World.ownsRow_nil _ _ _ _⟩,H.out.ext HE2.out,Ext.fr HE2.out⟩
 have HRT:=hid hr
 have HD2:=hid (H.out.ext HE2.out)
 obtain⟨-,c1,c2,-⟩:=lk3D HD2.out.hd
 obtain⟨l,hl,pl⟩:=HD2.out.sm
 have hlk:=hl.look_ok Tryz.underlying184 x (by have:=HXL.out;simp[maxLen];omega)
 rw[perm_lookup pl HD2.out.ns] at hlk
 have hle:∀o,(Builtin.len_ #[184] 3 #[.map (some ms)]).run Tryz.prog (w2.alloc o)= .ok (.int .i64 (s.seen.length:Nat)) (w2.alloc o):=fun o=>by
  rw[(hl.ext (Ext.alloc w2 o)).len Tryz.underlying184,pl.length_eq]
 obtain⟨pl0,hpl0⟩:∃b,(s.seen.lookup x).getD 0=b:=⟨_,rfl⟩
 have HPL:=hid hpl0
 rw[hpl0] at hlk
 obtain⟨kn,hkn⟩:∃b,(s.seen.lookup x).isSome=b:=⟨_,rfl⟩
 have HKN:=hid hkn
 rw[hkn] at hlk
 have cm:∀o,(w2.alloc o).cell? ⟨p,2,none⟩=some (.map (some ms)):=fun o=>(Ext.alloc w2 o).cell c2
 have HB:=hid (heap_alloc_new w2 (.cells #[vU pl0] 36 (0,0)))
 clear hl pl hr hpl0 hkn c1
 have HD3:=hid (HD2.out.ext (Ext.alloc w2 (.cells #[vU pl0] 36 (0,0))))
 have HE3:=hid (HE2.out.trans (Ext.alloc w2 (.cells #[vU pl0] 36 (0,0))))
 have HPB:Hid (w.heap.size≤w2.heap.size∧w2.heap.size<(w2.alloc (.cells #[vU pl0] 36 (0,0))).heap.size):=hid ⟨HE2.out.size,by simp⟩
 cases kn
 case false=>
  by_cases h8:8≤s.seen.length
  · have HR2:Hid (R=([],4,s)):=hid (by
     rw[←HR.out];unfold nextD
     rw[HX.out,HRT.out,HLF.out,decide_eq_true h8]
     have:(s.seen.lookup x).isNone=true:=by have:=HKN.out;cases hq:s.seen.lookup x<;>simp_all
     rw[this];rfl)
    have h8':decide ((8:Int)≤(s.seen.length:Int))=true:=by simp;omega
    go_wp2
    go_returns
    rw[HR2.out]
    exact⟨⟨_,rfl,World.ownsRow_nil _ _ _ _⟩,(H.out.ext HE2.out).ext (Ext.alloc _ _),Ext.fr (HE2.out.trans (Ext.alloc _ _))⟩
  · have h8':decide ((8:Int)≤(s.seen.length:Int))=false:=by simp;omega
    go_wp2_with fail
    clear hlk hle cm c2
    generalize w2.alloc (.cells #[vU pl0] 36 (0,0))=W1 at*
    obtain⟨pb,hpb⟩:∃b,w2.heap.size=b:=⟨_,rfl⟩
    rw[hpb] at HB HPB⊢
    clear hpb HE2 HD2
    refine(dwhich_any (fun z=>decide (pl0<z.2)) 140 #[pv pb] HD3.out enNext (fun w2 hx z=>next1_any z pl0 pb w2 (hx.cell (lk1 HB.out).1))).mono ?_
    rintro e w3 ⟨⟨v,rfl,ho⟩,hE4⟩
    rw[HW.out.sorted] at ho
    obtain⟨rows,hrows⟩:∃r,s.rows.filter (fun z=>decide (pl0<z.2))=r:=⟨_,rfl⟩
    rw[hrows] at ho
    have HROWS:=hid hrows
    clear hrows
    obtain⟨ao,cap,rfl⟩:=row_shape ho
    have HO:=hid ho
    have HD4:=hid (HD3.out.ext hE4)
    have HE4:=hid (HE3.out.trans hE4)
    have HB4:=hid (hE4.obj HB.out)
    clear ho hE4 HD3 HE3
    obtain⟨m,hm⟩:∃m:Nat,min n (rows.length:Int)=(m:Int):=⟨(min n (rows.length:Int)).toNat,by omega⟩
    have hcap:rows.length≤cap:=by
     rcases HO.out.2 with ⟨hv,h0⟩|⟨g,c,cur,hv,hb,hgg,h1,-⟩
     · omega
     · cases hv;exact h1
    have hmn:m≤rows.length:=by omega
    have hmc:(m:Int)≤(cap:Int):=by omega
    have hm0:(0:Int)≤(m:Int):=by omega
    have HM:Hid (m=min n.toNat rows.length):=hid (by omega)
    have HMN:=hid hmn
    clear hcap
    go_wp2
    clear hm hm0 hmc
    go_loopw [11,52] (fun v i wr=>∃(k:Nat) (a2:Option Addr) (c2:Nat),k≤m∧i= .int .i64 (k:Int)∧v= .slice a2 k c2∧
     Hid (wr.ownsRow (pb+1) 36 1 (.slice a2 k c2) k (((rows.take k).map Prod.fst).map vU))∧Hid (wr.heap[pb]? =some (.cells #[vU (lastP pl0 (rows.take k))] 36 (0,0)))∧
     Hid (wr.ownsRow W1.heap.size 96 2 (.slice ao rows.length cap) rows.length (rows.flatMap encR))∧Hid (Ext w wr)∧Hid (DD wr p mp ms s)) (fun _ i _=>m - (intOf i).toNat)
    case atStart=>exact⟨0,none,0,by omega,rfl,rfl,hid (World.ownsRow_nil _ _ _ _),HB4,HO,HE4,HD4⟩
    case round=>
     clear HO HD4 HE4 HB4
     obtain⟨k,a2,c2,hk,rfl,rfl,HI,HB5,HO,HE5,HD5⟩:=hrel
     by_cases hkm:k<m
     · have hki:(k:Int)<m:=by omega
       obtain⟨g,hg⟩:∃g,ao=some ⟨g,0,none⟩:=by
        rcases HO.out.2 with ⟨hv,h0⟩|⟨g,c,cur,hv,hb,hgg,h1,-⟩
        · omega
        · cases hv;exact⟨g,rfl⟩
       subst hg
       have hkr:k<rows.length:=by omega
       have hfl:(rows.flatMap encR).length=rows.length*2:=HO.out.1
       obtain⟨g0,g1⟩:=flat2_get (A:=fun z:UInt64×UInt64=>vU z.1) (Bf:=fun z=>vU z.2) rows k hkr
       have r0:=World.ownsRow.cellAt HO.out (k*2) (by omega)
       have r1:=World.ownsRow.cellAt HO.out (k*2+1) (by omega)
       rw[g0] at r0
       rw[g1] at r1
       have hlast:=lastP_take (pl:=pl0) hkr
       have htake:((rows.take (k+1)).map Prod.fst).map vU=((rows.take k).map Prod.fst).map vU++[vU rows[k].1]:=take_ids hkr
       obtain⟨z,hz⟩:∃z,rows[k]=z:=⟨_,rfl⟩
       rw[hz] at r0 r1 hlast htake
       obtain⟨z1,z2⟩:=z
       have HLAST:=hid hlast
       have HTAKE:=hid htake
       have HKR:=hid hkr
       have hbx:=heap_alloc_new wr (.cells #[vU z1,vU z2] 96 (0,0))
       have HBX:=hid hbx
       obtain⟨q0,q1,-⟩:=lk2 hbx
       have hsl:=id_one (wr.alloc (.cells #[vU z1,vU z2] 96 (0,0))) 36 z1
       rw[World.size_alloc] at hsl
       have HSL1:=hid hsl
       clear hsl
       have hn5:k+1≤100000:=by have h1:=HROWS.out;have h2:=H.out.lr;have h3:=List.length_filter_le (fun z:UInt64×UInt64=>decide (pl0<z.2)) s.rows;rw[h1] at h3;omega
       clear g0 g1 hfl hlast htake hz hbx
       go_wp2_with (at_builtin;refine wpList_append_slN rfl (.tmp 56) (.tmp 59) 47 rfl (pb+1) 36 Tryz.underlying47 infoU64 rfl (by decide) rfl ((Ext.alloc _ _).owns ((Ext.alloc _ _).owns HI.out)) rfl HSL1.out (by intro y hy;simp at hy;rcases hy with rfl;rfl) (k+1) rfl (by simp[maxLen];omega) (by omega) (by have:=(Array.getElem?_eq_some_iff.1 HB5.out).1;simp;omega) ?_;intro ao3 cap3 w9 hO3 hg3 hb3;have HI3:=hid hO3;have HF3:=hid hg3;obtain⟨hk1,hk2⟩:=ids_keep HI.out hg3;obtain⟨-,q2,-⟩:=lk2 hk2;have hp9:=hk1 pb _ HB5.out (.inl (Nat.le_refl _));have HP9:=hid hp9;obtain⟨pc,pf⟩:=lk1 hp9;clear hO3 hg3 hb3 hk1 hk2 hp9 q0 q1 r0 r1)
       clear q2 pc pf
       have hlo:∀q∈oB (.slice a2 k c2),pb+1≤q:=row_lo HI.out
       have hlt:=H.out.lt
       have hpb:=HPB.out
       have HE9:Hid (Ext w w9):=hid (Below.trans (HE5.out.trans ((Ext.alloc _ _).trans (Ext.alloc _ _))) (HF3.out.below (fun q hq=>by have:=hlo q hq;omega) ((HE5.out.trans ((Ext.alloc _ _).trans (Ext.alloc _ _))).size)))
       have HD9:Hid (DD w9 p mp ms s):=hid (((HD5.out.ext (Ext.alloc _ _)).ext (Ext.alloc _ _)).fr HF3.out (fun hq=>by have:=hlo _ hq;omega) (fun hq=>by have:=hlo _ hq;omega) (fun hq=>by have:=hlo _ hq;omega))
       have HO9:Hid (w9.ownsRow W1.heap.size 96 2 (.slice (some ⟨g,0,none⟩) rows.length cap) rows.length (rows.flatMap encR)):=hid (ownsRow_fr ((Ext.alloc _ _).owns ((Ext.alloc _ _).owns HO.out)) HF3.out (fun q h1 h2=>by
        obtain⟨c1,e1⟩:=row_kind HO.out q h1
        obtain⟨c2,e2⟩:=row_kind HI.out q h2
        rw[e1] at e2;cases e2))
       have hfs:Fr [pb] w9 (w9.setCell ⟨pb,0,none⟩ (vU z2)):=fr_setCell _ _ _ (by simp)
       go_roundw
       case rel=>
        refine⟨k+1,ao3,cap3,by omega,by simp,rfl,hid ?_,hid ?_,hid ?_,hid ?_,hid ?_⟩
        · rw[HTAKE.out]
          exact ownsRow_fr HI3.out hfs (fun q h1 h2=>by have h3:=row_lo HI3.out q h1;simp at h2;omega)
        · rw[HLAST.out]
          exact block_set HP9.out 0 _
        · refine ownsRow_fr HO9.out hfs (fun q h1 h2=> ?_)
          obtain⟨c1,e1⟩:=row_kind HO9.out q h1
          obtain rfl:q=pb:=by simpa using h2
          rw[HP9.out] at e1;cases e1
        · exact Below.trans HE9.out (hfs.below (by simp;omega) HE9.out.size)
        · exact HD9.out.fr hfs (by simp;omega) (by simp;omega) (by simp;omega)
       case measure=>
        show m - ((k:Int)+1).toNat<m - ((k:Int)).toNat
        omega
     · have hkf:decide ((k:Int)<(m:Int))=false:=by simp;omega
       obtain rfl:k=m:=by omega
       have HNX:Hid (R=((rows.take k).map Prod.fst,0,{s with seen:=insN s.seen (x,lastP pl0 (rows.take k))})):=hid (by
        have htk:tookR s x n=rows.take k:=by
         unfold tookR
         rw[HPL.out,HROWS.out,HM.out,←List.take_eq_take_min]
        rw[←HR.out];unfold nextD
        rw[HX.out,HRT.out,HLF.out,HPL.out,htk]
        have:((s.seen.lookup x).isNone && decide (8≤s.seen.length))=false:=by rw[decide_eq_false h8,Bool.and_false]
        rw[this];rfl)
       have HLN:Hid ((rows.take k).length=k):=hid (by rw[List.length_take];have:=HMN.out;omega)
       obtain⟨PLC,hL0⟩:∃PLC,lastP pl0 (rows.take k)=PLC:=⟨_,rfl⟩
       rw[hL0] at HB5 HNX
       clear hL0
       go_wp2_with fail
       have HPM:Hid ((insN s.seen (x,PLC)).Perm ((x,PLC)::noK s.seen x)):=hid (insN_perm (fun z hz=>(HW.out.sr z hz).1) (c:=(x,PLC)) HRT.out)
       refine ParE.wp_region_e (l:=[_,_,_,_,_,_,_]) rfl (Rg.Ch [6] [] (OneQ wr fun w'=>DD w' p mp ms {s with seen:=insN s.seen (x,PLC)}∧Fr [ms] wr w')) (ParC.VC [ParC.EQ (pv p),ParC.EQ (pv p),ParC.EQ (Value.pointer (some ⟨p,2,none⟩)),ParC.EQ (Value.map (some ms)),ParC.EQ (vN x),ParC.EQ (vU PLC),fun _=>True]) (by kernel_rfl) (by kernel_rfl) (Rg.Ch.start ⟨fun _=>Ext.draw _,trivial⟩) ?_ ?_
       · refine⟨fun L ρ w' hR hC hL hd hk=> ?_,?_⟩
         · exact Par.val_of_run rfl ⟨hR.other (by decide),hk.1⟩
         refine⟨fun L ρ w' hR hC hL hd hk=> ?_,?_⟩
         · obtain⟨(e0:ρ (.tmp 64)=pv p),-⟩:=hk;refine Par.val_k fun K hK=> ?_;unfold Par.val
           (go_simp;exact hK _ _ ⟨hR.other (by decide),rfl⟩)
         refine⟨fun _ _ _ hR _ _ _ hk=>Par.pv [(65,pv p)] hk (by kernel_rfl) ⟨hR.other (by decide),rfl⟩,?_⟩
         refine⟨fun L ρ w' hR hC hL hd hk=> ?_,?_⟩
         · obtain⟨(e0:ρ (.tmp 66)=Value.pointer (some ⟨p,2,none⟩)),-⟩:=hk;refine Par.val_k fun K hK=> ?_;unfold Par.val
           (obtain⟨i,hi,hq⟩:=hR.some 0 rfl (hC.notyet 6 3 hL (by kernel_rfl));have cc:=(lk3D (HD5.out.ext (hq.1 (by omega))).hd).2.2.1;go_simp;exact hK _ _ ⟨hR.other (by decide),rfl⟩)
         refine⟨fun L ρ w' hR hC hL hd hk=> ?_,?_⟩
         · exact Par.val_of_run rfl ⟨hR.other (by decide),hk.1⟩
         refine⟨fun L ρ w' hR hC hL hd hk=> ?_,?_⟩
         · obtain⟨(e0:ρ (.tmp 8)=pv pb),-⟩:=hk;refine Par.val_k fun K hK=> ?_;unfold Par.val
           (obtain⟨i,hi,hq⟩:=hR.some 0 rfl (hC.notyet 6 5 hL (by kernel_rfl));have cc:=(lk1 ((hq.1 (by omega)).obj HB5.out)).1;go_simp;exact hK _ _ ⟨hR.other (by decide),rfl⟩)
         refine⟨fun L ρ w' hR hC hL hd hk=> ?_,?_⟩
         · obtain⟨(e0:ρ (.tmp 67)=Value.map (some ms)),(e1:ρ (.tmp 68)=vN x),(e2:ρ (.tmp 69)=vU PLC),-⟩:=hk;refine Par.val_k fun K hK=> ?_;unfold Par.val
           (obtain⟨hq,hs⟩:=hR.go 0 rfl hL (.inl rfl) (by decide);have hx:=hq.1 (by decide);have hD:=HD5.out.ext hx;obtain⟨l9,hl9,pl9⟩:=hD.sm;obtain⟨w4,hrun,hl4,ht4⟩:=hl9.store Tryz.underlying184 (by have:=pl9.length_eq;have:=HW.out.s8;omega) (perm_nodup pl9 hD.ns) x (by have:=HXL.out;simp[maxLen];omega) PLC;have hF4:=fr_turned (S:=[ms]) ht4 (by simp);have hres:Hid (DD w4 p mp ms {s with seen:=insN s.seen (x,PLC)}∧Fr [ms] wr w4):=hid ⟨⟨(hF4.block p hD.lt.1 (by simpa using hD.ps)).trans hD.hd,(by obtain⟨k7,hk7,pk7⟩:=hD.rm;exact⟨k7,hk7.fr hF4 (by simpa using hD.ne),pk7⟩),⟨_,hl4,((perm_noK pl9 x).cons _).trans HPM.out.symm⟩,hD.ne,hD.nr,(by have h7:=((HPM.out.map Prod.fst).nodup_iff);rw[h7,List.map_cons,List.nodup_cons];exact⟨not_mem_noK,noK_nodup hD.ns x⟩),hD.lr,(by have h8:=HPM.out.length_eq;have h9:=noK_len s.seen x;have h10:=HW.out.s8;rw[List.length_cons] at h8;dsimp only at h8⊢;omega)⟩,(Ext.fr hx).trans hF4⟩;clear hl4 ht4 hF4 pl9 hl9 hD;go_simp;exact hK _ _ ⟨hs none _ _ ⟨fun h=>absurd h (by decide),hres.out⟩,trivial⟩)
         trivial
       intro a' w' inv hR
       have hq:=Par.donesC inv;simp only[Par.donesV,ParC.EQ,true_and,and_true] at hq
       clear inv
       simp only[List.filterMap_cons,List.filterMap_nil,Par.putAll,Act.put,List.setIfInBounds_toArray,List.set_cons_succ,List.set_cons_zero,hq]
       clear hq
       obtain⟨-,hrd,hf⟩:=Rg.Ch.fin hR (by decide) 1 rfl;have HRD:=hid hrd;have HF:=hid hf;clear hrd hf hR
       try clear a'
       go_wp2
       go_returns
       rw[HNX.out]
       have hpb:=HPB.out
       refine⟨⟨_,rfl,?_⟩,HRD.out,(Ext.fr HE5.out).trans (HF.out.mono (by simp))⟩
       have hI:=ownsRow_fr HI.out HF.out (fun q h1 h2=>by
        have h3:=row_lo HI.out q h1
        obtain rfl:q=ms:=by simpa using h2
        have:=H.out.lt;omega)
       exact owns_mono (by rw[List.length_map,HLN.out];exact hI) (by omega)
 case true=>
  go_wp2_with fail
  clear hlk hle cm c2
  generalize w2.alloc (.cells #[vU pl0] 36 (0,0))=W1 at*
  obtain⟨pb,hpb⟩:∃b,w2.heap.size=b:=⟨_,rfl⟩
  rw[hpb] at HB HPB⊢
  clear hpb HE2 HD2
  refine(dwhich_any (fun z=>decide (pl0<z.2)) 140 #[pv pb] HD3.out enNext (fun w2 hx z=>next1_any z pl0 pb w2 (hx.cell (lk1 HB.out).1))).mono ?_
  rintro e w3 ⟨⟨v,rfl,ho⟩,hE4⟩
  rw[HW.out.sorted] at ho
  obtain⟨rows,hrows⟩:∃r,s.rows.filter (fun z=>decide (pl0<z.2))=r:=⟨_,rfl⟩
  rw[hrows] at ho
  have HROWS:=hid hrows
  clear hrows
  obtain⟨ao,cap,rfl⟩:=row_shape ho
  have HO:=hid ho
  have HD4:=hid (HD3.out.ext hE4)
  have HE4:=hid (HE3.out.trans hE4)
  have HB4:=hid (hE4.obj HB.out)
  clear ho hE4 HD3 HE3
  obtain⟨m,hm⟩:∃m:Nat,min n (rows.length:Int)=(m:Int):=⟨(min n (rows.length:Int)).toNat,by omega⟩
  have hcap:rows.length≤cap:=by
   rcases HO.out.2 with ⟨hv,h0⟩|⟨g,c,cur,hv,hb,hgg,h1,-⟩
   · omega
   · cases hv;exact h1
  have hmn:m≤rows.length:=by omega
  have hmc:(m:Int)≤(cap:Int):=by omega
  have hm0:(0:Int)≤(m:Int):=by omega
  have HM:Hid (m=min n.toNat rows.length):=hid (by omega)
  have HMN:=hid hmn
  clear hcap
  go_wp2
  clear hm hm0 hmc
  go_loopw [11,52] (fun v i wr=>∃(k:Nat) (a2:Option Addr) (c2:Nat),k≤m∧i= .int .i64 (k:Int)∧v= .slice a2 k c2∧
   Hid (wr.ownsRow (pb+1) 36 1 (.slice a2 k c2) k (((rows.take k).map Prod.fst).map vU))∧Hid (wr.heap[pb]? =some (.cells #[vU (lastP pl0 (rows.take k))] 36 (0,0)))∧
   Hid (wr.ownsRow W1.heap.size 96 2 (.slice ao rows.length cap) rows.length (rows.flatMap encR))∧Hid (Ext w wr)∧Hid (DD wr p mp ms s)) (fun _ i _=>m - (intOf i).toNat)
  case atStart=>exact⟨0,none,0,by omega,rfl,rfl,hid (World.ownsRow_nil _ _ _ _),HB4,HO,HE4,HD4⟩
  case round=>
   clear HO HD4 HE4 HB4
   obtain⟨k,a2,c2,hk,rfl,rfl,HI,HB5,HO,HE5,HD5⟩:=hrel
   by_cases hkm:k<m
   · have hki:(k:Int)<m:=by omega
     obtain⟨g,hg⟩:∃g,ao=some ⟨g,0,none⟩:=by
      rcases HO.out.2 with ⟨hv,h0⟩|⟨g,c,cur,hv,hb,hgg,h1,-⟩
      · omega
      · cases hv;exact⟨g,rfl⟩
     subst hg
     have hkr:k<rows.length:=by omega
     have hfl:(rows.flatMap encR).length=rows.length*2:=HO.out.1
     obtain⟨g0,g1⟩:=flat2_get (A:=fun z:UInt64×UInt64=>vU z.1) (Bf:=fun z=>vU z.2) rows k hkr
     have r0:=World.ownsRow.cellAt HO.out (k*2) (by omega)
     have r1:=World.ownsRow.cellAt HO.out (k*2+1) (by omega)
     rw[g0] at r0
     rw[g1] at r1
     have hlast:=lastP_take (pl:=pl0) hkr
     have htake:((rows.take (k+1)).map Prod.fst).map vU=((rows.take k).map Prod.fst).map vU++[vU rows[k].1]:=take_ids hkr
     obtain⟨z,hz⟩:∃z,rows[k]=z:=⟨_,rfl⟩
     rw[hz] at r0 r1 hlast htake
     obtain⟨z1,z2⟩:=z
     have HLAST:=hid hlast
     have HTAKE:=hid htake
     have HKR:=hid hkr
     have hbx:=heap_alloc_new wr (.cells #[vU z1,vU z2] 96 (0,0))
     have HBX:=hid hbx
     obtain⟨q0,q1,-⟩:=lk2 hbx
     have hsl:=id_one (wr.alloc (.cells #[vU z1,vU z2] 96 (0,0))) 36 z1
     rw[World.size_alloc] at hsl
     have HSL1:=hid hsl
     clear hsl
     have hn5:k+1≤100000:=by have h1:=HROWS.out;have h2:=H.out.lr;have h3:=List.length_filter_le (fun z:UInt64×UInt64=>decide (pl0<z.2)) s.rows;rw[h1] at h3;omega
     clear g0 g1 hfl hlast htake hz hbx
     go_wp2_with (at_builtin;refine wpList_append_slN rfl (.tmp 56) (.tmp 59) 47 rfl (pb+1) 36 Tryz.underlying47 infoU64 rfl (by decide) rfl ((Ext.alloc _ _).owns ((Ext.alloc _ _).owns HI.out)) rfl HSL1.out (by intro y hy;simp at hy;rcases hy with rfl;rfl) (k+1) rfl (by simp[maxLen];omega) (by omega) (by have:=(Array.getElem?_eq_some_iff.1 HB5.out).1;simp;omega) ?_;intro ao3 cap3 w9 hO3 hg3 hb3;have HI3:=hid hO3;have HF3:=hid hg3;obtain⟨hk1,hk2⟩:=ids_keep HI.out hg3;obtain⟨-,q2,-⟩:=lk2 hk2;have hp9:=hk1 pb _ HB5.out (.inl (Nat.le_refl _));have HP9:=hid hp9;obtain⟨pc,pf⟩:=lk1 hp9;clear hO3 hg3 hb3 hk1 hk2 hp9 q0 q1 r0 r1)
     clear q2 pc pf
     have hlo:∀q∈oB (.slice a2 k c2),pb+1≤q:=row_lo HI.out
     have hlt:=H.out.lt
     have hpb:=HPB.out
     have HE9:Hid (Ext w w9):=hid (Below.trans (HE5.out.trans ((Ext.alloc _ _).trans (Ext.alloc _ _))) (HF3.out.below (fun q hq=>by have:=hlo q hq;omega) ((HE5.out.trans ((Ext.alloc _ _).trans (Ext.alloc _ _))).size)))
     have HD9:Hid (DD w9 p mp ms s):=hid (((HD5.out.ext (Ext.alloc _ _)).ext (Ext.alloc _ _)).fr HF3.out (fun hq=>by have:=hlo _ hq;omega) (fun hq=>by have:=hlo _ hq;omega) (fun hq=>by have:=hlo _ hq;omega))
     have HO9:Hid (w9.ownsRow W1.heap.size 96 2 (.slice (some ⟨g,0,none⟩) rows.length cap) rows.length (rows.flatMap encR)):=hid (ownsRow_fr ((Ext.alloc _ _).owns ((Ext.alloc _ _).owns HO.out)) HF3.out (fun q h1 h2=>by
      obtain⟨c1,e1⟩:=row_kind HO.out q h1
      obtain⟨c2,e2⟩:=row_kind HI.out q h2
      rw[e1] at e2;cases e2))
     have hfs:Fr [pb] w9 (w9.setCell ⟨pb,0,none⟩ (vU z2)):=fr_setCell _ _ _ (by simp)
     go_roundw
     case rel=>
      refine⟨k+1,ao3,cap3,by omega,by simp,rfl,hid ?_,hid ?_,hid ?_,hid ?_,hid ?_⟩
      · rw[HTAKE.out]
        exact ownsRow_fr HI3.out hfs (fun q h1 h2=>by have h3:=row_lo HI3.out q h1;simp at h2;omega)
      · rw[HLAST.out]
        exact block_set HP9.out 0 _
      · refine ownsRow_fr HO9.out hfs (fun q h1 h2=> ?_)
        obtain⟨c1,e1⟩:=row_kind HO9.out q h1
        obtain rfl:q=pb:=by simpa using h2
        rw[HP9.out] at e1;cases e1
      · exact Below.trans HE9.out (hfs.below (by simp;omega) HE9.out.size)
      · exact HD9.out.fr hfs (by simp;omega) (by simp;omega) (by simp;omega)
     case measure=>
      show m - ((k:Int)+1).toNat<m - ((k:Int)).toNat
      omega
   · have hkf:decide ((k:Int)<(m:Int))=false:=by simp;omega
     obtain rfl:k=m:=by omega
     have HNX:Hid (R=((rows.take k).map Prod.fst,0,{s with seen:=insN s.seen (x,lastP pl0 (rows.take k))})):=hid (by
      have htk:tookR s x n=rows.take k:=by
       unfold tookR
       rw[HPL.out,HROWS.out,HM.out,←List.take_eq_take_min]
      rw[←HR.out];unfold nextD
      rw[HX.out,HRT.out,HLF.out,HPL.out,htk]
      have:((s.seen.lookup x).isNone && decide (8≤s.seen.length))=false:=by have:=HKN.out;cases hq:s.seen.lookup x<;>simp_all
      rw[this];rfl)
     have HLN:Hid ((rows.take k).length=k):=hid (by rw[List.length_take];have:=HMN.out;omega)
     obtain⟨PLC,hL0⟩:∃PLC,lastP pl0 (rows.take k)=PLC:=⟨_,rfl⟩
     rw[hL0] at HB5 HNX
     clear hL0
     go_wp2_with fail
     have HPM:Hid ((insN s.seen (x,PLC)).Perm ((x,PLC)::noK s.seen x)):=hid (insN_perm (fun z hz=>(HW.out.sr z hz).1) (c:=(x,PLC)) HRT.out)
     refine ParE.wp_region_e (l:=[_,_,_,_,_,_,_]) rfl (Rg.Ch [6] [] (OneQ wr fun w'=>DD w' p mp ms {s with seen:=insN s.seen (x,PLC)}∧Fr [ms] wr w')) (ParC.VC [ParC.EQ (pv p),ParC.EQ (pv p),ParC.EQ (Value.pointer (some ⟨p,2,none⟩)),ParC.EQ (Value.map (some ms)),ParC.EQ (vN x),ParC.EQ (vU PLC),fun _=>True]) (by kernel_rfl) (by kernel_rfl) (Rg.Ch.start ⟨fun _=>Ext.draw _,trivial⟩) ?_ ?_
     · refine⟨fun L ρ w' hR hC hL hd hk=> ?_,?_⟩
       · exact Par.val_of_run rfl ⟨hR.other (by decide),hk.1⟩
       refine⟨fun L ρ w' hR hC hL hd hk=> ?_,?_⟩
       · obtain⟨(e0:ρ (.tmp 64)=pv p),-⟩:=hk;refine Par.val_k fun K hK=> ?_;unfold Par.val
         (go_simp;exact hK _ _ ⟨hR.other (by decide),rfl⟩)
       refine⟨fun _ _ _ hR _ _ _ hk=>Par.pv [(65,pv p)] hk (by kernel_rfl) ⟨hR.other (by decide),rfl⟩,?_⟩
       refine⟨fun L ρ w' hR hC hL hd hk=> ?_,?_⟩
       · obtain⟨(e0:ρ (.tmp 66)=Value.pointer (some ⟨p,2,none⟩)),-⟩:=hk;refine Par.val_k fun K hK=> ?_;unfold Par.val
         (obtain⟨i,hi,hq⟩:=hR.some 0 rfl (hC.notyet 6 3 hL (by kernel_rfl));have cc:=(lk3D (HD5.out.ext (hq.1 (by omega))).hd).2.2.1;go_simp;exact hK _ _ ⟨hR.other (by decide),rfl⟩)
       refine⟨fun L ρ w' hR hC hL hd hk=> ?_,?_⟩
       · exact Par.val_of_run rfl ⟨hR.other (by decide),hk.1⟩
       refine⟨fun L ρ w' hR hC hL hd hk=> ?_,?_⟩
       · obtain⟨(e0:ρ (.tmp 8)=pv pb),-⟩:=hk;refine Par.val_k fun K hK=> ?_;unfold Par.val
         (obtain⟨i,hi,hq⟩:=hR.some 0 rfl (hC.notyet 6 5 hL (by kernel_rfl));have cc:=(lk1 ((hq.1 (by omega)).obj HB5.out)).1;go_simp;exact hK _ _ ⟨hR.other (by decide),rfl⟩)
       refine⟨fun L ρ w' hR hC hL hd hk=> ?_,?_⟩
       · obtain⟨(e0:ρ (.tmp 67)=Value.map (some ms)),(e1:ρ (.tmp 68)=vN x),(e2:ρ (.tmp 69)=vU PLC),-⟩:=hk;refine Par.val_k fun K hK=> ?_;unfold Par.val
         (obtain⟨hq,hs⟩:=hR.go 0 rfl hL (.inl rfl) (by decide);have hx:=hq.1 (by decide);have hD:=HD5.out.ext hx;obtain⟨l9,hl9,pl9⟩:=hD.sm;obtain⟨w4,hrun,hl4,ht4⟩:=hl9.store Tryz.underlying184 (by have:=pl9.length_eq;have:=HW.out.s8;omega) (perm_nodup pl9 hD.ns) x (by have:=HXL.out;simp[maxLen];omega) PLC;have hF4:=fr_turned (S:=[ms]) ht4 (by simp);have hres:Hid (DD w4 p mp ms {s with seen:=insN s.seen (x,PLC)}∧Fr [ms] wr w4):=hid ⟨⟨(hF4.block p hD.lt.1 (by simpa using hD.ps)).trans hD.hd,(by obtain⟨k7,hk7,pk7⟩:=hD.rm;exact⟨k7,hk7.fr hF4 (by simpa using hD.ne),pk7⟩),⟨_,hl4,((perm_noK pl9 x).cons _).trans HPM.out.symm⟩,hD.ne,hD.nr,(by have h7:=((HPM.out.map Prod.fst).nodup_iff);rw[h7,List.map_cons,List.nodup_cons];exact⟨not_mem_noK,noK_nodup hD.ns x⟩),hD.lr,(by have h8:=HPM.out.length_eq;have h9:=noK_len s.seen x;have h10:=HW.out.s8;rw[List.length_cons] at h8;dsimp only at h8⊢;omega)⟩,(Ext.fr hx).trans hF4⟩;clear hl4 ht4 hF4 pl9 hl9 hD;go_simp;exact hK _ _ ⟨hs none _ _ ⟨fun h=>absurd h (by decide),hres.out⟩,trivial⟩)
       trivial
     intro a' w' inv hR
     have hq:=Par.donesC inv;simp only[Par.donesV,ParC.EQ,true_and,and_true] at hq
     clear inv
     simp only[List.filterMap_cons,List.filterMap_nil,Par.putAll,Act.put,List.setIfInBounds_toArray,List.set_cons_succ,List.set_cons_zero,hq]
     clear hq
     obtain⟨-,hrd,hf⟩:=Rg.Ch.fin hR (by decide) 1 rfl;have HRD:=hid hrd;have HF:=hid hf;clear hrd hf hR
     try clear a'
     go_wp2
     go_returns
     rw[HNX.out]
     have hpb:=HPB.out
     refine⟨⟨_,rfl,?_⟩,HRD.out,(Ext.fr HE5.out).trans (HF.out.mono (by simp))⟩
     have hI:=ownsRow_fr HI.out HF.out (fun q h1 h2=>by
      have h3:=row_lo HI.out q h1
      obtain rfl:q=ms:=by simpa using h2
      have:=H.out.lt;omega)
     exact owns_mono (by rw[List.length_map,HLN.out];exact hI) (by omega)
end Go.Proofs.YtcfgafododiioaaGreatDoor
set_option maxRecDepth 100000
namespace Go.Proofs.YtcfgafododiioaaGreatDoor
open Go Go.RowKit Go.Tum Go.ChangeMaps
set_option maxHeartbeats 1000000 in
theorem seen_any {B:Nat} {w:World} {p:Nat} {x:XP} {q:QR} (name:Nm) (n:Int) (hn1: -9223372036854775808≤n) (hn2:n≤9223372036854775807) (h:IX B w p x q) (hB:B≤w.heap.size) (hw:WD q.dd) (ht:TB w) (hl:name.length≤100000):
 Calls Tryz.prog 38 #[pv p,vN name,.int .i64 n] w fun e w'=>(∃v,e= .returned (.tuple #[v,.int .i64 (nextD q.dd name n).2.1])∧w'.ownsRow w.heap.size 36 1 v (nextD q.dd name n).1.length ((nextD q.dd name n).1.map vU))∧XStp B w p x {q with dd:=(nextD q.dd name n).2.2} w':=by
 have c18:=h.cells 18 (pv x.dp) rfl
 have hc:=dnext_any name n hn1 hn2 h.de hw ht hl
 have HC:=hid hc
 have H:=hid h
 have HB0:=hid hB
 obtain⟨⟨R1,R2,R3⟩,hR⟩:∃R,nextD q.dd name n=R:=⟨_,rfl⟩
 rw[hR] at HC⊢
 clear h hB hw ht hl hc hR
 go_enter Tryz.func38,Tryz.ntmps38
 go_wp2_with fail
 refine Calls.mono HC.out ?_
 rintro e w1 ⟨⟨v,rfl,hv⟩,hd,hf⟩
 have HV:=hid hv
 have HD:=hid hd
 have HF:=hid hf
 clear hv hd hf
 go_wp2
 go_returns
 exact⟨⟨v,rfl,HV.out⟩,XStp.dead H.out HB0.out HD.out HF.out⟩
end Go.Proofs.YtcfgafododiioaaGreatDoor
namespace Go.Proofs.YtcfgafododiioaaGreatDoor
open Go Go.RowKit Go.Tum Go.ChangeMaps Go.Sort
open Go.Shelf
abbrev itE (z:It):List Value:=[vU z.id,.int .i64 z.lane,.int .i64 z.st,.int .i64 z.ct,vU z.due,vU z.tok,vU z.turn,vU z.seg,vU z.pos,.int .i64 z.size]
instance :Inhabited It:=⟨it0⟩
section
variable {α : Type} [Inhabited α] (enc : α → List Value) (k : Nat) (hk : ∀ x, (enc x).length = k) (h0 : 0 < k)
include hk h0
theorem flatK_all (l:List α):(flatK enc k l.toArray).toList=l.flatMap enc:=by
 have hlen:(l.flatMap enc).length=l.length*k:=flat_len fun x _=>hk x
 have hsz:(flatK enc k l.toArray).size=l.length*k:=by rw[size_flatK];simp
 apply List.ext_getElem?
 intro t
 by_cases ht:t<l.length*k
 · have h1:(flatK enc k l.toArray).toList[t]? =some ((flatK enc k l.toArray)[t]!):=by
    rw[Array.getElem?_toList,getElem!_pos _ t (by omega),Array.getElem?_eq_getElem (by omega)]
   have hq:t / k<l.length:=Nat.div_lt_of_lt_mul (by rw[Nat.mul_comm];exact ht)
   have hin:l.toArray[t / k]! =l[t / k]:=by rw[getElem!_pos _ (t / k) (by simpa using hq)];simp
   rw[h1,get_flatK _ _ _ _ (by simpa using ht),hin]
   have hg:=flat_get (c:=enc) (size:=k) (l:=l) (fun x _=>hk x) (t / k) hq (t % k) (Nat.mod_lt _ h0)
   have e:t / k*k+t % k=t:=by rw[Nat.mul_comm];exact Nat.div_add_mod t k
   rw[e] at hg
   have hm:t % k<(enc l[t / k]).length:=by rw[hk];exact Nat.mod_lt _ h0
   rw[hg,List.getElem?_eq_getElem hm,getElem!_pos (enc l[t / k]) (t % k) hm]
 · rw[List.getElem?_eq_none (by rw[Array.length_toList];omega),List.getElem?_eq_none (by omega)]
theorem own_holdsK {w:World} {B e g cap:Nat} {l:List α} (h:w.ownsRow B e k (.slice (some ⟨g,0,none⟩) l.length cap) l.length (l.flatMap enc)):HoldsK enc k w g 0 l.toArray:=by
 intro j hj
 have hj2:j<l.length*k:=by simpa using hj
 refine⟨?_,by rw[Nat.zero_add];exact World.ownsRow.frozenAt h j⟩
 rw[Nat.zero_add,World.ownsRow.cellAt h j hj2,←flatK_all enc k hk h0,Array.getElem?_toList,Array.getElem?_eq_getElem hj,getElem!_pos _ j hj]
 rfl
theorem own_sortedK {w:World} {B e g cap n:Nat} {os:Array Obj} {l m:List α} (h:w.ownsRow B e k (.slice (some ⟨g,0,none⟩) l.length cap) l.length (l.flatMap enc)) (hl:m.length=l.length):
 (sortWorldK enc k w g 0 n m.toArray os).ownsRow B e k (.slice (some ⟨g,0,none⟩) l.length cap) l.length (m.flatMap enc):=by
 have hlen:(m.flatMap enc).length=m.length*k:=flat_len fun x _=>hk x
 refine⟨by rw[hlen,hl],?_⟩
 rcases h.2 with ⟨hv,-⟩|⟨g',cap',cur,hv,hb,hgg,h1,h2,h3,h4⟩
 · cases hv
 · cases hv
   have hle:l.length*k≤cap*k:=Nat.mul_le_mul_right _ h1
   refine .inr ⟨g,cap,_,rfl,hb,heap_putId _ hgg,h1,h2,by simp[putCells,h3],?_⟩
   have:=take_putId cur (flatK enc k m.toArray) (by rw[size_flatK,h3];simp only[List.size_toArray];rw[hl];exact hle)
   rw[size_flatK] at this
   simp only[List.size_toArray] at this
   rw[←hl,this,flatK_all enc k hk h0]
end
def SrtP (B:Nat) (w:World) (v:Value) (cf:It→It→Int) (l:List It) (e:Ending) (w':World):Prop:=
 e= .returned (.tuple #[])∧∃m:List It,m.Perm l∧(m.Pairwise fun x y=>ltOf cf y x=false)∧w'.ownsRow B 79 10 v l.length (m.flatMap itE)∧Fr (oB v) w w'
theorem sortI_any {B:Nat} {w:World} {v:Value} (cf:It→It→Int) (g:Nat) (l:List It) (h:w.ownsRow B 79 10 v l.length (l.flatMap itE)) (hl:l.length≤1000000) (hO:SWO (ltOf cf))
 (eg:∀args w,(callFunc g args).run Tryz.prog w= .ok (.enter g args) w) (hg:∀(x y:It) (w:World),Calls Tryz.prog g #[itV x,itV y] w fun e w'=>e= .returned (.int .i64 (cf x y))∧Grw w w'):
 Calls Tryz.prog 63 #[v,.func (.func g) #[] #[]] w (SrtP B w v cf l):=by
 rcases h.2 with ⟨hv,h0⟩|⟨b,cap,cur,hv,hb,hgg,h1,h2,h3,h4⟩
 · have hl0:l=[]:=List.length_eq_zero_iff.1 h0
   subst hv hl0
   refine(AnyF.slices_SortFunc_none Tryz.sortItem none 0 _ w).mono ?_
   rintro e w' ⟨rfl,rfl⟩
   exact⟨rfl,[],List.Perm.refl _,List.Pairwise.nil,h,Fr.refl _ _⟩
 · subst hv
   have hcmp:CmpLays Tryz.prog g #[] itE 10 cf b 0 l.toArray.size w:=fun m os dk _ x y=>hg x y _
   have hc:=AnyQ.slices_SortFunc Tryz.sortItem 10 Tryz.isAgg79 Tryz.sizeOf79 itE (fun _=>rfl) (fun x v hv=>by simp at hv;rcases hv with rfl|rfl|rfl|rfl|rfl|rfl|rfl|rfl|rfl|rfl<;>rfl) cf hO g #[] b 0 cap l.toArray w eg hcmp (own_holdsK itE 10 (fun _=>rfl) (by decide) h) (Array.getElem?_eq_some_iff.1 hgg).1 (by simp;omega)
   refine hc.mono ?_
   rintro e w' ⟨rfl,d,n,os,hp,hs,rfl⟩
   obtain⟨p1,-,p3⟩:=hp
   have hsz:d.size=l.length:=by rw[p1];simp
   have hdl:d=d.toList.toArray:=by simp
   have hpm:d.toList.Perm l:=by
    have e1:(d.extract 0 l.toArray.size)=d:=by rw[show l.toArray.size=d.size by rw[hsz];simp];simp
    have e2:(l.toArray.extract 0 l.toArray.size)=l.toArray:=by simp
    rw[e1,e2] at p3
    simpa using p3
   refine⟨rfl,d.toList,hpm,?_,?_,?_⟩
   · refine List.pairwise_iff_getElem.2 fun i j hi hj hij=> ?_
     have hi':i<d.size:=by simpa using hi
     have hj':j<d.size:=by simpa using hj
     have:=hs i j (Nat.zero_le _) hij (by simp;omega)
     rw[getElem!_pos _ i hi',getElem!_pos _ j hj'] at this
     simpa using this
   · have:=own_sortedK itE 10 (fun _=>rfl) (by decide) (n:=n) (os:=os) h (m:=d.toList) hpm.length_eq
     rw[←hdl] at this
     exact this
   · exact(fr_putId _).mono (by intro q hq;simp[oB,Value.ownBlock] at hq⊢;exact hq)
end Go.Proofs.YtcfgafododiioaaGreatDoor
