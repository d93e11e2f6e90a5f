/- Texts of a claim, side by side. -/
import Derived.Test.YtcfgafododiioaaGreatDoorC26
import Derived.Test.YtcfgafododiioaaGreatDoorC11
import Derived.Test.YtcfgafododiioaaGreatDoorC15
set_option linter.unusedSimpArgs false
set_option linter.unusedVariables false
namespace Go.Proofs.YtcfgafododiioaaGreatDoor
open Go Go.RowKit Go.Tum Go.ChangeMaps Go.Sort
open Go.ParB (upd Lof)
open Go.ParE (putS slotsR slots Closed)
theorem infoItem:(Tryz.prog.info? 79).map (fun i=>(i.zero,i.size,i.bytes))=some (some (itV it0),10,80):=by kernel_rfl
theorem itE_one (z:It):∀y∈itE z,y.oneCell'=true:=by
 intro y hy
 simp at hy
 rcases hy with rfl|rfl|rfl|rfl|rfl|rfl|rfl|rfl|rfl|rfl<;>rfl
theorem item_one (w:World) (e:Nat) (z:It):Sl (w.alloc (.cells (itC z) e (0,0))) 10 (.slice (some ⟨w.heap.size,0,none⟩) 1 1) 1 (itE z):=by
 have hblk:=heap_alloc_new w (.cells (itC z) e (0,0))
 refine⟨rfl,some ⟨w.heap.size,0,none⟩,1,rfl,Nat.le_refl _,by simp[maxLen],(fun h=>by cases h),fun a ha j u hu=> ?_⟩
 cases ha
 have e1:(⟨w.heap.size,0,none⟩:Addr).add j=⟨w.heap.size,j,none⟩:=by unfold Addr.add;split<;>simp_all
 rw[e1,cell_of_row _ _ _ _ _ _ hblk]
 simpa using hu
def IwhP (w:World) (l:List It) (e:Ending) (w':World):Prop:=(∃(m:List It) (v:Value),m.Perm l∧e= .returned v∧w'.ownsRow w.heap.size 79 10 v m.length (m.flatMap itE))∧Ext w w'
set_option maxRecDepth 100000 in
set_option maxHeartbeats 2000000 in
theorem iwhich_any {B:Nat} {w:World} {p:Nat} {x:XP} {q:QR} (pr:It→Bool) (g:Nat) (cb:Array Value) (h:IX B w p x q) (hln:q.its.length≤99999)
 (eg:∀args w,Sem.run Tryz.prog (callFunc g args) w= .ok (.enter g args) w) (hr:∀w2,Ext w w2→∀z:It,Calls Tryz.prog g (#[itV z]++cb) w2 fun e w3=>e= .returned (.bool (pr z))∧Ext w2 w3):
 Calls Tryz.prog 61 #[pv p,.func (.func g) #[] cb] w fun e w'=>IwhP w ((q.its.map Prod.snd).filter pr) e w':=by
 have c1:=h.cells 7 (.map (some x.mi)) rfl
 obtain⟨l,hlq⟩:∃l,q.its=l:=⟨_,rfl⟩
 have hm:=h.im
 have hni:=h.ni
 rw[hlq] at hm hni hln⊢
 obtain⟨mp,hmp⟩:∃m,x.mi=m:=⟨_,rfl⟩
 rw[hmp] at c1 hm
 have HM:=hid hm
 have HND:=hid hni
 have HR:=hid hr
 have HLR:=hid hln
 clear h hm hni hr hln hlq hmp
 go_enter Tryz.func61,Tryz.ntmps61
 go_wp2_with (at_range;refine wpList_range_PMI _ Tryz.underlying129 rfl _ rfl mp l rfl HM.out HND.out ?_;intro w0 hrg0 hE0;have HRG:=hid hrg0;have HE0:=hid hE0;clear hrg0 hE0)
 obtain⟨r,hr⟩:∃r,w.heap.size=r:=⟨_,rfl⟩
 rw[hr] at HRG⊢
 have HRr:=hid hr
 clear hr
 go_frame
 go_loopw [5] (fun v wr=>∃(rem:List (UInt64×It)) (cnt:Nat) (ss:List It) (ao:Option Addr) (n cap:Nat),v= .slice ao n cap∧Hid (n=ss.length)∧Hid (wr.ownsRow w.heap.size 79 10 (.slice ao n cap) n (ss.flatMap itE))∧Hid (RNGI wr mp r l rem cnt)∧Hid ((ss++(rem.map Prod.snd).filter pr).Perm ((l.map Prod.snd).filter pr))∧Hid (Ext w wr)) (fun _ wr=>wr.rangeLeft mp r)
 case atStart=>exact⟨l,_,[],none,0,0,rfl,hid rfl,hid (World.ownsRow_nil _ _ _ _),HRG,hid (List.Perm.refl _),HE0⟩
 case round=>
  obtain⟨rem,cnt,ss,ao,n,cap,rfl,HN,HO,HRG,HP,HE⟩:=hrel
  have HSL:Hid (ss.length+((rem.map Prod.snd).filter pr).length≤100000):=hid (by have h1:=HP.out.length_eq;rw[List.length_append] at h1;have h2:=List.length_filter_le pr (l.map Prod.snd);rw[List.length_map] at h2;have:=HLR.out;omega)
  go_wp2_with (first
   |(at_next;refine wpList_next_RNGI _ rfl _ rfl mp r cnt l rem rfl HRG.out ?_ ?_))
  · intro h0
    subst h0
    have hperm:ss.Perm ((l.map Prod.snd).filter pr):=by have:=HP.out;simpa using this
    have HPM:=hid hperm
    have HO9:Hid (wr.ownsRow w.heap.size 79 10 (.slice ao n cap) ss.length (ss.flatMap itE)):=hid (by rw[←HN.out];exact HO.out)
    clear hperm
    go_wp2
    go_ret
    exact⟨⟨ss,_,HPM.out,rfl,HO9.out⟩,HE.out⟩
  · intro x b w' cnt' k1 k2 k4 k5 k6 k7
    have hrit:∀q∈oB (.slice ao n cap),q∉[r]:=fun q hq hq2=>by
     obtain rfl:q=r:=by simpa using hq2
     obtain⟨cs,hc⟩:=row_kind HO.out q hq
     obtain⟨o,ho,hn⟩:=HRG.out.blocks.2
     rw[ho] at hc;cases hc;exact hn _ _ rfl
    have HO2:=hid (ownsRow_fr HO.out k6 hrit)
    have HE2:Hid (Ext w w'):=hid (Below.trans HE.out (k6.below (by simp;have:=HRr.out;omega) HE.out.size))
    have HRG2:=hid k4
    have HK5:=hid (show w'.rangeLeft mp r<wr.rangeLeft mp r by rw[k4.left,HRG.out.left];exact k5)
    have hpn:=((noK_perm k1 HRG.out.nd).map Prod.snd).filter pr
    have HPN:=hid hpn
    have HB:=hid (heap_alloc_new w' (itO b))
    have HE3:=hid (HE2.out.trans (Ext.alloc w' (itO b)))
    have HO3:=hid ((Ext.alloc w' (itO b)).owns HO2.out)
    have HRG3:=hid (HRG2.out.ext (Ext.alloc w' (itO b)))
    obtain⟨u0,u1,u2,u3,u4,u5,u6,u7,u8,u9,-⟩:=blk10 HB.out
    clear k1 k2 k4 k5 k6 hrit hpn
    go_wp2_with fail
    refine(HR.out _ HE3.out b).mono ?_
    rintro e w5 ⟨rfl,hE5⟩
    clear u0 u1 u2 u3 u4 u5 u6 u7 u8 u9
    have HE5:=hid (HE3.out.trans hE5)
    have HB5:=hid (hE5.obj HB.out)
    have HO5:=hid (hE5.owns HO3.out)
    have HRG5:=hid (HRG3.out.ext hE5)
    have HK6:Hid (cnt'<wr.rangeLeft mp r):=hid (by have:=HK5.out;rw[HRG2.out.left] at this;exact this)
    clear hE5 HE3 HB HO3 HRG3 HO2 HE2 HRG2 HK5
    obtain⟨ab,hab⟩:∃b,w'.heap.size=b:=⟨_,rfl⟩
    rw[hab] at HB5⊢
    clear hab k7
    obtain⟨pb,hpb⟩:∃y,pr b=y:=⟨_,rfl⟩
    have HPB:=hid hpb
    rw[hpb]
    clear hpb
    cases pb
    case false=>
     have HP2:Hid ((ss++((noK rem x).map Prod.snd).filter pr).Perm ((l.map Prod.snd).filter pr)):=hid (by
      have h1:=HPN.out
      rw[List.map_cons,List.filter_cons,if_neg (by show¬pr b=true;rw[HPB.out];decide)] at h1
      exact(List.Perm.append_left ss h1).trans HP.out)
     go_wp2
     go_roundw
     case rel=>exact⟨noK rem x,cnt',ss,ao,n,cap,rfl,HN,HO5,HRG5,HP2,HE5⟩
     case measure=>rw[HRG5.out.left];exact HK6.out
    case true=>
     have HP2:Hid (((ss++[b])++((noK rem x).map Prod.snd).filter pr).Perm ((l.map Prod.snd).filter pr)):=hid (by
      have h1:=HPN.out
      rw[List.map_cons,List.filter_cons,if_pos (show pr b=true from HPB.out)] at h1
      have h2:=(List.Perm.append_left ss h1).trans HP.out
      simpa using h2)
     obtain⟨q0,q1,q2,q3,q4,q5,q6,q7,q8,q9,-⟩:=blk10 HB5.out
     have hnb:n≤100000:=by have:=HSL.out;rw[HN.out];omega
     have HSL1:=hid (item_one w5 79 b)
     go_wp2_with (at_builtin;refine wpList_append_slN rfl (.tmp 20) (.tmp 22) 59 rfl w.heap.size 79 Tryz.underlying59 infoItem rfl (by decide) rfl ((Ext.alloc w5 _).owns HO5.out) rfl HSL1.out (itE_one b) (n+1) (by omega) (by simp[maxLen];omega) (by omega) (Nat.le_trans HE5.out.size (by simp)) ?_;intro ao3 cap3 w3 hO3 hg3 hb3;have HO3:=hid hO3;have HE3:Hid (Ext w w3):=hid (Below.trans (HE5.out.trans (Ext.alloc _ _)) hb3);have HF3:=hid hg3;clear hO3 hg3 hb3)
     have HRG6:Hid (RNGI w3 mp r l (noK rem x) cnt'):=hid (by
      have h1:=HRG5.out.ext (Ext.alloc w5 (itO b))
      refine h1.kept HF3.out ?_ ?_
      · intro hq
        obtain⟨cs,hc⟩:=row_kind ((Ext.alloc w5 (itO b)).owns HO5.out) _ hq
        obtain⟨o,ho,hn⟩:=h1.blocks.1
        rw[ho] at hc;cases hc;exact hn _ _ rfl
      · intro hq
        obtain⟨cs,hc⟩:=row_kind ((Ext.alloc w5 (itO b)).owns HO5.out) _ hq
        obtain⟨o,ho,hn⟩:=h1.blocks.2
        rw[ho] at hc;cases hc;exact hn _ _ rfl)
     go_roundw
     case rel=>exact⟨noK rem x,cnt',ss++[b],ao3,n+1,cap3,rfl,hid (by rw[List.length_append,HN.out];rfl),hid (by rw[List.flatMap_append];simpa using HO3.out),HRG6,HP2,HE3⟩
     case measure=>rw[HRG6.out.left];exact HK6.out
end Go.Proofs.YtcfgafododiioaaGreatDoor
set_option maxRecDepth 100000
namespace Go.Proofs.YtcfgafododiioaaGreatDoor
open Go Go.RowKit Go.Tum Go.ChangeMaps Go.Sort
open Go.ParB (upd Lof)
open Go.ParE (putS slotsR slots Closed)
def cfI (a b:It):Int:=cmpU a.id b.id
def cfT (a b:It):Int:=cmpU a.turn b.turn
def cfD (a b:It):Int:=or2 (cmpU a.due b.due) (cmpU a.id b.id)
set_option maxHeartbeats 1000000 in
theorem byId_any (a b:It) (w:World):Calls Tryz.prog 64 #[itV a,itV b] w fun e w'=>e= .returned (.int .i64 (cfI a b))∧Grw w w':=by
 obtain⟨id1,lane1,st1,ct1,due1,tok1,turn1,sg1,ps1,size1⟩:=a
 obtain⟨id2,lane2,st2,ct2,due2,tok2,turn2,sg2,ps2,size2⟩:=b
 show Calls Tryz.prog 64 #[(.agg #[vU id1,.int .i64 lane1,.int .i64 st1,.int .i64 ct1,vU due1,vU tok1,vU turn1,vU sg1,vU ps1,.int .i64 size1]),(.agg #[vU id2,.int .i64 lane2,.int .i64 st2,.int .i64 ct2,vU due2,vU tok2,vU turn2,vU sg2,vU ps2,.int .i64 size2])] w fun e w'=>e= .returned (.int .i64 (cfI ⟨id1,lane1,st1,ct1,due1,tok1,turn1,sg1,ps1,size1⟩ ⟨id2,lane2,st2,ct2,due2,tok2,turn2,sg2,ps2,size2⟩))∧Grw w w'
 obtain⟨wa,hwa⟩:∃W,w.alloc (.cells #[vU id1,.int .i64 lane1,.int .i64 st1,.int .i64 ct1,vU due1,vU tok1,vU turn1,vU sg1,vU ps1,.int .i64 size1] 79 (0,0))=W:=⟨_,rfl⟩
 obtain⟨W1,hW1⟩:∃W,wa.alloc (.cells #[vU id2,.int .i64 lane2,.int .i64 st2,.int .i64 ct2,vU due2,vU tok2,vU turn2,vU sg2,vU ps2,.int .i64 size2] 79 (0,0))=W:=⟨_,rfl⟩
 have HB0:W1.heap[w.heap.size]? =some (itO ⟨id1,lane1,st1,ct1,due1,tok1,turn1,sg1,ps1,size1⟩):=by rw[←hW1,←hwa];exact(Ext.alloc _ _).obj (heap_alloc_new w _)
 have HB1:W1.heap[wa.heap.size]? =some (itO ⟨id2,lane2,st2,ct2,due2,tok2,turn2,sg2,ps2,size2⟩):=by rw[←hW1];exact heap_alloc_new wa _
 have HG:Hid (Grw w W1):=hid (by rw[←hW1,←hwa];exact(Grw.alloc _ _).trans (Grw.alloc _ _))
 obtain⟨a0,a1,a2,a3,a4,a5,a6,-⟩:=blk10 HB0
 obtain⟨b0,b1,b2,b3,b4,b5,b6,-⟩:=blk10 HB1
 clear HB0 HB1
 go_enter Tryz.func64,Tryz.ntmps64
 go_wp2_with fail
 refine(compare_any id1 id2 _).mono ?_
 rintro e w2 ⟨rfl,rfl⟩
 go_wp2
 go_ret
 exact⟨rfl,HG.out⟩
set_option maxHeartbeats 1000000 in
theorem byTurn_any (a b:It) (w:World):Calls Tryz.prog 126 #[itV a,itV b] w fun e w'=>e= .returned (.int .i64 (cfT a b))∧Grw w w':=by
 obtain⟨id1,lane1,st1,ct1,due1,tok1,turn1,sg1,ps1,size1⟩:=a
 obtain⟨id2,lane2,st2,ct2,due2,tok2,turn2,sg2,ps2,size2⟩:=b
 show Calls Tryz.prog 126 #[(.agg #[vU id1,.int .i64 lane1,.int .i64 st1,.int .i64 ct1,vU due1,vU tok1,vU turn1,vU sg1,vU ps1,.int .i64 size1]),(.agg #[vU id2,.int .i64 lane2,.int .i64 st2,.int .i64 ct2,vU due2,vU tok2,vU turn2,vU sg2,vU ps2,.int .i64 size2])] w fun e w'=>e= .returned (.int .i64 (cfT ⟨id1,lane1,st1,ct1,due1,tok1,turn1,sg1,ps1,size1⟩ ⟨id2,lane2,st2,ct2,due2,tok2,turn2,sg2,ps2,size2⟩))∧Grw w w'
 obtain⟨wa,hwa⟩:∃W,w.alloc (.cells #[vU id1,.int .i64 lane1,.int .i64 st1,.int .i64 ct1,vU due1,vU tok1,vU turn1,vU sg1,vU ps1,.int .i64 size1] 79 (0,0))=W:=⟨_,rfl⟩
 obtain⟨W1,hW1⟩:∃W,wa.alloc (.cells #[vU id2,.int .i64 lane2,.int .i64 st2,.int .i64 ct2,vU due2,vU tok2,vU turn2,vU sg2,vU ps2,.int .i64 size2] 79 (0,0))=W:=⟨_,rfl⟩
 have HB0:W1.heap[w.heap.size]? =some (itO ⟨id1,lane1,st1,ct1,due1,tok1,turn1,sg1,ps1,size1⟩):=by rw[←hW1,←hwa];exact(Ext.alloc _ _).obj (heap_alloc_new w _)
 have HB1:W1.heap[wa.heap.size]? =some (itO ⟨id2,lane2,st2,ct2,due2,tok2,turn2,sg2,ps2,size2⟩):=by rw[←hW1];exact heap_alloc_new wa _
 have HG:Hid (Grw w W1):=hid (by rw[←hW1,←hwa];exact(Grw.alloc _ _).trans (Grw.alloc _ _))
 obtain⟨a0,a1,a2,a3,a4,a5,a6,-⟩:=blk10 HB0
 obtain⟨b0,b1,b2,b3,b4,b5,b6,-⟩:=blk10 HB1
 clear HB0 HB1
 go_enter Tryz.func126,Tryz.ntmps126
 go_wp2_with fail
 refine(compare_any turn1 turn2 _).mono ?_
 rintro e w2 ⟨rfl,rfl⟩
 go_wp2
 go_ret
 exact⟨rfl,HG.out⟩
def ByD (W:World) (a b:It) (i:Nat) (σ:Nat→Value) (w':World):Prop:=Grw W w'∧match i with
 |2=>∃g e,σ 15= .slice (some ⟨g,0,none⟩) 2 2∧w'.heap[g]? =some (.cells #[.int .i64 (cmpU a.due b.due),.int .i64 (cmpU a.id b.id)] e (0,0))
 |_=>True
set_option maxHeartbeats 2000000 in
theorem byDue_any (a b:It) (w:World):Calls Tryz.prog 93 #[itV a,itV b] w fun e w'=>e= .returned (.int .i64 (cfD a b))∧Grw w w':=by
 obtain⟨id1,lane1,st1,ct1,due1,tok1,turn1,sg1,ps1,size1⟩:=a
 obtain⟨id2,lane2,st2,ct2,due2,tok2,turn2,sg2,ps2,size2⟩:=b
 show Calls Tryz.prog 93 #[(.agg #[vU id1,.int .i64 lane1,.int .i64 st1,.int .i64 ct1,vU due1,vU tok1,vU turn1,vU sg1,vU ps1,.int .i64 size1]),(.agg #[vU id2,.int .i64 lane2,.int .i64 st2,.int .i64 ct2,vU due2,vU tok2,vU turn2,vU sg2,vU ps2,.int .i64 size2])] w fun e w'=>e= .returned (.int .i64 (cfD ⟨id1,lane1,st1,ct1,due1,tok1,turn1,sg1,ps1,size1⟩ ⟨id2,lane2,st2,ct2,due2,tok2,turn2,sg2,ps2,size2⟩))∧Grw w w'
 obtain⟨wa,hwa⟩:∃W,w.alloc (.cells #[vU id1,.int .i64 lane1,.int .i64 st1,.int .i64 ct1,vU due1,vU tok1,vU turn1,vU sg1,vU ps1,.int .i64 size1] 79 (0,0))=W:=⟨_,rfl⟩
 obtain⟨W1,hW1⟩:∃W,wa.alloc (.cells #[vU id2,.int .i64 lane2,.int .i64 st2,.int .i64 ct2,vU due2,vU tok2,vU turn2,vU sg2,vU ps2,.int .i64 size2] 79 (0,0))=W:=⟨_,rfl⟩
 have HB0:W1.heap[w.heap.size]? =some (itO ⟨id1,lane1,st1,ct1,due1,tok1,turn1,sg1,ps1,size1⟩):=by rw[←hW1,←hwa];exact(Ext.alloc _ _).obj (heap_alloc_new w _)
 have HB1:W1.heap[wa.heap.size]? =some (itO ⟨id2,lane2,st2,ct2,due2,tok2,turn2,sg2,ps2,size2⟩):=by rw[←hW1];exact heap_alloc_new wa _
 have HG:Hid (Grw w W1):=hid (by rw[←hW1,←hwa];exact(Grw.alloc _ _).trans (Grw.alloc _ _))
 go_enter Tryz.func93,Tryz.ntmps93
 go_wp2_with fail
 have H0:=hid HB0
 have H1:=hid HB1
 obtain⟨N1,hN1⟩:∃N,w.heap.size=N:=⟨_,rfl⟩
 obtain⟨N2,hN2⟩:∃N,wa.heap.size=N:=⟨_,rfl⟩
 rw[hN1] at H0⊢
 rw[hN2] at H1⊢
 clear HB0 HB1 hwa hW1 hN1 hN2
 refine ParE.wp_region_e (l:=[_,_,_,_,_,_,_,_,_,_,_,_,_]) rfl (Rg.Ch [9,10] [15] (ByD W1 ⟨id1,lane1,st1,ct1,due1,tok1,turn1,sg1,ps1,size1⟩ ⟨id2,lane2,st2,ct2,due2,tok2,turn2,sg2,ps2,size2⟩)) (ParC.VC [ParC.EQ (Value.pointer (some ⟨N1,2,none⟩)),ParC.EQ (Value.pointer (some ⟨N1,4,none⟩)),ParC.EQ (vU due1),ParC.EQ (Value.pointer (some ⟨N2,2,none⟩)),ParC.EQ (Value.pointer (some ⟨N2,4,none⟩)),ParC.EQ (vU due2),ParC.EQ (Value.int IntKind.i64 (cmpU due1 due2)),ParC.EQ (itV ⟨id1,lane1,st1,ct1,due1,tok1,turn1,sg1,ps1,size1⟩),ParC.EQ (itV ⟨id2,lane2,st2,ct2,due2,tok2,turn2,sg2,ps2,size2⟩),ParC.EQ (Value.int IntKind.i64 (cmpU id1 id2)),(fun _=>True),ParC.EQ (Value.int IntKind.i64 (or2 (cmpU due1 due2) (cmpU id1 id2))),ParC.EQ (Value.int IntKind.i64 (or2 (cmpU due1 due2) (cmpU id1 id2)))]) (by kernel_rfl) (by kernel_rfl) (Rg.Ch.start ⟨Grw.draw _,trivial⟩) ?_ ?_
 · refine⟨fun _ _ _ hR _ _ _ hk=>Par.pv [(2,Value.pointer (some ⟨N1,0,none⟩))] hk (by kernel_rfl) ⟨hR.other (by decide),rfl⟩,?_⟩
   refine⟨fun _ _ _ hR _ _ _ hk=>Par.pv [(5,Value.pointer (some ⟨N1,2,none⟩))] hk (by kernel_rfl) ⟨hR.other (by decide),rfl⟩,?_⟩
   refine⟨fun L ρ w' hR hC hL hd hk=> ?_,?_⟩
   · obtain⟨(e0:ρ (.tmp 6)=Value.pointer (some ⟨N1,4,none⟩)),-⟩:=hk;refine Par.val_k fun K hK=> ?_;unfold Par.val
     (obtain⟨i,-,-,hx,-⟩:=hR.ex;have cc:=(blk10 (hx.ext.obj H0.out)).2.2.2.2.1;go_simp;exact hK _ _ ⟨hR.other (by decide),rfl⟩)
   refine⟨fun _ _ _ hR _ _ _ hk=>Par.pv [(3,Value.pointer (some ⟨N2,0,none⟩))] hk (by kernel_rfl) ⟨hR.other (by decide),rfl⟩,?_⟩
   refine⟨fun _ _ _ hR _ _ _ hk=>Par.pv [(8,Value.pointer (some ⟨N2,2,none⟩))] hk (by kernel_rfl) ⟨hR.other (by decide),rfl⟩,?_⟩
   refine⟨fun L ρ w' hR hC hL hd hk=> ?_,?_⟩
   · obtain⟨(e0:ρ (.tmp 9)=Value.pointer (some ⟨N2,4,none⟩)),-⟩:=hk;refine Par.val_k fun K hK=> ?_;unfold Par.val
     (obtain⟨i,-,-,hx,-⟩:=hR.ex;have cc:=(blk10 (hx.ext.obj H1.out)).2.2.2.2.1;go_simp;exact hK _ _ ⟨hR.other (by decide),rfl⟩)
   refine⟨fun L ρ w' hR hC hL hd hk=> ?_,?_⟩
   · obtain⟨e0,(e1:ρ (.tmp 7)=vU due1),(e2:ρ (.tmp 10)=vU due2),-⟩:=hk;refine Par.val_k fun K hK=> ?_;unfold Par.val
     (refine Par.val_call Tryz.func114 (by kernel_rfl) rfl e0 ?_;simp only[List.map_toArray,List.map_cons,List.map_nil,e1,e2];refine(compare_any due1 due2 _).mono ?_;rintro e w2 ⟨rfl,rfl⟩;exact⟨_,rfl,hK _ _ ⟨hR.other (by decide),rfl⟩⟩)
   refine⟨fun L ρ w' hR hC hL hd hk=> ?_,?_⟩
   · obtain⟨(e0:ρ (.tmp 2)=Value.pointer (some ⟨N1,0,none⟩)),-⟩:=hk;refine Par.val_k fun K hK=> ?_;unfold Par.val
     (obtain⟨i,-,-,hx,-⟩:=hR.ex;have cc:=blk10 (hx.ext.obj H0.out);have cc0:=cc.1;have cc1:=cc.2.1;have cc2:=cc.2.2.1;have cc3:=cc.2.2.2.1;have cc4:=cc.2.2.2.2.1;have cc5:=cc.2.2.2.2.2.1;have cc6:=cc.2.2.2.2.2.2.1;have cc7:=cc.2.2.2.2.2.2.2.1;have cc8:=cc.2.2.2.2.2.2.2.2.1;have cc9:=cc.2.2.2.2.2.2.2.2.2.1;clear cc;go_simp;exact hK _ _ ⟨hR.other (by decide),rfl⟩)
   refine⟨fun L ρ w' hR hC hL hd hk=> ?_,?_⟩
   · obtain⟨(e0:ρ (.tmp 3)=Value.pointer (some ⟨N2,0,none⟩)),-⟩:=hk;refine Par.val_k fun K hK=> ?_;unfold Par.val
     (obtain⟨i,-,-,hx,-⟩:=hR.ex;have cc:=blk10 (hx.ext.obj H1.out);have cc0:=cc.1;have cc1:=cc.2.1;have cc2:=cc.2.2.1;have cc3:=cc.2.2.2.1;have cc4:=cc.2.2.2.2.1;have cc5:=cc.2.2.2.2.2.1;have cc6:=cc.2.2.2.2.2.2.1;have cc7:=cc.2.2.2.2.2.2.2.1;have cc8:=cc.2.2.2.2.2.2.2.2.1;have cc9:=cc.2.2.2.2.2.2.2.2.2.1;clear cc;go_simp;exact hK _ _ ⟨hR.other (by decide),rfl⟩)
   refine⟨fun L ρ w' hR hC hL hd hk=> ?_,?_⟩
   · obtain⟨e0,(e1:ρ (.tmp 12)=itV ⟨id1,lane1,st1,ct1,due1,tok1,turn1,sg1,ps1,size1⟩),(e2:ρ (.tmp 13)=itV ⟨id2,lane2,st2,ct2,due2,tok2,turn2,sg2,ps2,size2⟩),-⟩:=hk;refine Par.val_k fun K hK=> ?_;unfold Par.val
     (obtain⟨hq,hs⟩:=hR.go 0 rfl hL (.inl rfl) (by decide);have hx:=hq.1;refine Par.val_call Tryz.func64 (by kernel_rfl) rfl e0 ?_;simp only[List.map_toArray,List.map_cons,List.map_nil,e1,e2];refine(byId_any ⟨id1,lane1,st1,ct1,due1,tok1,turn1,sg1,ps1,size1⟩ ⟨id2,lane2,st2,ct2,due2,tok2,turn2,sg2,ps2,size2⟩ _).mono ?_;rintro e w2 ⟨rfl,hg⟩;exact⟨_,rfl,hK _ _ ⟨hs _ _ _ ⟨hx.trans hg,trivial⟩,rfl⟩⟩)
   refine⟨fun L ρ w' hR hC hL hd hk=> ?_,?_⟩
   · obtain⟨(e0:ρ (.tmp 11)=Value.int IntKind.i64 (cmpU due1 due2)),(e1:ρ (.tmp 14)=Value.int IntKind.i64 (cmpU id1 id2)),-⟩:=hk;refine Par.val_k fun K hK=> ?_;unfold Par.val
     (obtain⟨hq,hs⟩:=hR.go 1 rfl hL (.inr ⟨9,rfl,hC.before 9 (i:=10) rfl hd (by kernel_rfl)⟩) (by decide);have hx:=hq.1;go_simp;exact hK _ _ ⟨hs _ _ _ ⟨hx.trans (Grw.alloc _ _),_,_,rfl,heap_alloc_new _ _⟩,trivial⟩)
   refine⟨fun L ρ w' hR hC hL hd hk=> ?_,?_⟩
   · obtain⟨e0,(e1:(fun _=>True) (ρ (.tmp 15))),-⟩:=hk;refine Par.val_k fun K hK=> ?_;unfold Par.val
     (have h10:=hC.before 10 (i:=11) rfl hd (by kernel_rfl);obtain⟨i,hi,hl,hx,hm⟩:=hR.ex;obtain rfl:i=2:=(by have:=hl 1 10 rfl;rw[h10] at this;simp at this hi;omega);obtain⟨g,e9,hg1,hg2⟩:=hm;have e3:ρ (.tmp 15)= .slice (some ⟨g,0,none⟩) 2 2:=hg1;refine Par.val_call Tryz.func141 (by kernel_rfl) rfl e0 ?_;simp only[List.map_toArray,List.map_cons,List.map_nil,e3];refine(or_any _ _ g _ _ hg2).mono ?_;rintro e w2 ⟨rfl,rfl⟩;exact⟨_,rfl,hK _ _ ⟨hR.other (by decide),rfl⟩⟩)
   refine⟨fun L ρ w' hR hC hL hd hk=> ?_,?_⟩
   · obtain⟨(e0:ρ (.tmp 16)=Value.int IntKind.i64 (or2 (cmpU due1 due2) (cmpU id1 id2))),-⟩:=hk;refine Par.val_k fun K hK=> ?_;unfold Par.val
     (go_simp;exact hK _ _ ⟨hR.other (by decide),rfl⟩)
   trivial
 intro a' w' inv hR
 have q15:(fun _=>True) (a'.tmps.getD 15 undef):=inv.done 10 _ 15 rfl rfl rfl
 have hq:=Par.donesC inv;simp only[Par.donesV,ParC.EQ,true_and,and_true] at hq
 clear inv
 simp only[List.filterMap_cons,List.filterMap_nil,Par.putAll,Act.put,List.setIfInBounds_toArray,List.set_cons_succ,List.set_cons_zero,hq]
 clear hq
 obtain⟨hx,-⟩:=Rg.Ch.fin hR (by decide) 2 rfl;have HX:=hid hx;clear hx hR
 generalize a'.tmps.getD 15 undef=u15 at*
 try clear a'
 go_wp2
 go_ret
 exact⟨rfl,HG.out.trans HX.out⟩
theorem lt_cfI (a b:It):ltOf cfI a b=decide (a.id<b.id):=by
 unfold ltOf cfI
 simp only[cmpU_neg]
theorem lt_cfT (a b:It):ltOf cfT a b=decide (a.turn<b.turn):=by
 unfold ltOf cfT
 simp only[cmpU_neg]
theorem lt_cfD (a b:It):ltOf cfD a b=ltW a b:=by
 unfold ltOf cfD or2 ltW
 by_cases h:cmpU a.due b.due=0
 · have h1:=cmpU_zero.1 h
   rw[if_neg (by simpa using h)]
   have:¬a.due<b.due:=by rw[h1];exact UInt64.lt_irrefl _
   rw[h1] at this⊢
   simp only[this,false_or,cmpU_neg,true_and]
 · have h1:a.due≠b.due:=fun e=>h (cmpU_zero.2 e)
   rw[if_pos h]
   simp only[h1,false_and,or_false,cmpU_neg]
theorem swoI:SWO (ltOf cfI) where
 irrefl x:=by rw[lt_cfI];simp[UInt64.lt_irrefl]
 trans x y z h1 h2:=by
  rw[lt_cfI] at*
  simp only[decide_eq_true_eq,u64_lt] at*
  omega
 ntrans x y z h1 h2:=by
  rw[lt_cfI] at*
  simp only[decide_eq_false_iff_not,u64_lt] at*
  omega
theorem swoT:SWO (ltOf cfT) where
 irrefl x:=by rw[lt_cfT];simp[UInt64.lt_irrefl]
 trans x y z h1 h2:=by
  rw[lt_cfT] at*
  simp only[decide_eq_true_eq,u64_lt] at*
  omega
 ntrans x y z h1 h2:=by
  rw[lt_cfT] at*
  simp only[decide_eq_false_iff_not,u64_lt] at*
  omega
theorem swoD:SWO (ltOf cfD) where
 irrefl x:=by rw[lt_cfD];simp[ltW,UInt64.lt_irrefl]
 trans x y z h1 h2:=by
  rw[lt_cfD] at*
  simp only[ltW,decide_eq_true_eq,u64_lt,u64_eq] at*
  omega
 ntrans x y z h1 h2:=by
  rw[lt_cfD] at*
  simp only[ltW,decide_eq_false_iff_not,u64_lt,u64_eq] at*
  omega
theorem enById (args:Array Value) (w:World):Sem.run Tryz.prog (callFunc 64 args) w= .ok (.enter 64 args) w:=enter_of Tryz.func64 (by kernel_rfl) (by kernel_rfl) args w
theorem enByTurn (args:Array Value) (w:World):Sem.run Tryz.prog (callFunc 126 args) w= .ok (.enter 126 args) w:=enter_of Tryz.func126 (by kernel_rfl) (by kernel_rfl) args w
theorem enByDue (args:Array Value) (w:World):Sem.run Tryz.prog (callFunc 93 args) w= .ok (.enter 93 args) w:=enter_of Tryz.func93 (by kernel_rfl) (by kernel_rfl) args w
end Go.Proofs.YtcfgafododiioaaGreatDoor
