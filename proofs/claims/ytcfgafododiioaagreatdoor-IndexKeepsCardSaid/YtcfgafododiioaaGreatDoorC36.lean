/- Texts of a claim, side by side. -/
import Derived.Test.YtcfgafododiioaaGreatDoorC11
import Derived.Test.YtcfgafododiioaaGreatDoorC35
set_option linter.unusedSimpArgs false
set_option linter.unusedVariables false
set_option maxRecDepth 100000
namespace Go.Proofs.YtcfgafododiioaaGreatDoor
open Go Go.RowKit Go.Tum Go.ChangeMaps Go.Sort
open Go.ParB (upd Lof)
open Go.ParE (putS slotsR slots Closed)
abbrev ix0 (la pa de:Int) (s:SR) (m p h dp:Nat):Array Value:= #[.int .i64 la,.int .i64 pa,.int .i64 de,vU s.now,vU s.next,vU s.leases,vU s.turns,.map (some m),.pointer none,.pointer none,.pointer none,.pointer none,.pointer none,.pointer none,.pointer none,.pointer none,pv p,.map (some h),pv dp]
def MdF1 (W:World) (la pa de:Int) (s:SR) (dp:Nat) (v:Value) (w':World):Prop:=∃m p mt mp h:Nat,v= .agg (ix0 la pa de s m p h dp)∧MdK W true true true m p mt mp h w'
def MdF2 (W:World) (la pa de:Int) (s:SR) (dp:Nat) (v:Value) (w':World):Prop:=∃m p mt mp h X:Nat,v=pv X∧MdK W true true true m p mt mp h w'∧w'.heap[X]? =some (.cells (ix0 la pa de s m p h dp) 136 (0,0))∧W.heap.size≤X∧(X≠m∧X≠h∧X≠p∧X≠mt∧X≠mp)
theorem MdF2.of {W w':World} {la pa de:Int} {s:SR} {m p mt mp h dp:Nat} (hk:MdK W true true true m p mt mp h w'):MdF2 W la pa de s dp (pv w'.heap.size) (w'.alloc (.cells (ix0 la pa de s m p h dp) 136 (0,0))):=by
 have a:=(hk.xi rfl).1.lt
 have b:=(hk.xj rfl).lt3
 have c:=(hk.xk rfl).1.lt
 exact⟨m,p,mt,mp,h,w'.heap.size,rfl,hk.ext (Ext.alloc _ _),heap_alloc_new _ _,hk.xx.size,by omega⟩
def LnQ (W:World) (n:Nat) (B X:Nat) (x:XP) (q:QR) (i:Nat) (σ:Nat→Value) (w':World):Prop:=match i with
 |0=>Ext W w'
 |1=>Ext W w'∧∃p m,σ 42=pv p∧Lane w' p m []∧W.heap.size≤p∧W.heap.size≤m
 |_=>∃x',MX B (n+1) w' X x' q∧Fr [X] W w'
theorem MX.lcell {B n:Nat} {w:World} {X:Nat} {x:XP} {q:QR} (h:MX B n w X x q) (hn:n<8):w.cell? ⟨X,8+n,none⟩=some (.pointer none)∧w.frozen? ⟨X,8+n,none⟩=false:=by
 have hd:=h.hd
 refine⟨?_,by simp[World.frozen?,hd]⟩
 rw[cell_of_row _ _ _ _ _ _ hd]
 match n,hn with
 |0,_=>simp[lv8]
 |1,_=>simp[lv8]
 |2,_=>simp[lv8]
 |3,_=>simp[lv8]
 |4,_=>simp[lv8]
 |5,_=>simp[lv8]
 |6,_=>simp[lv8]
 |7,_=>simp[lv8]
def MadeP (w:World) (la pa de:Int) (s:SR) (d:PD) (e:Ending) (w':World):Prop:=∃(X:Nat) (x:XP) (m:List It),e= .returned (pv X)∧m.Perm s.items∧(m.Pairwise fun x y=>ltOf cfT y x=false)∧IX w.heap.size w' X x (m.foldl enterQ (baseQ la pa de s d))∧Ext w w'
set_option maxHeartbeats 4000000 in
theorem made_any {w:World} {s:SR} (la pa de:Int) {ao bo co:Option Addr} {cap cb cc:Nat} (hi:Sl w 10 (.slice ao s.items.length cap) s.items.length (s.items.flatMap itE)) (hd:Sl w 2 (.slice bo s.dead.length cb) s.dead.length (s.dead.flatMap encR))
 (hc:Sl w 2 (.slice co s.curs.length cc) s.curs.length (s.curs.flatMap encC)) (ht:TB w) (hlr:s.dead.length≤99999) (hln:∀z∈s.curs,z.1.length≤100000) {d:PD} (hfr:fromD s.deaths s.dead s.curs=some d)
 (hl:s.items.length≤200) (hok:∀z∈s.items,(0≤z.lane∧z.lane<8)∧(z.st=1∨z.st=2∨z.st=3∨z.st=4)∧(z.st=4→(d.rows.lookup z.id).isSome=true)):
 Calls Tryz.prog 71 #[ccV la pa de,srV s (.slice ao s.items.length cap) (.slice bo s.dead.length cb) (.slice co s.curs.length cc)] w (MadeP w la pa de s d):=by
 obtain⟨W1,hW1⟩:∃W,w.alloc (ccO la pa de)=W:=⟨_,rfl⟩
 obtain⟨W2,hW2⟩:∃W,W1.alloc (srO s (.slice ao s.items.length cap) (.slice bo s.dead.length cb) (.slice co s.curs.length cc))=W:=⟨_,rfl⟩
 have e1:Ext w W1:=by rw[←hW1];exact Ext.alloc _ _
 have e2:Ext W1 W2:=by rw[←hW2];exact Ext.alloc _ _
 have b1:W1.heap[w.heap.size]? =some (ccO la pa de):=by rw[←hW1];exact heap_alloc_new _ _
 have b2:W2.heap[W1.heap.size]? =some (srO s (.slice ao s.items.length cap) (.slice bo s.dead.length cb) (.slice co s.curs.length cc)):=by rw[←hW2];exact heap_alloc_new _ _
 have HE:=hid (e1.trans e2)
 have HB1:=hid (e2.obj b1)
 have HB2:=hid b2
 have HI:=hid (hi.ext (e1.trans e2))
 have HIW:=hid hi
 have hf:=dfrom_any s.deaths s.dead s.curs (hd.ext (e1.trans e2)) (hc.ext (e1.trans e2)) (TBx ht (e1.trans e2)) hlr hln
 rw[hfr] at hf
 have HF:=hid hf
 have HL:=hid hl
 have HOK:=hid hok
 have HDR:Hid (d.rows.length≤99999):=hid (by rw[(WD.from hfr).2];exact hlr)
 obtain⟨y0,y1,y2,y3,y4,y5,y6,y7,-⟩:=blk8 b2
 clear e1 e2 b1 b2 hi hd hc ht hlr hln hf hfr hl hok
 go_enter Tryz.func71,Tryz.ntmps71
 go_wp2_with fail
 refine HF.out.mono ?_
 rintro e w3 ⟨⟨dp,dm,ds,rfl,hD,hp1,hp2,hp3⟩,hx3⟩
 have HLO:Hid (w.heap.size≤dp∧w.heap.size≤dm∧w.heap.size≤ds):=hid (by have:=HE.out.size;omega)
 have HD:=hid hD
 have HI3:=hid (HI.out.ext hx3)
 have HB1:=hid (hx3.obj HB1.out)
 have HB2:=hid (hx3.obj HB2.out)
 have HE3:=hid (HE.out.trans hx3)
 have HI0:=HIW
 obtain⟨c,hc⟩:∃g,w.heap.size=g:=⟨_,rfl⟩
 obtain⟨g,hg⟩:∃g,W1.heap.size=g:=⟨_,rfl⟩
 rw[hc] at HB1
 rw[hg] at HB2
 try rw[hc]
 try rw[hg]
 clear hx3 hW1 hW2 hg HF hD hp1 hp2 hp3 y0 y1 y2 y3 y4 y5 y6 y7 HI
 have HC:=hid hc
 clear hc
 have hmm:= @run_makeMap Tryz.prog
 have HMM:=hid hmm
 clear hmm
 go_wp2_with fail
 refine ParE.wp_region_e (l:=[_,_,_,_,_,_,_,_,_,_,_,_,_,_,_,_]) rfl (Rg.Tri 9 31 10 32 11 33 13 35 14 36 15 7 (MdQ w3) (MdF1 w3 la pa de s dp) (MdF2 w3 la pa de s dp) (MdF2 w3 la pa de s dp)) (ParC.VC [ParC.EQ (ccV la pa de),ParC.EQ (Value.pointer (some ⟨g,0,none⟩)),ParC.EQ (vU s.now),ParC.EQ (Value.pointer (some ⟨g,1,none⟩)),ParC.EQ (vU s.next),ParC.EQ (Value.pointer (some ⟨g,2,none⟩)),ParC.EQ (vU s.leases),ParC.EQ (Value.pointer (some ⟨g,3,none⟩)),ParC.EQ (vU s.turns),(fun _=>True),(fun _=>True),(fun _=>True),ParC.EQ (pv dp),(fun _=>True),(fun _=>True),(fun _=>True)]) (by kernel_rfl) (by kernel_rfl) (Rg.Tri.start (MdQ.start w3)) ?_ ?_
 · refine⟨fun L ρ w' hR hC hL hd hk=> ?_,?_⟩
   · obtain⟨(e0:ρ (.tmp 2)=pv c),-⟩:=hk;refine Par.val_k fun K hK=> ?_;unfold Par.val
     (have hx:=(hR.q (hC.notyet 13 0 hL (by kernel_rfl)) (hC.notyet 14 0 hL (by kernel_rfl)) (hC.notyet 15 0 hL (by kernel_rfl))).ext;obtain⟨cc0,cc1,cc2,-⟩:=lk3 (hx.obj HB1.out);go_simp;exact hK _ _ ⟨hR.other (by decide),rfl⟩)
   refine⟨fun _ _ _ hR _ _ _ hk=>Par.pv [(3,pv g)] hk (by kernel_rfl) ⟨hR.other (by decide),rfl⟩,?_⟩
   refine⟨fun L ρ w' hR hC hL hd hk=> ?_,?_⟩
   · obtain⟨(e0:ρ (.tmp 23)=Value.pointer (some ⟨g,0,none⟩)),-⟩:=hk;refine Par.val_k fun K hK=> ?_;unfold Par.val
     (have hx:=(hR.q (hC.notyet 13 2 hL (by kernel_rfl)) (hC.notyet 14 2 hL (by kernel_rfl)) (hC.notyet 15 2 hL (by kernel_rfl))).ext;have cc:=(blk8 (hx.obj HB2.out)).1;go_simp;exact hK _ _ ⟨hR.other (by decide),rfl⟩)
   refine⟨fun _ _ _ hR _ _ _ hk=>Par.pv [(3,pv g)] hk (by kernel_rfl) ⟨hR.other (by decide),rfl⟩,?_⟩
   refine⟨fun L ρ w' hR hC hL hd hk=> ?_,?_⟩
   · obtain⟨(e0:ρ (.tmp 25)=Value.pointer (some ⟨g,1,none⟩)),-⟩:=hk;refine Par.val_k fun K hK=> ?_;unfold Par.val
     (have hx:=(hR.q (hC.notyet 13 4 hL (by kernel_rfl)) (hC.notyet 14 4 hL (by kernel_rfl)) (hC.notyet 15 4 hL (by kernel_rfl))).ext;have cc:=(blk8 (hx.obj HB2.out)).2.1;go_simp;exact hK _ _ ⟨hR.other (by decide),rfl⟩)
   refine⟨fun _ _ _ hR _ _ _ hk=>Par.pv [(3,pv g)] hk (by kernel_rfl) ⟨hR.other (by decide),rfl⟩,?_⟩
   refine⟨fun L ρ w' hR hC hL hd hk=> ?_,?_⟩
   · obtain⟨(e0:ρ (.tmp 27)=Value.pointer (some ⟨g,2,none⟩)),-⟩:=hk;refine Par.val_k fun K hK=> ?_;unfold Par.val
     (have hx:=(hR.q (hC.notyet 13 6 hL (by kernel_rfl)) (hC.notyet 14 6 hL (by kernel_rfl)) (hC.notyet 15 6 hL (by kernel_rfl))).ext;have cc:=(blk8 (hx.obj HB2.out)).2.2.1;go_simp;exact hK _ _ ⟨hR.other (by decide),rfl⟩)
   refine⟨fun _ _ _ hR _ _ _ hk=>Par.pv [(3,pv g)] hk (by kernel_rfl) ⟨hR.other (by decide),rfl⟩,?_⟩
   refine⟨fun L ρ w' hR hC hL hd hk=> ?_,?_⟩
   · obtain⟨(e0:ρ (.tmp 29)=Value.pointer (some ⟨g,3,none⟩)),-⟩:=hk;refine Par.val_k fun K hK=> ?_;unfold Par.val
     (have hx:=(hR.q (hC.notyet 13 8 hL (by kernel_rfl)) (hC.notyet 14 8 hL (by kernel_rfl)) (hC.notyet 15 8 hL (by kernel_rfl))).ext;have cc:=(blk8 (hx.obj HB2.out)).2.2.2.1;go_simp;exact hK _ _ ⟨hR.other (by decide),rfl⟩)
   refine⟨fun L ρ w' hR hC hL hd hk=> ?_,?_⟩
   · obtain⟨-⟩:=hk;refine Par.val_k fun K hK=> ?_;unfold Par.val
     (have hmm:=HMM.out;go_simp;exact hK _ _ ⟨hR.a (hC.notyet 13 9 hL (by kernel_rfl)) (hC.notyet 14 9 hL (by kernel_rfl)) (hC.notyet 15 9 hL (by kernel_rfl)) hL (by decide) MdQ.a,trivial⟩)
   refine⟨fun L ρ w' hR hC hL hd hk=> ?_,?_⟩
   · obtain⟨e0,-⟩:=hk;refine Par.val_k fun K hK=> ?_;unfold Par.val
     (refine Par.val_call Tryz.func123 (by kernel_rfl) rfl e0 ?_;simp only[List.map_toArray,List.map_nil];refine(hnew_any w' w'.heap.size (Nat.le_refl _)).mono ?_;rintro e w5 ⟨p5,mt5,mp5,rfl,hB5,hx5⟩;exact⟨_,rfl,hK _ _ ⟨hR.b (hC.notyet 13 10 hL (by kernel_rfl)) (hC.notyet 14 10 hL (by kernel_rfl)) (hC.notyet 15 10 hL (by kernel_rfl)) hL (by decide) (fun h=>h.b hB5 hx5),trivial⟩⟩)
   refine⟨fun L ρ w' hR hC hL hd hk=> ?_,?_⟩
   · obtain⟨-⟩:=hk;refine Par.val_k fun K hK=> ?_;unfold Par.val
     (have hmm:=HMM.out;go_simp;exact hK _ _ ⟨hR.c (hC.notyet 13 11 hL (by kernel_rfl)) (hC.notyet 14 11 hL (by kernel_rfl)) (hC.notyet 15 11 hL (by kernel_rfl)) hL (by decide) MdQ.c,trivial⟩)
   refine⟨fun L ρ w' hR hC hL hd hk=> ?_,?_⟩
   · exact Par.val_of_run rfl ⟨hR.other (by decide),hk.1⟩
   refine⟨fun L ρ w' hR hC hL hd hk=> ?_,?_⟩
   · obtain⟨(e0:ρ (.tmp 22)=ccV la pa de),(e1:ρ (.tmp 24)=vU s.now),(e2:ρ (.tmp 26)=vU s.next),(e3:ρ (.tmp 28)=vU s.leases),(e4:ρ (.tmp 30)=vU s.turns),(e5:(fun _=>True) (ρ (.tmp 31))),(e6:(fun _=>True) (ρ (.tmp 32))),(e7:(fun _=>True) (ρ (.tmp 33))),(e8:ρ (.tmp 34)=pv dp),-⟩:=hk;refine Par.val_k fun K hK=> ?_;unfold Par.val
     (have h14:=hC.notyet 14 13 hL (by kernel_rfl);have h15:=hC.notyet 15 13 hL (by kernel_rfl);have hq:=hR.q hL h14 h15;rw[hC.before 9 (i:=13) rfl hd (by kernel_rfl),hC.before 10 (i:=13) rfl hd (by kernel_rfl),hC.before 11 (i:=13) rfl hd (by kernel_rfl)] at hq;obtain⟨m,p,mt,mp,h,hk,ha,hb,hc⟩:=hq;have s1:ρ (.tmp 31)= .map (some m):=ha rfl;have s2:ρ (.tmp 32)=pv p:=hb rfl;have s3:ρ (.tmp 33)= .map (some h):=hc rfl;have HK:=hid hk;clear ha hb hc hk;go_simp;exact hK _ _ ⟨hR.one h14 h15 (by decide) ⟨m,p,mt,mp,h,rfl,HK.out⟩,trivial⟩)
   refine⟨fun L ρ w' hR hC hL hd hk=> ?_,?_⟩
   · obtain⟨(e0:(fun _=>True) (ρ (.tmp 35))),-⟩:=hk;refine Par.val_k fun K hK=> ?_;unfold Par.val
     (have h15:=hC.notyet 15 14 hL (by kernel_rfl);have hq:=hR.f1 (hC.before 13 (i:=14) rfl hd (by kernel_rfl)) hL h15;obtain⟨m,p,mt,mp,h,s1,hk⟩:=hq;have s1:ρ (.tmp 35)= .agg (ix0 la pa de s m p h dp):=s1;have HK:=hid hk;clear hk;go_simp;exact hK _ _ ⟨hR.two h15 (by decide) (MdF2.of HK.out),trivial⟩)
   refine⟨fun L ρ w' hR hC hL hd hk=> ?_,?_⟩
   · obtain⟨(e0:(fun _=>True) (ρ (.tmp 36))),-⟩:=hk;refine Par.val_k fun K hK=> ?_;unfold Par.val
     (have hq:=hR.f2 (hC.before 14 (i:=15) rfl hd (by kernel_rfl)) hL;have HQ:=hid hq;clear hq;go_simp;exact hK _ _ ⟨hR.three HQ.out,trivial⟩)
   trivial
 intro a' w' inv hR
 have q31:(fun _=>True) (a'.tmps.getD 31 undef):=inv.done 9 _ 31 rfl rfl rfl
 have q32:(fun _=>True) (a'.tmps.getD 32 undef):=inv.done 10 _ 32 rfl rfl rfl
 have q33:(fun _=>True) (a'.tmps.getD 33 undef):=inv.done 11 _ 33 rfl rfl rfl
 have q35:(fun _=>True) (a'.tmps.getD 35 undef):=inv.done 13 _ 35 rfl rfl rfl
 have q36:(fun _=>True) (a'.tmps.getD 36 undef):=inv.done 14 _ 36 rfl rfl rfl
 have q7:(fun _=>True) (a'.tmps.getD 7 undef):=inv.done 15 _ 7 rfl rfl rfl
 have hq:=Par.donesC inv;simp only[Par.donesV,ParC.EQ,true_and,and_true] at hq
 clear inv
 simp only[List.filterMap_cons,List.filterMap_nil,Par.putAll,Act.put,List.setIfInBounds_toArray,List.set_cons_succ,List.set_cons_zero,hq]
 clear hq
 have hp:MdF2 w3 la pa de s dp (a'.tmps.getD 7 undef) w':=Rg.Tri.fin hR (by decide);have HP:=hid hp;clear hp hR
 generalize a'.tmps.getD 31 undef=u31 at*
 generalize a'.tmps.getD 32 undef=u32 at*
 generalize a'.tmps.getD 33 undef=u33 at*
 generalize a'.tmps.getD 35 undef=u35 at*
 generalize a'.tmps.getD 36 undef=u36 at*
 generalize a'.tmps.getD 7 undef=u7 at*
 try clear a'
 obtain⟨m,p,mt,mp,h,X,rfl,hk,hX,hXW,hXn⟩:=HP.out
 have hmx:=MX.start (w0:=w) (la:=la) (pa:=pa) (de:=de) (s:=s) (d:=d) HE3.out.size hk HD.out HLO.out hX hXW hXn
 have HMX:=hid hmx
 have HX3:=hid (HE3.out.trans hk.xx)
 have HBX:=hid (hk.xx.obj HB1.out)
 have HBS:=hid (hk.xx.obj HB2.out)
 have HXW:Hid (w.heap.size≤X):=hid (Nat.le_trans HE3.out.size hXW)
 have HI4:=hid (HI3.out.ext hk.xx)
 have HXG:Hid (g≠X):=hid (fun e=>by
  have h1:=hk.xx.obj HB2.out
  rw[e,hX] at h1
  cases h1)
 clear hk hX hXW hXn hmx HP
 obtain⟨Q0,hQ0⟩:∃Q,baseQ la pa de s d=Q:=⟨_,rfl⟩
 have HQ0:=hid hQ0
 rw[hQ0] at HMX
 clear hQ0
 go_wp2
 go_loopw [37] (fun iv wr=>∃(n:Nat) (x:XP),n≤8∧iv= .int .i64 (n:Int)∧Hid (MX w.heap.size n wr X x Q0)∧Hid (Ext w wr)∧Hid (wr.heap[g]? =some (srO s (.slice ao s.items.length cap) (.slice bo s.dead.length cb) (.slice co s.curs.length cc)))∧Hid (Sl wr 10 (.slice ao s.items.length cap) s.items.length (s.items.flatMap itE))) (fun iv _=>8 - (intOf iv).toNat)
 case atStart=>exact⟨0,_,by omega,rfl,HMX,HX3,HBS,HI4⟩
 case round=>
  clear HMX HX3 HBS HI4
  obtain⟨n,x,hn8,rfl,HM,HX,HS,HI⟩:=hrel
  by_cases hlt:n<8
  · have hki:decide ((n:Int)<8)=true:=by simp;omega
    have HN:=hid hlt
    obtain⟨lc,lf⟩:=HM.out.lcell hlt
    have LC:=hid lc
    have LF:=hid lf
    clear hlt hn8 lc lf
    go_wp2_with fail
    refine ParE.wp_region_e (l:=[_,_,_,_,_,_,_]) rfl (Rg.Ch [2,6] [42] (LnQ wr n w.heap.size X x Q0)) (ParC.VC [ParC.EQ (pv X),ParC.EQ (Value.int .i64 (n:Int)),(fun _=>True),ParC.EQ (pv X),ParC.EQ (Value.pointer (some ⟨X,8,none⟩)),ParC.EQ (Value.pointer (some ⟨X,8+n,none⟩)),fun _=>True]) (by kernel_rfl) (by kernel_rfl) (Rg.Ch.start (Ext.draw _)) ?_ ?_
    · refine⟨fun L ρ w' hR hC hL hd hk=> ?_,?_⟩
      · obtain⟨(e0:ρ (.tmp 7)=pv X),-⟩:=hk;refine Par.val_k fun K hK=> ?_;unfold Par.val
        (go_simp;exact hK _ _ ⟨hR.other (by decide),rfl⟩)
      refine⟨fun L ρ w' hR hC hL hd hk=> ?_,?_⟩
      · obtain⟨(e0:ρ (.tmp 8)=Value.int .i64 (n:Int)),-⟩:=hk;refine Par.val_k fun K hK=> ?_;unfold Par.val
        (go_simp;exact hK _ _ ⟨hR.other (by decide),rfl⟩)
      refine⟨fun L ρ w' hR hC hL hd hk=> ?_,?_⟩
      · obtain⟨e0,-⟩:=hk;refine Par.val_k fun K hK=> ?_;unfold Par.val
        (obtain⟨hq,hs⟩:=hR.go 0 rfl hL (.inl rfl) (by decide);have hx:Ext wr w':=hq;refine Par.val_call Tryz.func124 (by kernel_rfl) rfl e0 ?_;simp only[List.map_toArray,List.map_nil];refine(new_any w').mono ?_;rintro e w5 ⟨p5,m5,rfl,hl5,hx5,hp5,hm5⟩;exact⟨_,rfl,hK _ _ ⟨hs _ _ _ ⟨hx.trans hx5,p5,m5,rfl,hl5,Nat.le_trans hx.size hp5,Nat.le_trans hx.size hm5⟩,trivial⟩⟩)
      refine⟨fun L ρ w' hR hC hL hd hk=> ?_,?_⟩
      · obtain⟨(e0:ρ (.tmp 40)=pv X),-⟩:=hk;refine Par.val_k fun K hK=> ?_;unfold Par.val
        (go_simp;exact hK _ _ ⟨hR.other (by decide),rfl⟩)
      refine⟨fun _ _ _ hR _ _ _ hk=>Par.pv [(43,pv X)] hk (by kernel_rfl) ⟨hR.other (by decide),rfl⟩,?_⟩
      refine⟨fun L ρ w' hR hC hL hd hk=> ?_,?_⟩
      · obtain⟨(e0:ρ (.tmp 44)=Value.pointer (some ⟨X,8,none⟩)),(e1:ρ (.tmp 41)=Value.int .i64 (n:Int)),-⟩:=hk;refine Par.val_k fun K hK=> ?_;unfold Par.val
        (have hlt:(n:Int)<8:=(by have:=HN.out;omega);go_simp;exact hK _ _ ⟨hR.other (by decide),rfl⟩)
      refine⟨fun L ρ w' hR hC hL hd hk=> ?_,?_⟩
      · obtain⟨(e0:ρ (.tmp 45)=Value.pointer (some ⟨X,8+n,none⟩)),(e1:(fun _=>True) (ρ (.tmp 42))),-⟩:=hk;refine Par.val_k fun K hK=> ?_;unfold Par.val
        (obtain⟨hq,hs⟩:=hR.go 1 rfl hL (.inr ⟨2,rfl,hC.before 2 (i:=6) rfl hd (by kernel_rfl)⟩) (by decide);obtain⟨hx,p5,m5,h42,hl5,hp5,hm5⟩:=hq;have s1:ρ (.tmp 42)=pv p5:=h42;have cc:=hx.cell LC.out;have ff:w'.frozen? ⟨X,8+n,none⟩=false:=(by have:=hx.obj HM.out.hd;simp[World.frozen?,this]);have HF:=hid (MX.step HM.out HX.out.size HN.out hx hl5 hp5 hm5);have HFr:Hid (Fr [X] wr (w'.setCell ⟨X,8+n,none⟩ (pv p5))):=hid ((Ext.fr hx).trans (fr_setCell _ _ _ (by simp)));clear h42 hl5 hp5 hm5 hx;go_simp;exact hK _ _ ⟨hs none _ _ ⟨_,HF.out,HFr.out⟩,trivial⟩)
      trivial
    intro a' w' inv hR
    have q42:(fun _=>True) (a'.tmps.getD 42 undef):=inv.done 2 _ 42 rfl rfl rfl
    have hq:=Par.donesC inv;simp only[Par.donesV,ParC.EQ,true_and,and_true] at hq
    clear inv
    simp only[List.filterMap_cons,List.filterMap_nil,Par.putAll,Act.put,List.setIfInBounds_toArray,List.set_cons_succ,List.set_cons_zero,hq]
    clear hq
    have hp:=Rg.Ch.fin hR (by decide) 2 rfl;have HP:=hid hp;clear hp hR
    generalize a'.tmps.getD 42 undef=u42 at*
    try clear a'
    obtain⟨x',hm',hf'⟩:=HP.out
    have HM2:=hid hm'
    have hx2:Ext w w':=Below.trans HX.out (hf'.below (by simp;exact HXW.out) HX.out.size)
    have HX2:=hid hx2
    have hgX:g∉[X]:=by simpa using HXG.out
    have HS2:=hid ((hf'.block g (Array.getElem?_eq_some_iff.1 HS.out).1 hgX).trans HS.out)
    have HI2:Hid (Sl w' 10 (.slice ao s.items.length cap) s.items.length (s.items.flatMap itE)):=hid (HI0.out.ext hx2)
    clear hm' hf' hx2 hgX HP HM HX HS HI
    go_wp2
    go_roundw
    case rel=>exact⟨n+1,x',HN.out,next_i64L (by have:=HN.out;omega),HM2,HX2,HS2,HI2⟩
    case measure=>exact next_lessL (by have:=HN.out;omega) HN.out
  · obtain rfl:n=8:=by omega
    have HIX:=hid (HM.out.done (by intro n;rw[←HQ0.out];rfl))
    obtain⟨y0,y1,y2,y3,y4,y5,y6,y7,-⟩:=blk8 HS.out
    clear hlt hn8 HM
    go_wp2_with fail
    clear y0 y1 y2 y3 y4 y5 y6 y7
    refine(iclone_any wr s.items HI.out (by have:=HL.out;omega)).mono ?_
    rintro e w4 ⟨⟨v,rfl,ho⟩,hx4⟩
    have HIX4:=hid (HIX.out.ext hx4)
    have HX4:=hid (HX.out.trans hx4)
    have HOB:Hid (∀a∈oB v,a∉x.blk X):=hid fun a ha hm=>by
     have h1:=row_lo ho a ha
     have h2:=(HIX.out.blk_lo a hm).2
     omega
    have HO4:=hid (own_lower ho HX.out.size)
    clear ho hx4 HX HS HI HIX
    have hst:=sortI_any cfT 126 s.items HO4.out (by have:=HL.out;omega) swoT enByTurn byTurn_any
    have HST:=hid hst
    clear hst
    go_wp2_with fail
    refine Calls.mono HST.out ?_
    rintro e w5 ⟨rfl,L',hL,hpw,ho5,hf5⟩
    have hx5:Ext w w5:=Below.trans HX4.out (hf5.below (row_lo HO4.out) HX4.out.size)
    have hlen:=hL.length_eq
    rw[←hlen] at ho5
    obtain⟨vo,vk,rfl⟩:=row_shape ho5
    have HX5:=hid hx5
    have HO5:=hid ho5
    have HIX5:Hid (IX w.heap.size w5 X x Q0):=hid (HIX4.out.fr hf5 (fun i hi a ha hm=>HOB.out a hm (XP.mem_blk.2 ⟨i,hi,ha⟩)))
    have HPM:=hid hL
    have HPW:=hid hpw
    have HLL:Hid (L'.length≤200):=hid (by have:=HL.out;omega)
    have HOK2:Hid (∀z∈L',(0≤z.lane∧z.lane<8)∧(z.st=1∨z.st=2∨z.st=3∨z.st=4)∧(z.st=4→(d.rows.lookup z.id).isSome=true)):=hid (fun z hz=>HOK.out z (hL.mem_iff.1 hz))
    have HDD:Hid (Q0.dd=d):=hid (by rw[←HQ0.out];rfl)
    have HC0:Hid (CntK 0 Q0):=hid (by rw[←HQ0.out];exact CntK.base la pa de s d HDR.out)
    clear hL hpw hf5 hlen hx5 ho5 HST HO4 HIX4 HX4 HOK
    go_wp2_with fail
    go_loopw [54] (fun iv wr=>∃(k:Nat) (xr:XP) (qr:QR),k≤L'.length∧iv= .int .i64 (k:Int)∧Hid (IX w.heap.size wr X xr qr)∧Hid (qr=(L'.take k).foldl enterQ Q0∧CntK k qr∧qr.dd=d)∧Hid (Ext w wr)∧Hid (wr.ownsRow w.heap.size 79 10 (.slice vo L'.length vk) L'.length (L'.flatMap itE))∧Hid (∀a∈oB (.slice vo L'.length vk),a∉xr.blk X)) (fun iv _=>L'.length - (intOf iv).toNat)
    case atStart=>exact⟨0,x,Q0,Nat.zero_le _,rfl,HIX5,hid ⟨rfl,HC0.out,HDD.out⟩,HX5,HO5,HOB⟩
    case round=>
     clear HIX5 HX5 HO5 HOB
     obtain⟨k,xr,qr,hk,rfl,HI,HQ,HX,HO,HOB⟩:=hrel
     by_cases hkm:k<L'.length
     · have hki:decide ((k:Int)<(L'.length:Int))=true:=by simp;omega
       obtain⟨a,rfl⟩:∃a,vo=some a:=by
        cases vo with
        |none=>
         obtain⟨h1,-,h3,-⟩:=Sl.cells (Sl.of_owns HO.out)
         have:=h3 rfl
         omega
        |some a=>exact⟨a,rfl⟩
       have HKM:=hid hkm
       obtain⟨z,hz2⟩:∃z,L'[k]? =some z:=⟨_,List.getElem?_eq_getElem hkm⟩
       obtain⟨r0,r1,r2,r3,r4,r5,r6,r7,r8,r9⟩:=row10z (Sl.of_owns HO.out) hz2
       obtain⟨o1,o2,o3⟩:=HOK2.out z (List.mem_of_getElem? hz2)
       have hen:=fun(w':World) (e:Ext wr w')=>enter_any z (HI.out.ext e) (Nat.le_trans HX.out.size e.size) o1 (HQ.out.2.1.entL (by have:=HLL.out;omega))
       have HQ2:Hid (enterQ qr z=(L'.take (k+1)).foldl enterQ Q0∧CntK (k+1) (enterQ qr z)∧(enterQ qr z).dd=d):=hid (by
        obtain⟨q1,q2,q3⟩:=HQ.out
        have ho3:z.st=4→(qr.dd.rows.lookup z.id).isSome=true:=by rw[q3];exact o3
        refine⟨?_,q2.enter o2 ho3,by rw[enterQ_keep qr z ho3,q3]⟩
        obtain⟨hkl,hzz⟩:=List.getElem?_eq_some_iff.1 hz2
        rw[List.take_succ_eq_append_getElem hkl,List.foldl_append,←q1,hzz]
        rfl)
       have HEN:=hid hen
       obtain⟨id,la2,st,ct,du,tk,tu,sg,ps,sz⟩:=z
       dsimp only at r0 r1 r2 r3 r4 r5 r6 r7 r8 r9
       obtain⟨w6,hw6⟩:∃W,wr.alloc (itO ⟨id,la2,st,ct,du,tk,tu,sg,ps,sz⟩)=W:=⟨_,rfl⟩
       have e6:Ext wr w6:=by rw[←hw6];exact Ext.alloc _ _
       have hb6:w6.heap[wr.heap.size]? =some (itO ⟨id,la2,st,ct,du,tk,tu,sg,ps,sz⟩):=by rw[←hw6];exact heap_alloc_new _ _
       obtain⟨d0,d1,d2,d3,d4,d5,d6,d7,d8,d9,-⟩:=blk10 hb6
       have HE6:=hid e6
       clear o1 o2 o3 hz2 hen e6 hb6 hkm hk HQ
       go_wp2_with fail
       clear r0 r1 r2 r3 r4 r5 r6 r7 r8 r9 d0 d1 d2 d3 d4 d5 d6 d7 d8 d9 hw6
       refine(HEN.out _ HE6.out).mono ?_
       rintro e w7 ⟨⟨u,rfl⟩,hstp⟩
       have HSTP:=hid (hstp.pre HE6.out)
       clear hstp
       go_wp2
       go_roundw
       case rel=>
        obtain⟨x7,i7,f7,n7⟩:=HSTP.out
        refine⟨k+1,x7,_,HKM.out,next_i64L (by have:=HKM.out;have:=HLL.out;omega),hid i7,HQ2,hid (Below.trans HX.out (f7.below HI.out.blo HX.out.size)),hid (ownsRow_fr HO.out f7 HOB.out),hid fun a ha hm=> ?_⟩
        rcases n7 a hm with k|k
        · exact HOB.out a ha k
        · obtain⟨cs,hc⟩:=row_kind HO.out a ha
          have:=(Array.getElem?_eq_some_iff.1 hc).1
          omega
       case measure=>exact next_lessL (by have:=HKM.out;have:=HLL.out;omega) HKM.out
     · obtain rfl:k=L'.length:=by omega
       have hki:decide ((L'.length:Int)<(L'.length:Int))=false:=by simp
       clear hkm hk
       go_wp2
       go_returns
       have hq:=HQ.out.1
       rw[List.take_length,←HQ0.out] at hq
       exact⟨X,xr,L',rfl,HPM.out,HPW.out,by rw[←hq];exact HI.out,HX.out⟩
end Go.Proofs.YtcfgafododiioaaGreatDoor
