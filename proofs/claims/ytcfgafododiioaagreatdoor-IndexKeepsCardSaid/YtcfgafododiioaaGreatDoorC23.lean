/- Texts of a claim, side by side. -/
import Derived.Test.YtcfgafododiioaaGreatDoorC22
import Derived.Test.YtcfgafododiioaaGreatDoorC11
set_option linter.unusedSimpArgs false
set_option linter.unusedVariables false
set_option maxRecDepth 100000
namespace Go.Proofs.YtcfgafododiioaaGreatDoor
open Go Go.RowKit Go.Tum Go.ChangeMaps
theorem peekL_skip {q:QR} {lane:Int} {n:Nat} {r:List Nat} (h:lane≠ -1∧lane≠(n:Int)):peekL q lane (n::r)=peekL q lane r:=by
 conv=>lhs;unfold peekL
 rw[if_pos h]
theorem peekL_none {q:QR} {lane:Int} {n:Nat} {r:List Nat} (h:¬(lane≠ -1∧lane≠(n:Int))) (k:q.rows n=[]):peekL q lane (n::r)=peekL q lane r:=by
 conv=>lhs;unfold peekL
 rw[if_neg h,k]
theorem peekL_here {q:QR} {lane:Int} {n:Nat} {r:List Nat} {i:UInt64} {t:List UInt64} (h:¬(lane≠ -1∧lane≠(n:Int))) (k:q.rows n=i::t):peekL q lane (n::r)=(getI q i,0):=by
 conv=>lhs;unfold peekL
 rw[if_neg h,k]
theorem pk_results (tmps:Array Value) (w:World) (b:Nat) (z:It) (h4:tmps.getD 4 undef= .pointer (some ⟨b,0,none⟩)) (m:w.heap[b]? =some (itO z)):
 (results Tryz.f32 tmps).run Tryz.prog w= .ok (.tuple #[itV z,tmps.getD 5 undef]) w:=by
 have h4':tmps[4]?.getD undef= .pointer (some ⟨b,0,none⟩):=by simpa using h4
 obtain⟨m0,m1,m2,m3,m4,m5,m6,m7,m8,m9,-⟩:=blk10 m
 simp[results,Tryz.results32,go_sem,h4',m0,m1,m2,m3,m4,m5,m6,m7,m8,m9]
set_option maxHeartbeats 2000000 in
theorem peek_any {B:Nat} {w:World} {p:Nat} {x:XP} {q:QR} (lane:Int) (h:IX B w p x q) (hq:WQ q):
 Calls Tryz.prog 32 #[pv p,.int .i64 lane] w fun e w'=>e= .returned (.tuple #[itV (peekQ q lane).1,.int .i64 (peekQ q lane).2])∧Ext w w':=by
 obtain⟨w1,hw1⟩:∃W,w.alloc zI=W:=⟨_,rfl⟩
 have e1:Ext w w1:=by rw[←hw1];exact Ext.alloc _ _
 have hb1:w1.heap[w.heap.size]? =some zI:=by rw[←hw1];exact heap_alloc_new _ _
 have h1:=h.ext e1
 have c0:=h1.cells 0 (.int .i64 q.lanes) rfl
 have HX:=hid hb1
 have HE:=hid e1
 have H1:=hid h1
 have HQ:=hid hq
 obtain⟨N0,hN0⟩:∃N,w.heap.size=N:=⟨_,rfl⟩
 have HSZ:=hid hN0
 rw[hN0] at HX
 obtain⟨LN,hLN⟩:∃n:Nat,q.lanes=(n:Int):=⟨q.lanes.toNat,by have:=hq.cf;omega⟩
 have hL8:LN≤8:=by have:=hq.cf;omega
 have HL8:=hid hL8
 have hR:peekQ q lane=if lane< -1∨(LN:Int)≤lane then(it0,1) else peekL q lane (List.range' 0 LN):=by
  unfold peekQ
  rw[hLN,Int.toNat_natCast,List.range_eq_range']
 rw[hLN] at c0
 rw[hR]
 clear h h1 hq e1 hb1 hLN hR
 by_cases hbad:lane< -1∨(LN:Int)≤lane
 · rw[if_pos hbad]
   dsimp only
   by_cases hm:lane< -1
   · have hd:decide (lane< -1)=true:=by simpa using hm
     clear hbad hm
     go_enter Tryz.func32,Tryz.ntmps32
     obtain⟨w6,hW6⟩:∃W,((((((((((w1).setCell ⟨N0,0,none⟩ (.int .u64 0)).setCell ⟨N0,1,none⟩ (.int .i64 0)).setCell ⟨N0,2,none⟩ (.int .i64 0)).setCell ⟨N0,3,none⟩ (.int .i64 0)).setCell ⟨N0,4,none⟩ (.int .u64 0)).setCell ⟨N0,5,none⟩ (.int .u64 0)).setCell ⟨N0,6,none⟩ (.int .u64 0)).setCell ⟨N0,7,none⟩ (.int .u64 0)).setCell ⟨N0,8,none⟩ (.int .u64 0)).setCell ⟨N0,9,none⟩ (.int .i64 0)=W:=⟨_,rfl⟩
     have hE6:setI w1 N0 it0=w6:=by rw[←hW6];rfl
     have hk6:=setI_blk (y:=it0) HX.out it0
     have f6:=setI_fr w1 N0 it0
     rw[hE6] at hk6 f6
     have HK6:=hid hk6
     have HF6:=hid f6
     clear hE6 hk6 f6
     obtain⟨a0,a1,a2,a3,a4,a5,a6,a7,a8,a9,af⟩:=blk10 HX.out
     have af0:=af 0
     have af1:=af 1
     have af2:=af 2
     have af3:=af 3
     have af4:=af 4
     have af5:=af 5
     have af6:=af 6
     have af7:=af 7
     have af8:=af 8
     have af9:=af 9
     clear af
     go_wp2
     refine bodyPost_ret (pk_results _ w6 N0 it0 rfl HK6.out) rfl ?_
     exact⟨rfl,Below.trans HE.out (HF6.out.below (by simp;have:=HSZ.out;omega) HE.out.size)⟩
   · have hd:decide (lane< -1)=false:=by simpa using hm
     have hd2:decide ((LN:Int)≤lane)=true:=by simp;omega
     clear hbad hm
     go_enter Tryz.func32,Tryz.ntmps32
     obtain⟨w6,hW6⟩:∃W,((((((((((w1).setCell ⟨N0,0,none⟩ (.int .u64 0)).setCell ⟨N0,1,none⟩ (.int .i64 0)).setCell ⟨N0,2,none⟩ (.int .i64 0)).setCell ⟨N0,3,none⟩ (.int .i64 0)).setCell ⟨N0,4,none⟩ (.int .u64 0)).setCell ⟨N0,5,none⟩ (.int .u64 0)).setCell ⟨N0,6,none⟩ (.int .u64 0)).setCell ⟨N0,7,none⟩ (.int .u64 0)).setCell ⟨N0,8,none⟩ (.int .u64 0)).setCell ⟨N0,9,none⟩ (.int .i64 0)=W:=⟨_,rfl⟩
     have hE6:setI w1 N0 it0=w6:=by rw[←hW6];rfl
     have hk6:=setI_blk (y:=it0) HX.out it0
     have f6:=setI_fr w1 N0 it0
     rw[hE6] at hk6 f6
     have HK6:=hid hk6
     have HF6:=hid f6
     clear hE6 hk6 f6
     obtain⟨a0,a1,a2,a3,a4,a5,a6,a7,a8,a9,af⟩:=blk10 HX.out
     have af0:=af 0
     have af1:=af 1
     have af2:=af 2
     have af3:=af 3
     have af4:=af 4
     have af5:=af 5
     have af6:=af 6
     have af7:=af 7
     have af8:=af 8
     have af9:=af 9
     clear af
     go_wp2
     refine bodyPost_ret (pk_results _ w6 N0 it0 rfl HK6.out) rfl ?_
     exact⟨rfl,Below.trans HE.out (HF6.out.below (by simp;have:=HSZ.out;omega) HE.out.size)⟩
 · rw[if_neg hbad]
   have hd:decide (lane< -1)=false:=by simp;omega
   have hd2:decide ((LN:Int)≤lane)=false:=by simp;omega
   have HBD:=hid hbad
   obtain⟨RR,hRR⟩:∃r,peekL q lane (List.range' 0 LN)=r:=⟨_,rfl⟩
   have HRR:=hid hRR
   rw[hRR]
   clear hbad hRR
   go_enter Tryz.func32,Tryz.ntmps32
   go_wp2
   clear hd hd2
   go_loopw [26] (fun i wr=>∃n:Nat,n≤LN∧i= .int .i64 n∧Hid (peekL q lane (List.range' n (LN - n))=RR)∧Hid (IX B wr p x q)∧Hid (wr.heap[N0]? =some zI)∧Hid (Ext w wr)) (fun i _=>LN - (intOf i).toNat)
   case atStart=>exact⟨0,Nat.zero_le _,rfl,HRR,H1,HX,HE⟩
   case round=>
    obtain⟨n,hn,rfl,HP,HI,HX,HE⟩:=hrel
    by_cases hlt:n<LN
    · have hi1:decide ((n:Int)<LN)=true:=by simp;omega
      have HLT:=hid hlt
      have hrg:List.range' n (LN - n)=n::List.range' (n+1) (LN - (n+1)):=by
       rw[show LN - n=(LN - (n+1))+1 by omega,List.range'_succ]
      have hL8:=HL8.out
      by_cases hsk:lane≠ -1∧lane≠(n:Int)
      · have HP2:Hid (peekL q lane (List.range' (n+1) (LN - (n+1)))=RR):=hid (by rw[←HP.out,hrg,peekL_skip hsk])
        have hk1:(lane !=(-1:Int))=true:=by simpa using hsk.1
        have hk2:(lane !=(n:Int))=true:=by simpa using hsk.2
        clear hsk hrg
        go_wp2
        go_roundw
        case rel=>exact⟨n+1,HLT.out,by go_num,HP2,HI,HX,HE⟩
        case measure=>
         have:=HLT.out
         simp[intOf];omega
      · have kl:=HI.out.lcell (n:=n) (by omega)
        have c7:=HI.out.cells 7 (.map (some x.mi)) rfl
        have HF:=hid (first_any wr _ _ _ (HI.out.ln n (by omega)))
        have hid2:=HI.out.rw n (by omega)
        have HSK:=hid hsk
        have HRG:=hid hrg
        have hlt8:(n:Int)<8:=by omega
        have hk1:(lane !=(-1:Int))=decide (lane≠ -1):=by by_cases e:lane= -1<;>simp[e]
        obtain⟨kk,hkk⟩:∃b,(lane !=(-1:Int))=b:=⟨_,rfl⟩
        have hk2:kk=true→(lane !=(n:Int))=false:=fun e=>by
         rw[e] at hkk
         have h5:lane≠ -1:=by simpa using hkk
         have h6:lane=(n:Int):=Classical.byContradiction fun k=>hsk ⟨h5,k⟩
         simp[h6]
        clear hsk hrg hk1
        cases kk
        all_goals
         first
         |(have hk2':=hk2 rfl;clear hk2)
         |clear hk2
         cases hl:(x.lp n).2.2 with
         |nil=>
          rw[hl] at HF hid2
          have hrow:q.rows n=[]:=hid2.symm
          have HP2:Hid (peekL q lane (List.range' (n+1) (LN - (n+1)))=RR):=hid (by rw[←HP.out,HRG.out,peekL_none HSK.out hrow])
          have hv:firstV ([]:List (UInt64×Nat))= .tuple #[.int .u64 0,.bool false]:=rfl
          rw[hv] at HF
          clear hl hid2 hrow hv
          go_wp2_with fail
          refine HF.out.mono ?_
          rintro e w3 ⟨rfl,hx⟩
          have HI3:=hid (HI.out.ext hx)
          have HX3:=hid (hx.obj HX.out)
          have HE3:=hid (HE.out.trans hx)
          clear hx HF
          go_wp2
          go_roundw
          case rel=>exact⟨n+1,HLT.out,by go_num,HP2,HI3,HX3,HE3⟩
          case measure=>
           have:=HLT.out
           simp[intOf];omega
         |cons y r=>
          obtain⟨y,yb⟩:=y
          rw[hl] at HF hid2
          have hrow:q.rows n=y::ids r:=hid2.symm
          have hRR:RR=(getI q y,0):=by rw[←HP.out,HRG.out,peekL_here HSK.out hrow]
          subst hRR
          have hv:firstV ((y,yb)::r)= .tuple #[vU y,.bool true]:=rfl
          rw[hv] at HF
          obtain⟨⟨id,la,st,ct,du,tk,tu,sg,ps,sz⟩,hz⟩:∃z,getI q y=z:=⟨_,rfl⟩
          have HZ:=hid hz
          clear hl hid2 hrow hv hz HRR
          go_wp2_with fail
          refine HF.out.mono ?_
          rintro e w3 ⟨rfl,hx⟩
          have HI:=hid (HI.out.ext hx)
          have HX:=hid (hx.obj HX.out)
          have HE:=hid (HE.out.trans hx)
          have c7:=HI.out.cells 7 (.map (some x.mi)) rfl
          have hlk:(Instr.lookup 129 (.map (some x.mi)) (vU y) false).run Tryz.prog w3= .ok (itV ⟨id,la,st,ct,du,tk,tu,sg,ps,sz⟩) w3:=by
           have:=HI.out.im.look Tryz.underlying129 y
           have hz':(q.its.lookup y).getD it0=⟨id,la,st,ct,du,tk,tu,sg,ps,sz⟩:=HZ.out
           rw[hz'] at this
           exact this
          clear hx HF
          obtain⟨w6,hW6⟩:∃W,((((((((((w3).setCell ⟨N0,0,none⟩ (vU id)).setCell ⟨N0,1,none⟩ (.int .i64 la)).setCell ⟨N0,2,none⟩ (.int .i64 st)).setCell ⟨N0,3,none⟩ (.int .i64 ct)).setCell ⟨N0,4,none⟩ (vU du)).setCell ⟨N0,5,none⟩ (vU tk)).setCell ⟨N0,6,none⟩ (vU tu)).setCell ⟨N0,7,none⟩ (vU sg)).setCell ⟨N0,8,none⟩ (vU ps)).setCell ⟨N0,9,none⟩ (.int .i64 sz)=W:=⟨_,rfl⟩
          have hE6:setI w3 N0 ⟨id,la,st,ct,du,tk,tu,sg,ps,sz⟩=w6:=by rw[←hW6];rfl
          have hk6:=setI_blk (y:=it0) HX.out ⟨id,la,st,ct,du,tk,tu,sg,ps,sz⟩
          have f6:=setI_fr w3 N0 ⟨id,la,st,ct,du,tk,tu,sg,ps,sz⟩
          rw[hE6] at hk6 f6
          have HK6:=hid hk6
          have HF6:=hid f6
          clear hE6 hk6 f6
          obtain⟨a0,a1,a2,a3,a4,a5,a6,a7,a8,a9,af⟩:=blk10 HX.out
          have af0:=af 0
          have af1:=af 1
          have af2:=af 2
          have af3:=af 3
          have af4:=af 4
          have af5:=af 5
          have af6:=af 6
          have af7:=af 7
          have af8:=af 8
          have af9:=af 9
          clear af
          go_wp2
          refine bodyPost_ret (pk_results _ w6 N0 ⟨id,la,st,ct,du,tk,tu,sg,ps,sz⟩ rfl HK6.out) rfl ?_
          exact⟨by rw[HZ.out];rfl,Below.trans HE.out (HF6.out.below (by simp;have:=HSZ.out;omega) HE.out.size)⟩
    · obtain rfl:n=LN:=by omega
      have hP:=HP.out
      rw[Nat.sub_self] at hP
      have hP2:RR=(it0,11):=by rw[←hP];rfl
      subst hP2
      clear hP
      obtain⟨w6,hW6⟩:∃W,((((((((((wr).setCell ⟨N0,0,none⟩ (.int .u64 0)).setCell ⟨N0,1,none⟩ (.int .i64 0)).setCell ⟨N0,2,none⟩ (.int .i64 0)).setCell ⟨N0,3,none⟩ (.int .i64 0)).setCell ⟨N0,4,none⟩ (.int .u64 0)).setCell ⟨N0,5,none⟩ (.int .u64 0)).setCell ⟨N0,6,none⟩ (.int .u64 0)).setCell ⟨N0,7,none⟩ (.int .u64 0)).setCell ⟨N0,8,none⟩ (.int .u64 0)).setCell ⟨N0,9,none⟩ (.int .i64 0)=W:=⟨_,rfl⟩
      have hE6:setI wr N0 it0=w6:=by rw[←hW6];rfl
      have hk6:=setI_blk (y:=it0) HX.out it0
      have f6:=setI_fr wr N0 it0
      rw[hE6] at hk6 f6
      have HK6:=hid hk6
      have HF6:=hid f6
      clear hE6 hk6 f6
      obtain⟨a0,a1,a2,a3,a4,a5,a6,a7,a8,a9,af⟩:=blk10 HX.out
      have af0:=af 0
      have af1:=af 1
      have af2:=af 2
      have af3:=af 3
      have af4:=af 4
      have af5:=af 5
      have af6:=af 6
      have af7:=af 7
      have af8:=af 8
      have af9:=af 9
      clear af
      go_wp2
      refine bodyPost_ret (pk_results _ w6 N0 it0 rfl HK6.out) rfl ?_
      exact⟨rfl,Below.trans HE.out (HF6.out.below (by simp;have:=HSZ.out;omega) HE.out.size)⟩
end Go.Proofs.YtcfgafododiioaaGreatDoor
namespace Go.Rg
open Go.RowKit Go.Tum
open Go.ParB (upd Lof)
open Go.ParE (putS slotsR slots Closed)
structure Yy (ka kb d kz:Nat) (Q:Bool→Bool→Value→World→Prop) (F:Value→World→Prop) (L:Nat→Bool) (σ:Nat→Value) (w:World):Prop where
 q:L kz=false→Q (L ka) (L kb) (σ d) w
 f:L kz=true→F (σ d) w
section
variable {w w' : World} {ka kb d kz : Nat} {Q : Bool → Bool → Value → World → Prop} {F : Value → World → Prop} {L : Nat → Bool} {σ : Nat → Value}
theorem Yy.start (h:∀v,Q false false v w):Yy ka kb d kz Q F (fun _=>false) σ w:=⟨fun _=>h _,fun h=>by simp at h⟩
theorem Yy.other (h:Yy ka kb d kz Q F L σ w) {i:Nat} {e:Option Nat} {v:Value} (hi:(ka≠i∧kb≠i∧kz≠i)∧e≠some d):Yy ka kb d kz Q F (upd L i) (putS σ e v) w:=by
 have e1:putS σ e v d=σ d:=by unfold putS;rw[if_neg hi.2]
 exact⟨by rw[updN hi.1.1,updN hi.1.2.1,updN hi.1.2.2,e1];exact h.q,by rw[updN hi.1.2.2,e1];exact h.f⟩
theorem Yy.a (h:Yy ka kb d kz Q F L σ w) (hz:L kz=false) (ha:L ka=false) {e:Option Nat} {v:Value} (hi:kb≠ka∧kz≠ka) (he:e≠some d) (hq:Q false (L kb) (σ d) w→Q true (L kb) (σ d) w'):Yy ka kb d kz Q F (upd L ka) (putS σ e v) w':=by
 have e1:putS σ e v d=σ d:=by unfold putS;rw[if_neg he]
 refine⟨fun _=> ?_,fun k=>by rw[updN hi.2,hz] at k;cases k⟩
 rw[updE,updN hi.1,e1]
 have:=h.q hz
 rw[ha] at this
 exact hq this
theorem Yy.b (h:Yy ka kb d kz Q F L σ w) (hz:L kz=false) (hb:L kb=false) {v:Value} (hi:ka≠kb∧kz≠kb) (hq:Q (L ka) false (σ d) w→Q (L ka) true v w'):Yy ka kb d kz Q F (upd L kb) (putS σ (some d) v) w':=by
 have e1:putS σ (some d) v d=v:=by unfold putS;rw[if_pos rfl]
 refine⟨fun _=> ?_,fun k=>by rw[updN hi.2,hz] at k;cases k⟩
 rw[updE,updN hi.1,e1]
 have:=h.q hz
 rw[hb] at this
 exact hq this
theorem Yy.z (h:Yy ka kb d kz Q F L σ w) {e:Option Nat} {v:Value} (he:e≠some d) (hf:F (σ d) w'):Yy ka kb d kz Q F (upd L kz) (putS σ e v) w':=by
 have e1:putS σ e v d=σ d:=by unfold putS;rw[if_neg he]
 exact⟨fun k=>(by rw[updE] at k;cases k),fun _=>by rw[e1];exact hf⟩
theorem Yy.fin {m:Nat} (h:Yy ka kb d kz Q F (Lof (Array.replicate m true)) σ w) (hm:kz<m):F (σ d) w:=h.f (by unfold Lof;simp[Array.getElem?_replicate,hm])
end
end Go.Rg
set_option maxRecDepth 100000
namespace Go.Proofs.YtcfgafododiioaaGreatDoor
open Go Go.RowKit Go.Tum Go.ChangeMaps
open Go.ParB (upd Lof)
open Go.ParE (putS slotsR slots Closed)
def PutA (B:Nat) (W:World) (p:Nat) (x:XP) (q Q1:QR) (a b:Bool) (v:Value) (w':World):Prop:=
 ∃x',IX B w' p x' (if a then Q1 else q)∧(a=false→Ext W w'∧x'=x)∧Fr (x.blk p) W w'∧(∀y∈x'.blk p,y∈x.blk p∨W.heap.size≤y)∧(b=true→∃g,v=pv g∧w'.heap[g]? =some zI∧W.heap.size≤g∧g∉x'.blk p)
def PutF (B:Nat) (W:World) (p:Nat) (x:XP) (Q1:QR) (Y:It) (v:Value) (w':World):Prop:=
 ∃x' g,IX B w' p x' Q1∧Fr (x.blk p) W w'∧(∀y∈x'.blk p,y∈x.blk p∨W.heap.size≤y)∧v=pv g∧w'.heap[g]? =some (itO Y)∧g∉x'.blk p
section
variable {B : Nat} {W w w' : World} {p : Nat} {x : XP} {q Q1 : QR} {v : Value} {b : Bool}
theorem PutA.turn (h:PutA B W p x q Q1 false b v w) (hs:XStp B w p x Q1 w'):PutA B W p x q Q1 true b v w':=by
 obtain⟨x',i,e0,f,n,g0⟩:=h
 obtain⟨e,rfl⟩:=e0 rfl
 obtain⟨x2,i2,f2,n2⟩:=hs
 refine⟨x2,i2,(fun k=>by cases k),f.trans f2,fun y hy=>(n2 y hy).imp id fun k=>Nat.le_trans e.size k,fun hb=> ?_⟩
 obtain⟨g,rfl,hg,hl,hn⟩:=g0 hb
 obtain⟨k1,k2⟩:=keepF f2 n2 hg hn
 exact⟨g,rfl,k1,hl,k2⟩
theorem PutA.make {a:Bool} (h:PutA B W p x q Q1 a false v w):PutA B W p x q Q1 a true (pv w.heap.size) (w.alloc zI):=by
 obtain⟨x',i,e,f,n,-⟩:=h
 refine⟨x',i.ext (Ext.alloc _ _),fun k=>⟨(e k).1.trans (Ext.alloc _ _),(e k).2⟩,f.trans (Ext.fr (Ext.alloc _ _)),n,fun _=>⟨w.heap.size,rfl,heap_alloc_new _ _,f.size,i.new_nin⟩⟩
theorem PutA.fill (h:PutA B W p x q Q1 true true v w) (Y:It):∃g,v=pv g∧w.heap[g]? =some zI∧PutF B W p x Q1 Y v (setI w g Y):=by
 obtain⟨x',i,-,f,n,g0⟩:=h
 obtain⟨g,rfl,hg,hl,hn⟩:=g0 rfl
 refine⟨g,rfl,hg,x',g,i.fr (setI_fr w g Y) (fun k hk a ha hm=>hn (by rw[List.mem_singleton] at hm;rw[←hm];exact XP.mem_blk.2 ⟨k,hk,ha⟩)),?_,n,rfl,setI_blk (y:=it0) (show w.heap[g]? =some (itO it0) from hg) Y,hn⟩
 refine(fr_cat f (setI_fr w g Y)).wider fun a ha=> ?_
 rcases List.mem_append.1 ha with k|k
 · exact .inl k
 · rw[List.mem_singleton] at k;rw[k];exact .inr hl
end
abbrev whO (sg ps:UInt64) (size:Int):Obj:= .cells #[vU sg,vU ps,.int .i64 size] 38 (0,0)
theorem blk3w {w:World} {b:Nat} {v0 v1 v2:Value} {ty:TypeId} (h:w.heap[b]? =some (.cells #[v0,v1,v2] ty (0,0))):w.cell? ⟨b,0,none⟩=some v0∧w.cell? ⟨b,1,none⟩=some v1∧w.cell? ⟨b,2,none⟩=some v2:=by
 refine⟨?_,?_,?_⟩<;>(rw[cell_of_row _ _ _ _ _ _ h];rfl)
set_option maxHeartbeats 4000000 in
theorem put_any11 {B:Nat} {w:World} {p:Nat} {x:XP} {q:QR} (lane:Int) (delay sg ps:UInt64) (size:Int) (h:IX B w p x q) (hB:B≤w.heap.size) (hq:WQ q):
 Calls Tryz.prog 31 #[pv p,.int .i64 lane,vU delay,.agg #[vU sg,vU ps,.int .i64 size]] w fun e w'=>e= .returned (.tuple #[vU (putQ q lane delay sg ps size).1,.int .i64 (putQ q lane delay sg ps size).2.1])∧XStp B w p x (putQ q lane delay sg ps size).2.2 w':=by
 obtain⟨w1,hw1⟩:∃W,w.alloc (whO sg ps size)=W:=⟨_,rfl⟩
 have e1:Ext w w1:=by rw[←hw1];exact Ext.alloc _ _
 have hb1:w1.heap[w.heap.size]? =some (whO sg ps size):=by rw[←hw1];exact heap_alloc_new _ _
 have h1:=h.ext e1
 have c0:=h1.cells 0 (.int .i64 q.lanes) rfl
 have c1:=h1.cells 1 (.int .i64 q.pay) rfl
 obtain⟨k0,k1,k2⟩:=blk3w hb1
 have H1:=hid h1
 have HE1:=hid e1
 have HB1:=hid hb1
 have HQ:=hid hq
 have HB0:=hid (Nat.le_trans hB e1.size)
 have HNI:=hid h.new_nin
 clear h h1 e1 hb1 hq hB k0 k1
 by_cases d1:lane<0
 · have hp:putQ q lane delay sg ps size=(0,1,q):=by unfold putQ;rw[if_pos (.inl d1)]
   rw[hp]
   have b1:decide (lane<0)=true:=by simpa using d1
   clear hp d1
   go_enter Tryz.func31,Tryz.ntmps31
   go_wp2_with fail
   go_quiet (fail)
   go_wp2
   go_returns
   exact⟨rfl,XStp.same H1.out (Ext.drewN _ _)|>.pre HE1.out⟩
 have b1:decide (lane<0)=false:=by simpa using d1
 by_cases d2:q.lanes≤lane
 · have hp:putQ q lane delay sg ps size=(0,1,q):=by unfold putQ;rw[if_pos (.inr (.inl d2))]
   rw[hp]
   have b2:decide (q.lanes≤lane)=true:=by simpa using d2
   clear hp d1 d2
   go_enter Tryz.func31,Tryz.ntmps31
   go_wp2_with fail
   go_quiet (fail)
   go_wp2
   go_returns
   exact⟨rfl,XStp.same H1.out (Ext.drewN _ _)|>.pre HE1.out⟩
 have b2:decide (q.lanes≤lane)=false:=by simpa using d2
 by_cases d3:size<0
 · have hp:putQ q lane delay sg ps size=(0,1,q):=by unfold putQ;rw[if_pos (.inr (.inr (.inl d3)))]
   rw[hp]
   have b3:decide (size<0)=true:=by simpa using d3
   clear hp d1 d2 d3
   go_enter Tryz.func31,Tryz.ntmps31
   go_wp2_with fail
   go_quiet (fail)
   go_wp2
   go_returns
   exact⟨rfl,XStp.same H1.out (Ext.drewN _ _)|>.pre HE1.out⟩
 have b3:decide (size<0)=false:=by simpa using d3
 by_cases d4:q.pay<size
 · have hp:putQ q lane delay sg ps size=(0,1,q):=by unfold putQ;rw[if_pos (.inr (.inr (.inr d4)))]
   rw[hp]
   have b4:decide (q.pay<size)=true:=by simpa using d4
   clear hp d1 d2 d3 d4
   go_enter Tryz.func31,Tryz.ntmps31
   go_wp2_with fail
   go_quiet (fail)
   go_wp2
   go_returns
   exact⟨rfl,XStp.same H1.out (Ext.drewN _ _)|>.pre HE1.out⟩
 have b4:decide (q.pay<size)=false:=by simpa using d4
 have hbad:¬(lane<0∨q.lanes≤lane∨size<0∨q.pay<size):=by omega
 obtain⟨R,hR⟩:∃R,putQ q lane delay sg ps size=R:=⟨_,rfl⟩
 have HR:=hid hR
 rw[hR]
 have HLN:Hid (0≤lane∧lane<8):=hid (by have:=HQ.out.cf;omega)
 have HBAD:=hid hbad
 clear hR d1 d2 d3 d4 hbad
 go_enter Tryz.func31,Tryz.ntmps31
 go_wp2_with fail
 go_quiet (fail)
 clear c0 c1 k2 b1 b2 b3 b4
 obtain⟨W,hW⟩:∃W,w1.drewN nq=W:=⟨_,rfl⟩
 have E1:Ext w1 W:=by rw[←hW];exact Ext.drewN _ _
 rw[hW]
 clear hW hw1
 have H2:=hid (H1.out.ext E1)
 have HE2:=hid (HE1.out.trans E1)
 have HB2:=hid (E1.obj HB1.out)
 have HBW:=hid (Nat.le_trans HB0.out E1.size)
 have c7:=H2.out.cells 7 (.map (some x.mi)) rfl
 have c3:=H2.out.cells 3 (vU q.now) rfl
 have c4:=H2.out.cells 4 (vU q.next) rfl
 have hlen:∀ty,(Builtin.len_ #[129] ty #[.map (some x.mi)]).run Tryz.prog W= .ok (.int .i64 (q.its.length:Nat)) W:=fun ty=>H2.out.im.len Tryz.underlying129 ty
 clear E1
 by_cases f1:200≤q.its.length
 · have g1:decide ((200:Int)≤(q.its.length:Nat))=true:=by simp;omega
   have hp:R=(0,4,q):=by rw[←HR.out];unfold putQ;rw[if_neg HBAD.out,if_pos f1]
   have HP:=hid hp
   clear f1 hp
   go_wp2
   go_returns
   rw[HP.out]
   exact⟨rfl,(XStp.same H2.out (Ext.refl _)).pre HE2.out⟩
 have g1:decide ((200:Int)≤(q.its.length:Nat))=false:=by simp;omega
 have F1:=hid f1
 clear f1
 by_cases f2:q.next=0
 · have g2:(((q.next.toNat:Nat):Int)==0)=true:=by rw[f2];rfl
   have hp:R=(0,10,q):=by rw[←HR.out];unfold putQ;rw[if_neg HBAD.out,if_neg F1.out,if_pos f2]
   have HP:=hid hp
   clear f2 hp
   go_wp2
   go_returns
   rw[HP.out]
   exact⟨rfl,(XStp.same H2.out (Ext.refl _)).pre HE2.out⟩
 have g2:(((q.next.toNat:Nat):Int)==0)=false:=by
  rw[beq_eq_false_iff_ne]
  intro e
  exact f2 (UInt64.toNat_inj.1 (by rw[show(0:UInt64).toNat=0 from rfl];omega))
 have F2:=hid f2
 clear f2
 go_wp2_with fail
 have hu:=wait_u l0 q.now delay
 obtain⟨⟨⟨s,c,d,t⟩,er⟩,hr⟩:∃r,waitL l0 q.now.toNat delay.toNat=r:=⟨_,rfl⟩
 have hc:=born_any (q.now.toNat:Int) (delay.toNat:Int) ⟨Int.natCast_nonneg _,by have:=q.now.toNat_lt;omega⟩ ⟨Int.natCast_nonneg _,by have:=delay.toNat_lt;omega⟩ W
 rw[hr] at hu hc
 refine Calls.mono hc ?_
 clear hc c7 c3 c4 hlen g1 g2
 rintro e w3 ⟨rfl,hx⟩
 obtain⟨w4,hw4⟩:∃W,w3.alloc (lfO ⟨s,c,d,t⟩)=W:=⟨_,rfl⟩
 have e4:Ext w3 w4:=by rw[←hw4];exact Ext.alloc _ _
 have hb4:w4.heap[w3.heap.size]? =some (lfO ⟨s,c,d,t⟩):=by rw[←hw4];exact heap_alloc_new _ _
 have H4:=hid (H2.out.ext (hx.trans e4))
 have HE4:=hid (HE2.out.trans (hx.trans e4))
 have HB4:=hid (Nat.le_trans HBW.out (hx.trans e4).size)
 have hbw:=(hx.trans e4).obj HB2.out
 obtain⟨k0,k1,k2⟩:=blk3w hbw
 obtain⟨l0,l1,l2,l3⟩:=blk4 hb4
 have K0:=hid k0
 have K1:=hid k1
 have K2:=hid k2
 have L0:=hid l0
 have L1:=hid l1
 have L2:=hid l2
 have L3:=hid l3
 have C4:Hid (w4.cell? ⟨p,4,none⟩=some (vU q.next)):=hid (H4.out.cells 4 _ rfl)
 have HU:=hid hu
 have HRR:=hid hr
 obtain⟨N0,hN0⟩:∃N,w.heap.size=N:=⟨_,rfl⟩
 obtain⟨N3,hN3⟩:∃N,w3.heap.size=N:=⟨_,rfl⟩
 rw[hN0] at K0 K1 K2
 rw[hN3] at L0 L1 L2 L3
 clear hx e4 hb4 hbw k0 k1 k2 l0 l1 l2 l3 hu hr H2 HE2 HB2 HBW
 by_cases he:er=0
 case neg=>
  have hne:(er !=(0:Int))=true:=by simpa using he
  have hp:R=(0,er,q):=by
   rw[←HR.out];unfold putQ
   rw[if_neg HBAD.out,if_neg F1.out,if_neg F2.out,HRR.out,if_pos he]
  have HP:=hid hp
  clear he hp
  go_wp2
  go_returns
  rw[HP.out]
  exact⟨rfl,(XStp.same H4.out (Ext.refl _)).pre HE4.out⟩
 subst he
 have hbc:=fun(w5:World) (hx:Ext w4 w5)=>becW_any (q:=q) (newI q lane sg ps size) ⟨s,c,d,t⟩ (H4.out.ext hx) (Nat.le_trans HB4.out hx.size) HQ.out HLN.out HU.out.1 HU.out.2
 have hp:R=(q.next,0,{becQ q (newI q lane sg ps size) ⟨s,c,d,t⟩ with next:=q.next+1}):=by
  rw[←HR.out];unfold putQ
  rw[if_neg HBAD.out,if_neg F1.out,if_neg F2.out,HRR.out,if_neg (by simp)]
 have hyid:(becI q (newI q lane sg ps size) ⟨s,c,d,t⟩).id=q.next:=rfl
 obtain⟨Q1,hQ1⟩:∃Q,becQ q (newI q lane sg ps size) ⟨s,c,d,t⟩=Q:=⟨_,rfl⟩
 have hQn:Q1.next=q.next:=by rw[←hQ1];exact(becQ_same _ _ _).2.2.2.2.1
 obtain⟨⟨yi,yl,ys,yc,yd,yt,yu,yg,yp,yz⟩,hy⟩:∃y,becI q (newI q lane sg ps size) ⟨s,c,d,t⟩=y:=⟨_,rfl⟩
 rw[hQ1] at hbc hp
 rw[hy] at hbc hyid
 obtain rfl:yi=q.next:=hyid
 unfold newI at hbc
 have HBC:=hid hbc
 have HP:=hid hp
 have HQN:=hid hQn
 clear hbc hp hQ1 hy hQn
 go_wp2_with fail
 refine ParE.wp_region_e (l:=[_,_,_,_,_,_,_,_,_,_,_,_]) rfl (Rg.Yy 9 10 12 11 (PutA B w4 p x q Q1) (PutF B w4 p x Q1 ⟨q.next,yl,ys,yc,yd,yt,yu,yg,yp,yz⟩)) (ParC.VC [ParC.EQ (pv p),ParC.EQ (pv p),ParC.EQ (pv p),ParC.EQ (Value.pointer (some ⟨p,4,none⟩)),ParC.EQ (vU q.next),ParC.EQ (Value.int .i64 lane),ParC.EQ (Value.agg #[vU sg,vU ps,.int .i64 size]),ParC.EQ (itV ⟨q.next,lane,0,0,0,0,0,sg,ps,size⟩),ParC.EQ (lv ⟨s,c,d,t⟩),ParC.EQ (itV ⟨q.next,yl,ys,yc,yd,yt,yu,yg,yp,yz⟩),(fun _=>True),fun _=>True]) (by kernel_rfl) (by kernel_rfl) (Rg.Yy.start fun v=>⟨x,H4.out.ext (Ext.draw _),fun _=>⟨Ext.draw _,rfl⟩,Ext.fr (Ext.draw _),fun y hy=> .inl hy,fun k=>by cases k⟩) ?_ ?_
 · refine⟨fun L ρ w' hR hC hL hd hk=> ?_,?_⟩
   · obtain⟨(e0:ρ (.tmp 0)=pv p),-⟩:=hk;refine Par.val_k fun K hK=> ?_;unfold Par.val
     (go_simp;exact hK _ _ ⟨hR.other (by decide),rfl⟩)
   refine⟨fun L ρ w' hR hC hL hd hk=> ?_,?_⟩
   · obtain⟨(e0:ρ (.tmp 0)=pv p),-⟩:=hk;refine Par.val_k fun K hK=> ?_;unfold Par.val
     (go_simp;exact hK _ _ ⟨hR.other (by decide),rfl⟩)
   refine⟨fun L ρ w' hR hC hL hd hk=> ?_,?_⟩
   · obtain⟨(e0:ρ (.tmp 66)=pv p),-⟩:=hk;refine Par.val_k fun K hK=> ?_;unfold Par.val
     (go_simp;exact hK _ _ ⟨hR.other (by decide),rfl⟩)
   refine⟨fun _ _ _ hR _ _ _ hk=>Par.pv [(67,pv p)] hk (by kernel_rfl) ⟨hR.other (by decide),rfl⟩,?_⟩
   refine⟨fun L ρ w' hR hC hL hd hk=> ?_,?_⟩
   · obtain⟨(e0:ρ (.tmp 68)=Value.pointer (some ⟨p,4,none⟩)),-⟩:=hk;refine Par.val_k fun K hK=> ?_;unfold Par.val
     (have h9:=hC.notyet 9 4 hL (by kernel_rfl);have h11:=hC.notyet 11 4 hL (by kernel_rfl);obtain⟨x9,i9,e9,-⟩:=hR.q h11;have hx:=(e9 h9).1;clear i9 e9;have cc:=hx.cell C4.out;go_simp;exact hK _ _ ⟨hR.other (by decide),rfl⟩)
   refine⟨fun L ρ w' hR hC hL hd hk=> ?_,?_⟩
   · obtain⟨(e0:ρ (.tmp 1)=Value.int .i64 lane),-⟩:=hk;refine Par.val_k fun K hK=> ?_;unfold Par.val
     (go_simp;exact hK _ _ ⟨hR.other (by decide),rfl⟩)
   refine⟨fun L ρ w' hR hC hL hd hk=> ?_,?_⟩
   · obtain⟨(e0:ρ (.tmp 7)=pv N0),-⟩:=hk;refine Par.val_k fun K hK=> ?_;unfold Par.val
     (have h9:=hC.notyet 9 6 hL (by kernel_rfl);have h11:=hC.notyet 11 6 hL (by kernel_rfl);obtain⟨x9,i9,e9,-⟩:=hR.q h11;have hx:=(e9 h9).1;clear i9 e9;have cc0:=hx.cell K0.out;have cc1:=hx.cell K1.out;have cc2:=hx.cell K2.out;go_simp;exact hK _ _ ⟨hR.other (by decide),rfl⟩)
   refine⟨fun L ρ w' hR hC hL hd hk=> ?_,?_⟩
   · obtain⟨(e0:ρ (.tmp 69)=vU q.next),(e1:ρ (.tmp 70)=Value.int .i64 lane),(e2:ρ (.tmp 71)=Value.agg #[vU sg,vU ps,.int .i64 size]),-⟩:=hk;refine Par.val_k fun K hK=> ?_;unfold Par.val
     (go_simp;exact hK _ _ ⟨hR.other (by decide),rfl⟩)
   refine⟨fun L ρ w' hR hC hL hd hk=> ?_,?_⟩
   · obtain⟨(e0:ρ (.tmp 10)=pv N3),-⟩:=hk;refine Par.val_k fun K hK=> ?_;unfold Par.val
     (have h9:=hC.notyet 9 8 hL (by kernel_rfl);have h11:=hC.notyet 11 8 hL (by kernel_rfl);obtain⟨x9,i9,e9,-⟩:=hR.q h11;have hx:=(e9 h9).1;clear i9 e9;have cc0:=hx.cell L0.out;have cc1:=hx.cell L1.out;have cc2:=hx.cell L2.out;have cc3:=hx.cell L3.out;go_simp;exact hK _ _ ⟨hR.other (by decide),rfl⟩)
   refine⟨fun L ρ w' hR hC hL hd hk=> ?_,?_⟩
   · obtain⟨e0,(e1:ρ (.tmp 65)=pv p),(e2:ρ (.tmp 72)=itV ⟨q.next,lane,0,0,0,0,0,sg,ps,size⟩),(e3:ρ (.tmp 73)=lv ⟨s,c,d,t⟩),-⟩:=hk;refine Par.val_k fun K hK=> ?_;unfold Par.val
     (have h11:=hC.notyet 11 9 hL (by kernel_rfl);have hq:=hR.q h11;rw[hL] at hq;have hq2:=hq;obtain⟨x9,i9,e9,-⟩:=hq2;have hx:=(e9 rfl).1;clear i9 e9;refine Par.val_call Tryz.func76 (by kernel_rfl) rfl e0 ?_;simp only[List.map_toArray,List.map_cons,List.map_nil,e1,e2,e3];refine(HBC.out _ hx).mono ?_;rintro e w2 ⟨rfl,hs⟩;exact⟨_,rfl,hK _ _ ⟨hR.a h11 hL (by decide) (by decide) fun k=>k.turn hs,rfl⟩⟩)
   refine⟨fun L ρ w' hR hC hL hd hk=> ?_,?_⟩
   · obtain⟨-⟩:=hk;refine Par.val_k fun K hK=> ?_;unfold Par.val
     (have h11:=hC.notyet 11 10 hL (by kernel_rfl);go_simp;exact hK _ _ ⟨hR.b h11 hL (by decide) fun k=>k.make,trivial⟩)
   refine⟨fun L ρ w' hR hC hL hd hk=> ?_,?_⟩
   · obtain⟨(e0:(fun _=>True) (ρ (.tmp 12))),(e1:ρ (.tmp 74)=itV ⟨q.next,yl,ys,yc,yd,yt,yu,yg,yp,yz⟩),-⟩:=hk;refine Par.val_k fun K hK=> ?_;unfold Par.val
     (have h9:=hC.before 9 (i:=11) rfl hd (by kernel_rfl);have h10:=hC.before 10 (i:=11) rfl hd (by kernel_rfl);have hq:=hR.q hL;rw[h9,h10] at hq;obtain⟨g,hg,hz,hF⟩:=PutA.fill (B:=B) (W:=w4) (p:=p) (x:=x) (q:=q) (Q1:=Q1) hq ⟨q.next,yl,ys,yc,yd,yt,yu,yg,yp,yz⟩;have eg:ρ (.tmp 12)=pv g:=hg;obtain⟨a0,a1,a2,a3,a4,a5,a6,a7,a8,a9,af⟩:=blk10 hz;have af0:=af 0;have af1:=af 1;have af2:=af 2;have af3:=af 3;have af4:=af 4;have af5:=af 5;have af6:=af 6;have af7:=af 7;have af8:=af 8;have af9:=af 9;have HF:=hid hF;clear hq hz hF hg af;go_simp;exact hK _ _ ⟨hR.z (by decide) HF.out,trivial⟩)
   trivial
 intro a' w' inv hR
 have q12:(fun _=>True) (a'.tmps.getD 12 undef):=inv.done 10 _ 12 rfl rfl rfl
 have hq:=Par.donesC inv;simp only[Par.donesV,ParC.EQ,true_and,and_true] at hq
 clear inv
 simp only[List.filterMap_cons,List.filterMap_nil,Par.putAll,Act.put,List.setIfInBounds_toArray,List.set_cons_succ,List.set_cons_zero,hq]
 clear hq
 obtain⟨x5,g,i5,f5,n5,hg,hb5,hn5⟩:=Rg.Yy.fin hR (by decide);have H5:=hid i5;have HF5:=hid f5;have HN5:=hid n5;have HB5:=hid hb5;have HG5:=hid hn5;have hg12:a'.tmps.getD 12 undef=pv g:=hg;rw[hg12];clear i5 f5 n5 hg hb5 hn5 hR
 generalize a'.tmps.getD 12 undef=u12 at*
 try clear a'
 have c4:w'.cell? ⟨p,4,none⟩=some (vU q.next):=by rw[←HQN.out];exact H5.out.cells 4 _ rfl
 have tf4:=H5.out.froz 4
 obtain⟨b0,-⟩:=blk10 HB5.out
 have hpg:p≠g:=fun e=>HG5.out (by rw[←e];exact XP.mem_blk.2 ⟨0,by decide,by simp[XP.comp]⟩)
 have hgp:g≠p:=Ne.symm hpg
 have hadd:=u64_add1 q.next
 obtain⟨NV,hNV⟩:∃n,IntKind.u64.wrap ((q.next.toNat:Int)+1)=n:=⟨_,rfl⟩
 have HNV:=hid (hadd.symm.trans hNV)
 clear hadd
 go_wp2
 go_returns
 rw[HP.out,←HNV.out]
 refine⟨rfl,XStp.pre HE4.out ⟨x5,H5.out.own {Q1 with next:=q.next+1} 4 (vU (q.next+1)) rfl rfl rfl rfl rfl rfl,?_,HN5.out⟩⟩
 refine(fr_cat HF5.out (fr_setCell (S:=[p]) w' ⟨p,4,none⟩ (vU (q.next+1)) (by simp))).mono fun a ha=> ?_
 rcases List.mem_append.1 ha with k|k
 · exact k
 · rw[List.mem_singleton] at k
   rw[k]
   exact XP.mem_blk.2 ⟨0,by decide,by simp[XP.comp]⟩
end Go.Proofs.YtcfgafododiioaaGreatDoor
