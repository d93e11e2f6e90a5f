/- Texts of a claim, side by side. -/
import Derived.Test.YtcfgafododiioaaGreatDoorC42
import Derived.Test.YtcfgafododiioaaGreatDoorC44
set_option linter.unusedSimpArgs false
set_option linter.unusedVariables false
set_option maxRecDepth 100000
namespace Go.Proofs.YtcfgafododiioaaGreatDoor
open Go Go.RowKit Go.Tum Go.ChangeMaps Go.Sort Go.Tum.Rn Go.WideShapes Go.ChangeShapes Go.Deep
open Go.ParB (upd Lof)
open Go.ParE (putS slotsR slots Closed)
abbrev aicells (q:Ai):List Value:=[.int .i64 q.dn,.int .i64 q.lane,.int .i64 q.many,vU q.id,vU q.n,vN q.name,vU q.sg,vU q.ps,.int .i64 q.size]
structure AiOk (q:Ai):Prop where
 mn: -9223372036854775808≤q.many∧q.many≤9223372036854775807
 nm:q.name.length≤maxLen
def ActsI (w:World) (v:Value) (m:List Ai):Prop:=RowsOf w 9 v aicells m∧∀q∈m,AiOk q
theorem ActsI.ext {w w':World} {v:Value} {m:List Ai} (h:ActsI w v m) (k:Ext w w'):ActsI w' v m:=⟨h.1.ext k,h.2⟩
theorem cellsActI:Tryz.prog.cellsOf 40=9:=by kernel_rfl
theorem cellsIx:Tryz.prog.cellsOf 3=1:=by kernel_rfl
theorem cellsUx:Tryz.prog.cellsOf 36=1:=by kernel_rfl
theorem cellsSx:Tryz.prog.cellsOf 9=1:=by kernel_rfl
theorem cellsWh:Tryz.prog.cellsOf 38=3:=by kernel_rfl
theorem cellsCf:Tryz.prog.cellsOf 23=3:=by kernel_rfl
theorem list9 {α:Type} {l:List α} (h:l.length=9):∃a b c d e f g i j,l=[a,b,c,d,e,f,g,i,j]:=by
 match l,h with
 |[a,b,c,d,e,f,g,i,j],_=>exact⟨a,b,c,d,e,f,g,i,j,rfl⟩
theorem nmI_of (s:ByteArray):s=str s.data.toList:=by
 apply ByteArray.ext
 simp[str]
theorem nmI_len {s:ByteArray} (h:s.size≤maxLen):s.data.toList.length≤maxLen:=by
 have:s.data.toList.length=s.size:=Array.length_toList
 rw[this];exact h
theorem i64I_of {n:Int} (h:(Lit.int .i64 n).wf=true): -9223372036854775808≤n∧n≤9223372036854775807:=by
 simpa[Lit.wf,IntKind.min,IntKind.max,IntKind.signed,IntKind.bits] using h
section
variable {H : Type} {enc : TypeId × Value → H} {w : World} {base : Nat} {held : Bool}
theorem open_conf {v:Value} {d:DataW H} {p:List MemPlace} {r:Reach} {b0:Nat} (hval:Value.okWide Tryz.prog w r b0 23 v) (h:DataW.Trod enc Tryz.prog w base (fun _=>true) held 23 v d p):
 ∃la pa de:Int,v=ccV la pa de:=by
 obtain⟨cs,rfl,hsz⟩:=okWide_struct Tryz.underlying23 hval
 have hsz:=hsz.trans cellsCf
 obtain⟨c0,c1,c2,rfl⟩:∃a b c,cs= #[a,b,c]:=by
  obtain⟨l⟩:=cs
  match l,hsz with
  |[a,b,c],_=>exact⟨a,b,c,rfl⟩
 obtain⟨fuel,hf⟩:=h
 obtain⟨z0,z1,z2,m,-,-,g0,g1,g2⟩:=trod_struct3 Tryz.underlying23 hf
 simp only[Value.cells,cellsIx,List.drop_zero,List.drop_succ_cons,List.take_succ_cons,List.take_zero] at g0 g1 g2
 obtain⟨a1,e1,-,w1⟩:=DataW.trod_int Tryz.underlying3 g0
 obtain⟨a2,e2,-,w2⟩:=DataW.trod_int Tryz.underlying3 g1
 obtain⟨a3,e3,-,w3⟩:=DataW.trod_int Tryz.underlying3 g2
 simp only[List.cons.injEq,and_true] at e1 e2 e3
 subst e1 e2 e3
 exact⟨a1,a2,a3,rfl⟩
theorem open_where {fuel:Nat} {c0 c1 c2:Value} {x:DataW H×List MemPlace} (hf:DataW.trod enc Tryz.prog w base (fun _=>true) held fuel 38 [c0,c1,c2]=some x):
 ∃(sg ps:UInt64) (sz:Int),[c0,c1,c2]=[vU sg,vU ps,.int .i64 sz]:=by
 obtain⟨y0,y1,y2,n,-,-,h0,h1,h2⟩:=trod_struct3 Tryz.underlying38 hf
 simp only[cellsUx,cellsIx,List.drop_zero,List.drop_succ_cons,List.take_succ_cons,List.take_zero] at h0 h1 h2
 obtain⟨a0,e0,-,w0⟩:=DataW.trod_int Tryz.underlying36 h0
 obtain⟨a1,e1,-,w1⟩:=DataW.trod_int Tryz.underlying36 h1
 obtain⟨a2,e2,-,w2⟩:=DataW.trod_int Tryz.underlying3 h2
 obtain⟨u,rfl⟩:=u64_of w0
 obtain⟨u',rfl⟩:=u64_of w1
 simp only[List.cons.injEq,and_true] at e0 e1 e2
 subst e0 e1 e2
 exact⟨u,u',a2,rfl⟩
theorem open_actsI {v:Value} {d:DataW H} {p:List MemPlace} {r:Reach} {b0:Nat} (hval:Value.okWide Tryz.prog w r b0 24 v) (h:DataW.Trod enc Tryz.prog w base (fun _=>true) held 24 v d p):
 ∃m:List Ai,ActsI w v m:=by
 obtain⟨a,len,cap,rfl⟩:=okWide_slice Tryz.underlying24 hval
 obtain⟨fuel,hf⟩:=h
 replace hf:DataW.trod enc Tryz.prog w base (fun _=>true) held fuel 24 [.slice a len cap]=some (d,p):=hf
 rcases open_slice Tryz.underlying24 hf with ⟨h0,_⟩|⟨a,len,cap,m,n0,D,Pl,hcs,hb,hl,hm,hmm,hx,hi⟩
 · simp at h0
   obtain⟨rfl,rfl,rfl⟩:=h0
   exact⟨[],RowsOf.nil _ _ _,fun p h=>absurd h (by simp)⟩
 · simp at hcs
   obtain⟨rfl,rfl,rfl⟩:=hcs
   simp at hmm
   subst hmm
   have hrow:∀i,i<len→∃q:Ai,AiOk q∧∀j u,(aicells q)[j]? =some u→w.cell? (a.add (i*9+j))=some u:=by
    intro i hil
    obtain⟨cs',hc,htr⟩:=hi i (by omega)
    rw[cellsActI] at hc
    obtain⟨_,hcl,hat⟩:=World.cells?_some hc
    obtain⟨ys,n',-,-,-,hyl,hfj⟩:=DataW.trod_struct Tryz.underlying40 htr
    obtain⟨c0,c1,c2,c3,c4,c5,c6,c7,c8,rfl⟩:=list9 hcl
    have hcell:∀j u,[c0,c1,c2,c3,c4,c5,c6,c7,c8][j]? =some u→w.cell? (a.add (i*9+j))=some u:=by
     intro j u hu
     have hj:j<9:=(List.getElem?_eq_some_iff.1 hu).1
     have h1:=hat j hj
     rw[Go.Deep.add_add] at h1
     rw[h1,hu]
    have t0:DataW.trod enc Tryz.prog w base (fun _=>true) held n' 3 (([c0,c1,c2,c3,c4,c5,c6,c7,c8].drop 0).take (Tryz.prog.cellsOf 3))=ys[0]? :=hfj 0 _ rfl
    have t1:DataW.trod enc Tryz.prog w base (fun _=>true) held n' 3 (([c0,c1,c2,c3,c4,c5,c6,c7,c8].drop 1).take (Tryz.prog.cellsOf 3))=ys[1]? :=hfj 1 _ rfl
    have t2:DataW.trod enc Tryz.prog w base (fun _=>true) held n' 3 (([c0,c1,c2,c3,c4,c5,c6,c7,c8].drop 2).take (Tryz.prog.cellsOf 3))=ys[2]? :=hfj 2 _ rfl
    have t3:DataW.trod enc Tryz.prog w base (fun _=>true) held n' 36 (([c0,c1,c2,c3,c4,c5,c6,c7,c8].drop 3).take (Tryz.prog.cellsOf 36))=ys[3]? :=hfj 3 _ rfl
    have t4:DataW.trod enc Tryz.prog w base (fun _=>true) held n' 36 (([c0,c1,c2,c3,c4,c5,c6,c7,c8].drop 4).take (Tryz.prog.cellsOf 36))=ys[4]? :=hfj 4 _ rfl
    have t5:DataW.trod enc Tryz.prog w base (fun _=>true) held n' 9 (([c0,c1,c2,c3,c4,c5,c6,c7,c8].drop 5).take (Tryz.prog.cellsOf 9))=ys[5]? :=hfj 5 _ rfl
    have t6:DataW.trod enc Tryz.prog w base (fun _=>true) held n' 38 (([c0,c1,c2,c3,c4,c5,c6,c7,c8].drop 6).take (Tryz.prog.cellsOf 38))=ys[6]? :=hfj 6 _ rfl
    clear hfj
    have hyl:ys.length=7:=hyl
    rw[cellsIx] at t0 t1 t2
    rw[cellsUx] at t3 t4
    rw[cellsSx] at t5
    rw[cellsWh] at t6
    have g0:DataW.trod enc Tryz.prog w base (fun _=>true) held n' 3 [c0]=_:=t0.trans (List.getElem?_eq_getElem (show 0<ys.length by omega))
    have g1:DataW.trod enc Tryz.prog w base (fun _=>true) held n' 3 [c1]=_:=t1.trans (List.getElem?_eq_getElem (show 1<ys.length by omega))
    have g2:DataW.trod enc Tryz.prog w base (fun _=>true) held n' 3 [c2]=_:=t2.trans (List.getElem?_eq_getElem (show 2<ys.length by omega))
    have g3:DataW.trod enc Tryz.prog w base (fun _=>true) held n' 36 [c3]=_:=t3.trans (List.getElem?_eq_getElem (show 3<ys.length by omega))
    have g4:DataW.trod enc Tryz.prog w base (fun _=>true) held n' 36 [c4]=_:=t4.trans (List.getElem?_eq_getElem (show 4<ys.length by omega))
    have g5:DataW.trod enc Tryz.prog w base (fun _=>true) held n' 9 [c5]=_:=t5.trans (List.getElem?_eq_getElem (show 5<ys.length by omega))
    have g6:DataW.trod enc Tryz.prog w base (fun _=>true) held n' 38 [c6,c7,c8]=_:=t6.trans (List.getElem?_eq_getElem (show 6<ys.length by omega))
    clear t0 t1 t2 t3 t4 t5 t6
    obtain⟨z0,e0,-,w0⟩:=DataW.trod_int Tryz.underlying3 g0
    obtain⟨z1,e1,-,w1⟩:=DataW.trod_int Tryz.underlying3 g1
    obtain⟨z2,e2,-,w2⟩:=DataW.trod_int Tryz.underlying3 g2
    obtain⟨z3,e3,-,w3⟩:=DataW.trod_int Tryz.underlying36 g3
    obtain⟨z4,e4,-,w4⟩:=DataW.trod_int Tryz.underlying36 g4
    obtain⟨s5,e5,-,hs5⟩:=DataW.trod_string Tryz.underlying9 g5
    obtain⟨sg,ps,sz,e6⟩:=open_where g6
    obtain⟨u3,rfl⟩:=u64_of w3
    obtain⟨u4,rfl⟩:=u64_of w4
    simp only[List.cons.injEq,and_true] at e0 e1 e2 e3 e4 e5 e6
    obtain⟨rfl,rfl,rfl⟩:=e6
    subst e0 e1 e2 e3 e4 e5
    refine⟨⟨z0,z1,z2,u3,u4,s5.data.toList,sg,ps,sz⟩,⟨i64I_of w2,nmI_len hs5⟩,fun j u hu=>hcell j u ?_⟩
    rw[←hu]
    have:=nmI_of s5
    show _=[_,_,_,_,_,Value.string (str s5.data.toList),_,_,_][j]?
    rw[←this]
   obtain⟨q,hq,hQ⟩:=list_of len hrow
   refine⟨q,RowsOf.mk' hq hl hm (by decide) (fun _ _=>rfl) (fun i h j u hu=>(hQ i h).2 j u hu),?_⟩
   intro p hp
   obtain⟨i,hil,rfl⟩:=List.mem_iff_getElem.1 hp
   exact(hQ i hil).1
end
def SmallI (m:List Ai):Prop:=m.length≤260∧∀q∈m,q.name.length≤100
def LargeI (m:List Ai) (w:World) (e:Ending) (w':World):Prop:=(∃r,e= .returned (.bool r)∧(r=false→SmallI m))∧Ext w w'
theorem LargeI.yes {m:List Ai} {w w':World} (h:Ext w w'):LargeI m w (.returned (.bool true)) w':=⟨⟨true,rfl,fun h=>by cases h⟩,h⟩
set_option maxHeartbeats 1000000 in
theorem ilarge_any (v:Value) (m:List Ai) (w:World) (h:ActsI w v m):
 Calls Tryz.prog 14 #[v] w fun e w'=>LargeI m w e w':=by
 obtain⟨hr,hok⟩:=h
 obtain⟨ao,cap,rfl,hle,hm,hnn,hcell⟩:=hr.open
 have HC:=hid hcell
 have HNN:=hid hnn
 clear hr hcell hnn hok
 by_cases h1:260<m.length
 · have hd:decide ((260:Int)<m.length)=true:=by simp;omega
   clear h1
   go_enter Tryz.func14,Tryz.ntmps14
   go_wp2
   go_returns
   exact LargeI.yes (Ext.refl _)
 have hd:decide ((260:Int)<m.length)=false:=by simp;omega
 have HM:=hid (show m.length≤260 by omega)
 clear h1
 go_enter Tryz.func14,Tryz.ntmps14
 go_wp2
 clear hd
 go_loopw [10] (fun i wr=>∃k:Nat,k≤m.length∧i= .int .i64 k∧Hid (∀j (h:j<m.length),j<k→m[j].name.length≤100)∧Hid (Ext w wr)) (fun i _=>m.length - (intOf i).toNat)
 case atStart=>exact⟨0,by omega,rfl,hid (fun j h h2=>absurd h2 (by omega)),hid (Ext.refl _)⟩
 case round=>
  obtain⟨k,hk,rfl,HS,HE⟩:=hrel
  by_cases hlt:k<m.length
  · obtain⟨a0,rfl⟩:=HNN.out (by omega)
    have c0:=cell_first (HE.out.cell (HC.out a0 rfl k hlt 0 _ rfl))
    have c1:=cell_next (HE.out.cell (HC.out a0 rfl k hlt 1 _ rfl)) (by decide)
    have c2:=cell_next (HE.out.cell (HC.out a0 rfl k hlt 2 _ rfl)) (by decide)
    have c3:=cell_next (HE.out.cell (HC.out a0 rfl k hlt 3 _ rfl)) (by decide)
    have c4:=cell_next (HE.out.cell (HC.out a0 rfl k hlt 4 _ rfl)) (by decide)
    have c5:=cell_next (HE.out.cell (HC.out a0 rfl k hlt 5 _ rfl)) (by decide)
    have c6:=cell_next (HE.out.cell (HC.out a0 rfl k hlt 6 _ rfl)) (by decide)
    have c7:=cell_next (HE.out.cell (HC.out a0 rfl k hlt 7 _ rfl)) (by decide)
    have c8:=cell_next (HE.out.cell (HC.out a0 rfl k hlt 8 _ rfl)) (by decide)
    obtain⟨q,hq⟩:∃q,m[k]=q:=⟨_,rfl⟩
    have HQ:=hid hq
    rw[hq] at c0 c1 c2 c3 c4 c5 c6 c7 c8
    clear hq
    obtain⟨dn,lane,many,aid,an,name,asg,aps,asz⟩:=q
    dsimp only at c0 c1 c2 c3 c4 c5 c6 c7 c8
    have hi1:decide ((k:Int)<m.length)=true:=by simp;omega
    have HE2:=hid (HE.out.trans (Ext.alloc wr (aiO ⟨dn,lane,many,aid,an,name,asg,aps,asz⟩)))
    have HK:=hid hlt
    by_cases hb:100<name.length
    · have hd:decide ((100:Int)<((str name).size:Int))=true:=by rw[str_size];simp;omega
      go_wp2
      go_returns
      exact LargeI.yes HE2.out
    · have hd:decide ((100:Int)<((str name).size:Int))=false:=by rw[str_size];simp;omega
      have HB:=hid hb
      clear hb
      go_wp2
      go_roundw
      case rel=>
       refine⟨k+1,HK.out,by go_num,hid (fun j h h2=> ?_),HE2⟩
       rcases Nat.lt_or_eq_of_le (Nat.le_of_lt_succ h2) with h3|h3
       · exact HS.out j h h3
       · subst h3;rw[HQ.out];have:=HB.out;show name.length≤100;omega
      case measure=>
       show m.length - ((k:Int)+1).toNat<m.length - ((k:Int)).toNat
       omega
  · have hkf:decide ((k:Int)<m.length)=false:=by simp;omega
    go_wp2
    go_returns
    refine⟨⟨false,rfl,fun _=>⟨HM.out,fun q hq=> ?_⟩⟩,HE.out⟩
    obtain⟨j,hj,rfl⟩:=List.mem_iff_getElem.1 hq
    exact HS.out j hj (by omega)
end Go.Proofs.YtcfgafododiioaaGreatDoor
set_option maxRecDepth 100000
namespace Go.Proofs.YtcfgafododiioaaGreatDoor
open Go Go.RowKit Go.Tum Go.ChangeMaps Go.Sort
open Go.ParB (upd Lof)
open Go.ParE (putS slotsR slots Closed)
theorem owns_fr {w w':World} {b:Nat} {v:Value} {n:Nat} {xs:List Value} {e s:Nat} {S:List Nat} (h:w.ownsRow b e s v n xs) (f:Fr S w w') (hs:∀q∈S,q<b):w'.ownsRow b e s v n xs:=
 ownsRow_fr h f (fun q h1 h2=>by have:=row_lo h q h1;have:=hs q h2;omega)
theorem RSt.fr {b:Nat} {w w':World} {s:SR} {x y z:Value} {S:List Nat} (h:RSt b w s x y z) (f:Fr S w w') (hs:∀q∈S,q<b):RSt b w' s x y z:=⟨owns_fr h.ai f hs,owns_fr h.bi f hs,owns_fr h.ci f hs⟩
structure SmS (s:SR):Prop where
 it:s.items.length≤200
 dd:s.dead.length≤200
 cu:s.curs.length≤8
theorem sms_of {n:Nat} {q:QR} (h:XQ n q):SmS (stateQ q):=⟨state_len h.wi.wq,dead_len h.wi.wq h.wi.wd,h.wi.wd.s8⟩
theorem lst_any {b:Nat} {w:World} {s:SR} {vi vd vc:Value} (h:SrO b w s vi vd vc) (hs:SmS s):
 Calls Tryz.prog 22 #[srV s vi vd vc] w fun e w'=>(∃x y z,e= .returned (srV s x y z)∧RSt w.heap.size w' s x y z)∧Ext w w':=by
 obtain⟨o1,k1,rfl⟩:=row_shape h.it
 obtain⟨o2,k2,rfl⟩:=row_shape h.dd
 obtain⟨o3,k3,rfl⟩:=row_shape h.cu
 exact lstate_any (Sl.of_owns h.it) (Sl.of_owns h.dd) (Sl.of_owns h.cu) (by have:=hs.it;omega) (by have:=hs.dd;omega) (by have:=hs.cu;omega)
theorem st_any {B n:Nat} {w:World} {p:Nat} {x:XP} {q:QR} (h:IX B w p x q) (hq:XQ n q) (ht:TB w) {s:SR} (hs:stateQ q=s):
 Calls Tryz.prog 23 #[pv p] w fun e w'=>(∃vi vd vc,e= .returned (srV s vi vd vc)∧SrO w.heap.size w' s vi vd vc)∧Ext w w':=by
 rw[←hs]
 exact state_any h hq.wi.wq hq.wi.wd ht
end Go.Proofs.YtcfgafododiioaaGreatDoor
