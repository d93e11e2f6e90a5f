/- Texts of a claim, side by side. -/
import Derived.Test.YtcfgafododiioaaGreatDoorC2
import Derived.Test.YtcfgafododiioaaGreatDoorC1
import Derived.WideKeyEntry
import Derived.Carry
import Derived.Deep.QuietTactic
import Derived.BigQuiet
import Derived.Handy
set_option linter.unusedSimpArgs false
set_option linter.unusedVariables false
namespace Go.Proofs.YtcfgafododiioaaGreatDoor
open Go Go.RowKit Go.Tum Go.ChangeMaps
structure It where
 id:UInt64
 lane:Int
 st:Int
 ct:Int
 due:UInt64
 tok:UInt64
 turn:UInt64
 seg:UInt64
 pos:UInt64
 size:Int
deriving DecidableEq
def it0:It:=⟨0,0,0,0,0,0,0,0,0,0⟩
abbrev itC (x:It):Array Value:= #[vU x.id,.int .i64 x.lane,.int .i64 x.st,.int .i64 x.ct,vU x.due,vU x.tok,vU x.turn,vU x.seg,vU x.pos,.int .i64 x.size]
abbrev itV (x:It):Value:= .agg (itC x)
def itD (x:It):DU:= .agg [.lit (.int .u64 x.id.toNat),.lit (.int .i64 x.lane),.lit (.int .i64 x.st),.lit (.int .i64 x.ct),.lit (.int .u64 x.due.toNat),.lit (.int .u64 x.tok.toNat),.lit (.int .u64 x.turn.toNat),.lit (.int .u64 x.seg.toNat),.lit (.int .u64 x.pos.toNat),.lit (.int .i64 x.size)]
def rdIt:Value→Option (DU×List MemPlace)
 | .agg ⟨[.int k0 n0,.int k1 n1,.int k2 n2,.int k3 n3,.int k4 n4,.int k5 n5,.int k6 n6,.int k7 n7,.int k8 n8,.int k9 n9]⟩=>
  some (.agg [.lit (.int k0 n0),.lit (.int k1 n1),.lit (.int k2 n2),.lit (.int k3 n3),.lit (.int k4 n4),.lit (.int k5 n5),.lit (.int k6 n6),.lit (.int k7 n7),.lit (.int k8 n8),.lit (.int k9 n9)],[])
 |_=>none
theorem rdIt_itV (x:It):rdIt (itV x)=some (itD x,[]):=rfl
theorem rdIt_inv {v:Value} {ps:List MemPlace} {x:It} (h:rdIt v=some (itD x,ps)):v=itV x:=by
 unfold rdIt at h
 split at h
 · unfold itD at h
   simp only[Option.some.injEq,Prod.mk.injEq,DataW.agg.injEq,List.cons.injEq,DataW.lit.injEq,Lit.int.injEq,and_true] at h
   obtain⟨⟨⟨rfl,rfl⟩,⟨rfl,rfl⟩,⟨rfl,rfl⟩,⟨rfl,rfl⟩,⟨rfl,rfl⟩,⟨rfl,rfl⟩,⟨rfl,rfl⟩,⟨rfl,rfl⟩,⟨rfl,rfl⟩,⟨rfl,rfl⟩⟩,-⟩:=h
   rfl
 · simp at h
theorem zeroItem (w:World):(zeroValue 79).run Tryz.prog w= .ok (itV it0) w:=by kernel_rfl
def PMI (w:World) (m:Nat) (l:List (UInt64×It)):Prop:=∃D:DU,w.ownsMap Tryz.prog 36 rdIt m l.length D∧Maps.size D=l.length∧
 ∀x z,D.atKey (kU x) z=match l.lookup x with|none=>z|some b=>itD b
theorem PMI.has {l:List (UInt64×It)} {D:DU} (h:∀x z,D.atKey (kU x) z=match l.lookup x with|none=>z|some b=>itD b) (x:UInt64):Maps.has D (kU x)=(l.lookup x).isSome:=by
 cases hx:l.lookup x with
 |none=>exact Maps.has_false_of_atKey fun z=>by rw[h,hx]
 |some b=>exact Maps.has_true_of_atKey (y:=itD b) fun z=>by rw[h,hx]
theorem PMI.made (w:World):PMI (w.alloc (.map #[] 0)) w.heap.size []:=by
 refine⟨.map [],World.ownsMap_made w _ _ _,rfl,fun x z=> ?_⟩
 exact WideAt.atKey_none z (by simp)
theorem PMI.fr {S:List Nat} {w w':World} {m:Nat} {l:List (UInt64×It)} (h:PMI w m l) (k:Fr S w w') (hm:m∉S):PMI w' m l:=by
 obtain⟨D,⟨es,c,h1,h4,h5,h6⟩,h2,h3⟩:=h
 exact⟨D,⟨es,c,(k.block m (Array.getElem?_eq_some_iff.1 h1).1 hm).trans h1,h4,h5,h6⟩,h2,h3⟩
theorem PMI.ext {w w':World} {m:Nat} {l:List (UInt64×It)} (h:PMI w m l) (k:Ext w w'):PMI w' m l:=h.fr (S:=[]) (Ext.fr k) (by simp)
theorem PMI.block {w:World} {m:Nat} {l:List (UInt64×It)} (h:PMI w m l):∃es c,w.heap[m]? =some (.map es c):=by
 obtain⟨D,⟨es,c,h1,_⟩,_⟩:=h
 exact⟨es,c,h1⟩
section
variable {mt : TypeId} {w : World} {m : Nat} {l : List (UInt64 × It)}
theorem PMI.look (h:PMI w m l) (ht:Tryz.prog.underlying mt=some (.map 36 79)) (x:UInt64):
 (Instr.lookup mt (.map (some m)) (vU x) false).run Tryz.prog w= .ok (itV ((l.lookup x).getD it0)) w:=by
 obtain⟨D,h1,h2,h3⟩:=h
 obtain⟨v,ps,hrun,hv⟩:=h1.lookup keyedU ht (zeroItem w) (zd:=itD it0) (zp:=[]) rfl (kU_key x)
 rw[h3] at hv
 have:v=itV ((l.lookup x).getD it0):=by
  cases hx:l.lookup x<;>rw[hx] at hv<;>exact rdIt_inv hv
 rw[←this];exact hrun
theorem PMI.look_ok (h:PMI w m l) (ht:Tryz.prog.underlying mt=some (.map 36 79)) (x:UInt64):
 (Instr.lookup mt (.map (some m)) (vU x) true).run Tryz.prog w= .ok (.tuple #[itV ((l.lookup x).getD it0),.bool (l.lookup x).isSome]) w:=by
 obtain⟨D,h1,h2,h3⟩:=h
 obtain⟨v,ps,hrun,hv⟩:=h1.look_ok keyedU ht (zeroItem w) (zd:=itD it0) (zp:=[]) rfl (kU_key x)
 rw[h3] at hv
 have:v=itV ((l.lookup x).getD it0):=by
  cases hx:l.lookup x<;>rw[hx] at hv<;>exact rdIt_inv hv
 rw[PMI.has h3] at hrun
 rw[←this];exact hrun
theorem PMI.len (h:PMI w m l) (ht:Tryz.prog.underlying mt=some (.map 36 79)) (ty:TypeId):(Builtin.len_ #[mt] ty #[.map (some m)]).run Tryz.prog w= .ok (.int .i64 (l.length:Nat)) w:=by
 obtain⟨D,h1,h2,h3⟩:=h
 rw[h1.len ht ty,h2]
theorem PMI.store (h:PMI w m l) (ht:Tryz.prog.underlying mt=some (.map 36 79)) (hl:l.length≤1048576) (hn:(l.map Prod.fst).Nodup) (x:UInt64) (b:It):
 ∃w',(Instr.mapUpdate mt (.map (some m)) (vU x) (itV b)).run Tryz.prog w= .ok () w'∧PMI w' m ((x,b)::noK l x)∧w.mapTurned w' m:=by
 obtain⟨D,h1,h2,h3⟩:=h
 obtain⟨w',hrun,r1,r2⟩:=h1.store keyedU ht (by simp[maxLen];omega) (kU_key x) (show rdIt (itV b)=some (itD b,[]) from rdIt_itV b)
 have hlen:((x,b)::noK l x).length=if(l.lookup x).isSome then l.length else l.length+1:=by
  cases hx:l.lookup x with
  |none=>
   have:noK l x=l:=List.filter_eq_self.2 fun z hz=>by
    have:z.1≠x:=fun e=>lku_none.1 hx (List.mem_map.2 ⟨z,hz,e⟩)
    simpa using this
   rw[this];simp
  |some c=>
   have:=(noK_perm (lku_mem hx) hn).length_eq
   simp only[List.length_cons] at this⊢
   simpa using this
 have hsz:Maps.size (D.put (kU x) (itD b))=((x,b)::noK l x).length:=by
  rw[Maps.size_put (h1.tidy keyedU),PMI.has h3 x,h2,hlen]
 refine⟨w',hrun,⟨D.put (kU x) (itD b),?_,hsz,fun y z=> ?_⟩,r2⟩
 · obtain⟨es,c,e1,e2,e3,e4⟩:=r1
   refine⟨es,c,e1,e2,?_,e4⟩
   rw[←hsz,e4]
   simp[Maps.size,length_sorted]
 · rw[lku_cons]
   by_cases hy:y=x
   · subst hy
     rw[Maps.atKey_put_same h1.isMap (by simp[WideAt.IsKeyLit]),if_pos rfl]
   · rw[Maps.atKey_put_other (kU_ne hy),h3,if_neg hy,lookup_noK,if_neg hy]
theorem PMI.del (h:PMI w m l) (ht:Tryz.prog.underlying mt=some (.map 36 79)) (hn:(l.map Prod.fst).Nodup) (x:UInt64) (ty:TypeId):
 ∃w',(Builtin.delete_ #[mt,36] ty #[.map (some m),vU x]).run Tryz.prog w= .ok (.tuple #[]) w'∧PMI w' m (noK l x)∧w.mapTurned w' m:=by
 obtain⟨D,h1,h2,h3⟩:=h
 obtain⟨w',hrun,r1,r2⟩:=h1.drop keyedU ht (kU_key x) ty
 have hlen:(noK l x).length=if(l.lookup x).isSome then l.length - 1 else l.length:=by
  cases hx:l.lookup x with
  |none=>
   have:noK l x=l:=List.filter_eq_self.2 fun z hz=>by
    have:z.1≠x:=fun e=>lku_none.1 hx (List.mem_map.2 ⟨z,hz,e⟩)
    simpa using this
   rw[this];simp
  |some c=>
   have:=(noK_perm (lku_mem hx) hn).length_eq
   simp at this⊢
   omega
 have hsz:Maps.size (D.del (kU x))=(noK l x).length:=by
  have:=Maps.size_del (h1.tidy keyedU) (k:=kU x)
  rw[PMI.has h3 x,h2] at this
  rw[hlen]
  cases hx:l.lookup x with
  |none=>rw[hx] at this;simpa using this
  |some c=>rw[hx] at this;simp at this⊢;omega
 refine⟨w',hrun,⟨_,?_,hsz,fun y z=> ?_⟩,r2⟩
 · obtain⟨es,c,e1,e2,e3,e4⟩:=r1
   refine⟨es,c,e1,e2,?_,e4⟩
   rw[←hsz,e4]
   simp[Maps.size,length_sorted]
 · rw[lookup_noK]
   by_cases hy:y=x
   · subst hy;rw[Maps.atKey_del_same,if_pos rfl]
   · rw[Maps.atKey_del_other (kU_ne hy),if_neg hy,h3]
end
def RNGI (w:World) (m r:Nat) (l rem:List (UInt64×It)) (cnt:Nat):Prop:=∃(D:DU) (left:Lit→Bool) (n:Nat),w.ranges Tryz.prog 36 rdIt m r n D left cnt∧(∀x z,D.atKey (kU x) z=match l.lookup x with|none=>z|some b=>itD b)∧
 rem=l.filter (fun z=>left (kU z.1))∧(l.map Prod.fst).Nodup∧n=l.length∧Maps.size D=l.length
section
variable {w w' : World} {m r cnt : Nat} {l rem : List (UInt64 × It)}
theorem RNGI.left (h:RNGI w m r l rem cnt):w.rangeLeft m r=cnt:=by
 obtain⟨D,left,n,h1,-⟩:=h
 exact h1.left_eq
theorem RNGI.nd (h:RNGI w m r l rem cnt):(rem.map Prod.fst).Nodup:=by
 obtain⟨D,left,n,h1,h2,h3,h4,h5,h6⟩:=h
 rw[h3]
 exact(List.filter_sublist.map Prod.fst).nodup h4
theorem RNGI.kept {S:List Nat} (h:RNGI w m r l rem cnt) (f:Fr S w w') (h1:m∉S) (h2:r∉S):RNGI w' m r l rem cnt:=by
 obtain⟨D,left,n,⟨es,clock,since,seen,c0,hb,F,hs,hD,hr,rest⟩,k2,k3,k4,k5,k6⟩:=h
 exact⟨D,left,n,⟨es,clock,since,seen,c0,(f.block m (Array.getElem?_eq_some_iff.1 hb).1 h1).trans hb,F,hs,hD,(f.block r (Array.getElem?_eq_some_iff.1 hr).1 h2).trans hr,rest⟩,k2,k3,k4,k5,k6⟩
theorem RNGI.ext (h:RNGI w m r l rem cnt) (k:Ext w w'):RNGI w' m r l rem cnt:=h.kept (S:=[]) (Ext.fr k) (by simp) (by simp)
theorem RNGI.blocks (h:RNGI w m r l rem cnt):(∃o,w.heap[m]? =some o∧∀cs e,o≠ .cells cs e (0,0))∧∃o,w.heap[r]? =some o∧∀cs e,o≠ .cells cs e (0,0):=by
 obtain⟨D,left,nn,⟨es,clock,since,seen,c0,hb,F,hs,hD,hr2,rest⟩,-⟩:=h
 exact⟨⟨_,hb,by intro cs e h9;cases h9⟩,⟨_,hr2,by intro cs e h9;cases h9⟩⟩
theorem PMI.range {mt:TypeId} (h:PMI w m l) (ht:Tryz.prog.underlying mt=some (.map 36 79)) (hn:(l.map Prod.fst).Nodup):
 ∃w',(Instr.range mt (.map (some m))).run Tryz.prog w= .ok (.pointer (some ⟨w.heap.size,0,none⟩)) w'∧RNGI w' m w.heap.size l l l.length∧Ext w w':=by
 obtain⟨D,h1,h2,h3⟩:=h
 obtain⟨w',r1,r2,r3,r4⟩:=h1.range keyedU ht
 refine⟨w',r1,⟨D,_,l.length,by rw[h2] at r2;exact r2,h3,?_,hn,rfl,h2⟩,Ext.grown r3 rfl⟩
 refine(List.filter_eq_self.2 fun z hz=> ?_).symm
 rw[PMI.has h3 z.1,nodup_lku hn hz];rfl
theorem RNGI.next (h:RNGI w m r l rem cnt) (ty:TypeId):
 (rem=[]∧(Instr.next (.pointer (some ⟨r,0,none⟩)) false ty).run Tryz.prog w= .ok (.tuple #[.bool false]) w)∨
 ∃(z:UInt64×It) (w':World) (cnt':Nat),z∈rem∧z∈l∧(Instr.next (.pointer (some ⟨r,0,none⟩)) false ty).run Tryz.prog w= .ok (.tuple #[.bool true,vU z.1,itV z.2]) w'∧RNGI w' m r l (noK rem z.1) cnt'∧cnt'<cnt∧Fr [r] w w'∧(Instr.entry (.pointer (some ⟨r,0,none⟩))).run Tryz.prog w'= .ok (.tuple #[vU z.1,itV z.2]) w':=by
 obtain⟨D,left,n,h1,h2,h3,h4,h5,h6⟩:=h
 rcases h1.next keyedU ty with ⟨-,k1,k2⟩|⟨key,v,kl,y,w',cnt',k1,k2,k3,k4,k5,k6,k7,k8,k9,k10⟩
 · left
   refine⟨?_,k2⟩
   rw[h3]
   exact List.filter_eq_nil_iff.2 fun z hz=>by rw[k1];simp
 · right
   obtain⟨nm,rfl,rfl,hlen⟩:=key_invU k1
   cases hlk:l.lookup nm with
   |none=>
    exfalso
    have a1:=k4 .nil
    have a2:=k4 (.lit (.int .i64 0))
    rw[h2,hlk] at a1 a2
    simp only at a1 a2
    rw[←a1] at a2
    cases a2
   |some b=>
    have a1:=k4 .nil
    rw[h2,hlk] at a1
    simp only at a1
    obtain⟨y1,y2⟩:=y
    simp only at a1
    subst a1
    have hv:v=itV b:=rdIt_inv k3
    subst hv
    have hz:(nm,b)∈l:=lku_mem hlk
    refine⟨(nm,b),w',cnt',?_,hz,k5,⟨D,_,n,k6,h2,?_,h4,h5,h6⟩,k7,⟨k8.os,k8.tape,k8.output,k8.size,fun j hj hn=>k8.block j hj fun e=>hn (by cases e;simp)⟩,k10⟩
    · rw[h3];exact List.mem_filter.2 ⟨hz,k2⟩
    · rw[h3]
      unfold noK
      rw[List.filter_filter]
      refine List.filter_congr fun z hz=> ?_
      by_cases e:z.1=nm
      · rw[e,WideAt.sameKey_self (by simp[WideAt.IsKeyLit])];simp
      · rw[Maps.sameKey_ne (kU_ne e)];simp[e]
end
section
variable (w : World) {ops : Array Oper} {rest : List Oper} {o : Oper} {a : Act} {Q : Exit → Act → World → Prop}
theorem wpList_range_PMI {mt:TypeId} (ht:Tryz.prog.underlying mt=some (.map 36 79)) (hg:o.guard=none) (mo:Operand) (hop:o.op=Op.range mt mo) (m:Nat) (l:List (UInt64×It)) (hm:a.eval mo= .map (some m)) (h:PMI w m l) (hn:(l.map Prod.fst).Nodup)
 (hK:∀w',RNGI w' m w.heap.size l l l.length→Ext w w'→wpList Tryz.prog ops Q rest (a.put o.dst (.pointer (some ⟨w.heap.size,0,none⟩))) w'):wpList Tryz.prog ops Q (o::rest) a w:=by
 refine wpList_plain hg fun K' hK'=> ?_
 obtain⟨w',hrun,r1,r2⟩:=h.range ht hn
 unfold Oper.wp
 simp[execOp,hop,hm,hrun,Result.andThen]
 exact hK' _ _ (hK w' r1 r2)
theorem wpList_next_RNGI (hg:o.guard=none) (it:Operand) (hop:o.op=Op.next it false) (m r cnt:Nat) (l rem:List (UInt64×It)) (hit:a.eval it= .pointer (some ⟨r,0,none⟩)) (h:RNGI w m r l rem cnt)
 (hDone:rem=[]→wpList Tryz.prog ops Q rest (a.put o.dst (.tuple #[.bool false])) w)
 (hMore:∀(n:UInt64) (b:It) (w':World) (cnt':Nat),(n,b)∈rem→(n,b)∈l→RNGI w' m r l (noK rem n) cnt'→cnt'<cnt→Fr [r] w w'→(Instr.entry (.pointer (some ⟨r,0,none⟩))).run Tryz.prog w'= .ok (.tuple #[vU n,itV b]) w'→wpList Tryz.prog ops Q rest (a.put o.dst (.tuple #[.bool true,vU n,itV b])) w'):
 wpList Tryz.prog ops Q (o::rest) a w:=by
 refine wpList_plain hg fun K' hK'=> ?_
 unfold Oper.wp
 rcases h.next o.type with ⟨h0,hrun⟩|⟨z,w',cnt',k1,k2,k4,k5,k6,k7,k8⟩
 · simp[execOp,hop,hit,hrun,Result.andThen]
   exact hK' _ _ (hDone h0)
 · simp[execOp,hop,hit,k4,Result.andThen]
   exact hK' _ _ (hMore z.1 z.2 w' cnt' k1 k2 k5 k6 k7 k8)
end
end Go.Proofs.YtcfgafododiioaaGreatDoor
namespace Go.Proofs.YtcfgafododiioaaGreatDoor
open Go Go.RowKit Go.Tum Go.ChangeMaps Go.ChangeShapes Go.WideShapes Go.MapKept
theorem set_same {es:Array Obj} {m:Nat} {o:Obj} (h:es[m]? =some o):es.setIfInBounds m o=es:=by
 apply Array.ext_getElem?
 intro i
 by_cases hi:m=i
 · subst hi
   rw[h,Array.getElem?_setIfInBounds]
   have:=(Array.getElem?_eq_some_iff.1 h).1
   simp[this]
 · rw[Array.getElem?_setIfInBounds_ne hi]
theorem modify_same {α:Type} {es:Array α} {j:Nat} {e:α} {f:α→α} (h:es[j]? =some e) (hf:f e=e):es.modify j f=es:=by
 apply Array.ext_getElem?
 intro i
 rw[Array.getElem?_modify]
 split
 · rename_i hji
   subst hji
   rw[h];simp[hf]
 · rfl
theorem modify_congr {α:Type} {es:Array α} {j:Nat} {e:α} {f g:α→α} (h:es[j]? =some e) (hf:f e=g e):es.modify j f=es.modify j g:=by
 apply Array.ext_getElem?
 intro i
 rw[Array.getElem?_modify,Array.getElem?_modify]
 split
 · rename_i hji
   subst hji
   rw[h];simp[hf]
 · rfl
theorem MI.fr0 {k:IntKind} {w w':World} {m n:Nat} {F:UInt64→Option Int} (h:MI k w m n F) (f:w'.heap[m]? =w.heap[m]?):MI k w' m n F:=by
 obtain⟨D,⟨es,c,h1,h4,h5,h6⟩,h2,h3⟩:=h
 exact⟨D,⟨es,c,f.trans h1,h4,h5,h6⟩,h2,h3⟩
theorem MI.entry {k:IntKind} {mt vt:TypeId} {w:World} {m n:Nat} {F:UInt64→Option Int} (h:MI k w m n F) (ht:Tryz.prog.underlying mt=some (.map 36 vt)) (hz:(zeroValue vt).run Tryz.prog w= .ok (.int k 0) w)
 (hl:n≤1048576) {x:UInt64} {i0:Int} (hx:F x=some i0):
 ∃st:Nat,(∀w2:World,w2.heap[m]? =w.heap[m]? →(Instr.mapEntry mt (.map (some m)) (vU x)).run Tryz.prog w2= .ok (.tuple #[.int k i0,.int .i64 (st:Int)]) w2)∧
  ∀i:Int,∃O:Obj,(∀w2:World,w2.heap[m]? =w.heap[m]? →(Instr.entryStore mt (.map (some m)) (.int .i64 (st:Int)) (.int k i)).run Tryz.prog w2= .ok () (setBlock w2 m O))∧
   ∀w3:World,w3.heap[m]? =some O→MI k w3 m n (setF F x i):=by
 have h0:=h
 have hlook:=h.look_ok ht hz x
 obtain⟨D,⟨es,clock,hb,Ft,hs,hD⟩,h2,h3⟩:=h
 rw[hx] at hlook
 have hck:=fun(u:World) em=>keyed64.check u em (kU_key x)
 rcases keyed64.find w (kU_key x) es.toList Ft.keys with ⟨hf,hne⟩|⟨j,e0,hf,hj,hk⟩
 · exfalso
   simp[Instr.lookup,run_underlying ht,MapKept.run_getObj_map hb,hck,hf,hz,Result.andThen] at hlook
 · have hj':es[j]? =some e0:=by simpa using hj
   have hv:e0.val= .int k i0:=by
    simp[Instr.lookup,run_underlying ht,MapKept.run_getObj_map hb,hck,hf,hz,Result.andThen] at hlook
    exact hlook
   have hb2:es.toList.map (·.born)|>.Nodup:=Ft.stamped.2.1
   have hp:es.toList.Pairwise (fun x y=>x.key≠y.key):=((stamped_iff es clock).1 Ft.stamped).2.2
   have hpj:=List.pairwise_iff_getElem.1 hp
   obtain⟨l1,q1⟩:=List.getElem?_eq_some_iff.1 hj
   have hfind:∀u:World,(Instr.findKey 36 (vU x) es.toList).run Tryz.prog u= .ok (some (j,e0.val)) u:=by
    intro u
    rcases keyed64.find u (kU_key x) es.toList Ft.keys with ⟨-,hne⟩|⟨j2,e2,hf2,hj2,hk2⟩
    · exact absurd hk (hne e0 (List.mem_of_getElem? hj))
    · obtain⟨l2,q2⟩:=List.getElem?_eq_some_iff.1 hj2
      have hjj:j2=j:=by
       rcases Nat.lt_trichotomy j2 j with h|h|h
       · exact absurd (by rw[q1,q2,hk,hk2]) (hpj j2 j l2 l1 h)
       · exact h
       · exact absurd (by rw[q1,q2,hk,hk2]) (hpj j j2 l1 l2 h)
      subst hjj
      have hee:e2=e0:=by rw[←q1,←q2]
      rw[hf2,hee]
   have hidx:es.findIdx? (fun e=>((e.born:Nat):Int)==((e0.born:Nat):Int))=some j:=by
    rw[WideElems.findIdx_arr]
    exact WideElems.findIdx_born hb2 hj
   have hs1:es.modify j (fun e=>{e with key:=vU x})=es:=modify_same hj' (by rw[←hk])
   refine⟨e0.born,fun w2 hw2=> ?_,fun i=>⟨.map (es.modify j (fun e=>{key:=e.key,val:= .int k i,born:=e.born})) clock,fun w2 hw2=> ?_,fun w3 hw3=> ?_⟩⟩
   · have hb3:=hw2.trans hb
     simp[Instr.mapEntry,run_underlying ht,MapKept.run_getObj_map hb3,hck,hfind,hj',hk,keyed64.stays w2 (kU_key x),hs1,MapKept.run_setObj_map _ hb3,Result.andThen,goInt,hv,set_same hb3]
   · have hb3:=hw2.trans hb
     simp[Instr.entryStore,MapKept.run_getObj_map hb3,hidx,asInt,asIntOf,goInt,MapKept.run_setObj_map _ hb3,Result.andThen,setBlock]
   · obtain⟨w4,r1,r2,r3⟩:=MI.store h0 ht hl x i
     rw[hx] at r2
     have hm:(Instr.mapUpdate mt (.map (some m)) (vU x) (.int k i)).run Tryz.prog w= .ok () (setBlock w m (.map (es.modify j (fun e=>{key:=e.key,val:= .int k i,born:=e.born})) clock)):=by
      simp[Instr.mapUpdate,run_underlying ht,MapKept.run_getObj_map hb,hck,hfind,hj',hk,keyed64.stays w (kU_key x),MapKept.run_setObj_map _ hb,Result.andThen,setBlock]
      rw[modify_congr (f:=fun e=>{key:=e.key,val:= .int k i,born:=e.born}) (g:=fun e=>{key:=vU x,val:= .int k i,born:=e.born}) hj' (by rw[←hk])]
     rw[r1] at hm
     have he:w4=setBlock w m (.map (es.modify j (fun e=>{key:=e.key,val:= .int k i,born:=e.born})) clock):=by simpa using hm
     refine MI.fr0 (w:=w4) (by simpa using r2) ?_
     rw[hw3,he]
     exact(heap_setBlock_same hb _).symm
end Go.Proofs.YtcfgafododiioaaGreatDoor
namespace Go.Proofs.YtcfgafododiioaaGreatDoor
open Go Go.RowKit Go.Tum Go.ChangeMaps
abbrev pv (b:Nat):Value:= .pointer (some ⟨b,0,none⟩)
theorem lk3 {w:World} {b:Nat} {p q s:Value} {ty:TypeId} (h:w.heap[b]? =some (.cells #[p,q,s] ty (0,0))):
 w.cell? ⟨b,0,none⟩=some p∧w.cell? ⟨b,1,none⟩=some q∧w.cell? ⟨b,2,none⟩=some s∧w.frozen? ⟨b,0,none⟩=false∧w.frozen? ⟨b,1,none⟩=false∧w.frozen? ⟨b,2,none⟩=false:=by
 refine⟨by rw[cell_of_row _ _ _ _ _ _ h];rfl,by rw[cell_of_row _ _ _ _ _ _ h];rfl,by rw[cell_of_row _ _ _ _ _ _ h];rfl,by simp[World.frozen?,h],by simp[World.frozen?,h],by simp[World.frozen?,h]⟩
abbrev heapO (mt mp:Nat) (v:Value):Obj:= .cells #[.map (some mt),v,.map (some mp)] 228 (0,0)
def plF (row:List UInt64):UInt64→Option Int:=fun x=>if x∈row then some (row.idxOf x:Int) else none
structure Tr (b:Nat) (w:World) (p mt mp:Nat) (nt:Nat) (At:UInt64→Option Int) (row:List UInt64) (v:Value):Prop where
 hd:w.heap[p]? =some (heapO mt mp v)
 ti:MI .u64 w mt nt At
 pl:MI .i64 w mp row.length (plF row)
 ow:OwV vU w b 36 v row
 nd:row.Nodup
 ne:mt≠mp
def tim (At:UInt64→Option Int) (x:UInt64):Int:=(At x).getD 0
def aheadB (At:UInt64→Option Int) (x y:UInt64):Bool:=if tim At x≠tim At y then decide (tim At x<tim At y) else decide (x<y)
theorem MI.drewN {k:IntKind} {w:World} {m n:Nat} {F:UInt64→Option Int} (h:MI k w m n F) (j:Nat):MI k (w.drewN j) m n F:=h.fr0 rfl
theorem drewN_two (w:World) (a b:Nat):(w.drewN a).drewN b=w.drewN (a+b):=by simp[World.drewN,Nat.add_assoc]
set_option maxHeartbeats 1000000 in
theorem ahead_any (b:Nat) (w:World) (p mt mp nt:Nat) (At:UInt64→Option Int) (row:List UInt64) (v:Value) (x y:UInt64) (h:Tr b w p mt mp nt At row v):
 Calls Tryz.prog 173 #[pv p,vU x,vU y] w fun e w'=>e= .returned (.bool (aheadB At x y))∧∃n,w'=w.drewN n:=by
 obtain⟨c0,-⟩:=lk3 h.hd
 have hx:∀j,(Instr.lookup 133 (.map (some mt)) (vU x) false).run Tryz.prog (w.drewN j)= .ok (.int .u64 (tim At x)) (w.drewN j):=fun j=>(h.ti.drewN j).look Tryz.underlying133 (Tryz.zeroValue36 _) x
 have hy:∀j,(Instr.lookup 133 (.map (some mt)) (vU y) false).run Tryz.prog (w.drewN j)= .ok (.int .u64 (tim At y)) (w.drewN j):=fun j=>(h.ti.drewN j).look Tryz.underlying133 (Tryz.zeroValue36 _) y
 clear h
 by_cases ht:tim At x=tim At y
 · have hb:aheadB At x y=decide (x<y):=by unfold aheadB;rw[if_neg (by simp[ht])]
   have hne:(tim At x !=tim At y)=false:=by simp[ht]
   have hlt:decide (x.toNat<y.toNat)=decide (x<y):=by simp[UInt64.lt_iff_toNat_lt]
   rw[hb]
   clear hb ht
   obtain⟨tx,htx⟩:∃t,tim At x=t:=⟨_,rfl⟩
   obtain⟨ty,hty⟩:∃t,tim At y=t:=⟨_,rfl⟩
   rw[htx] at hx hne
   rw[hty] at hy hne
   clear htx hty
   go_enter Tryz.func173,Tryz.ntmps173
   go_wp2
   go_quiet (fail)
   go_wp2
   go_ret
   exact⟨by rw[←hlt];rfl,_,rfl⟩
 · have hb:aheadB At x y=decide (tim At x<tim At y):=by unfold aheadB;rw[if_pos ht]
   have hne:(tim At x !=tim At y)=true:=by simp[ht]
   rw[hb]
   clear hb ht
   obtain⟨tx,htx⟩:∃t,tim At x=t:=⟨_,rfl⟩
   obtain⟨ty,hty⟩:∃t,tim At y=t:=⟨_,rfl⟩
   rw[htx] at hx hne
   rw[hty] at hy hne
   rw[htx,hty]
   clear htx hty
   go_enter Tryz.func173,Tryz.ntmps173
   go_wp2
   go_quiet (fail)
   go_wp2
   go_quiet (fail)
   go_wp2
   go_ret
   exact⟨rfl,_,drewN_two _ _ _⟩
end Go.Proofs.YtcfgafododiioaaGreatDoor
