/- Texts of a claim, side by side. -/
import Derived.Test.YtcfgafododiioaaGreatDoorC1
import Derived.Maps.RangeWalk
import Derived.Carry
import Derived.Deep.QuietTactic
import Derived.BigQuiet
import Derived.Handy
set_option linter.unusedSimpArgs false
set_option linter.unusedVariables false
namespace Go.Proofs.YtcfgafododiioaaGreatDoor
open Go Go.RowKit Go.Tum Go.ChangeMaps
abbrev Nm:=List UInt8
abbrev vN (x:Nm):Value:= .string (str x)
abbrev kN (x:Nm):Lit:= .string x
theorem kN_key {x:Nm} (hx:x.length≤maxLen):keyOf Tryz.prog 9 (vN x)=some (kN x):=by
 simp only[keyOf,Tryz.underlying9,mapKey]
 rw[if_pos (by rw[str_size];exact hx),str_data]
theorem kN_ne {x y:Nm} (h:x≠y):kN x≠kN y:=by
 intro e
 simp at e
 exact h e
theorem keyedN:Maps.Keyed Tryz.prog 9:=Maps.string_keyed Tryz.underlying9
theorem key_invN {key:Value} {kl:Lit} (h:keyOf Tryz.prog 9 key=some kl):∃x:Nm,key=vN x∧kl=kN x∧x.length≤maxLen:=by
 simp only[keyOf,mapKey,Tryz.underlying9] at h
 cases key with
 |string s=>
  by_cases hs:s.size≤maxLen
  · simp only[if_pos hs,Option.some.injEq] at h
    exact⟨s.data.toList,by simp[str],h.symm,hs⟩
  · simp only[if_neg hs,reduceCtorEq] at h
 |_=>simp only[reduceCtorEq] at h
theorem keyedU:Maps.Keyed Tryz.prog 36:=keyed64
theorem key_invU {key:Value} {kl:Lit} (h:keyOf Tryz.prog 36 key=some kl):∃x:UInt64,key=vU x∧kl=kU x∧True:=by
 simp only[keyOf,mapKey,Tryz.underlying36] at h
 cases key with
 |int k n=>
  by_cases hk:k= .u64
  · subst hk
    by_cases hs:(Lit.int .u64 n).wf=true
    · have hb:0≤n∧n≤18446744073709551615:=by simpa[Lit.wf,IntKind.min,IntKind.max,IntKind.signed,IntKind.bits] using hs
      refine⟨UInt64.ofNat n.toNat,?_,?_,trivial⟩
      · have:((UInt64.ofNat n.toNat).toNat:Int)=n:=by simp;omega
        rw[vU,this]
      · have:((UInt64.ofNat n.toNat).toNat:Int)=n:=by simp;omega
        simp[hs] at h
        rw[←h,kU,this]
    · simp[hs] at h
  · simp[hk] at h
 |_=>simp only[reduceCtorEq] at h
section
variable {α β : Type} [BEq α] [LawfulBEq α] [DecidableEq α]
theorem lku_cons (a:α) (b:β) (r:List (α×β)) (y:α):((a,b)::r).lookup y=if y=a then some b else r.lookup y:=by
 by_cases h:y=a
 · subst h;simp[List.lookup]
 · have:(y==a)=false:=by simp[h]
   simp[List.lookup,this,h]
def noK (l:List (α×β)) (x:α):List (α×β):=l.filter fun p=>p.1 !=x
theorem lookup_noK (l:List (α×β)) (x y:α):(noK l x).lookup y=if y=x then none else l.lookup y:=by
 unfold noK
 induction l with
 |nil=>simp
 |cons p r ih=>
  obtain⟨a,b⟩:=p
  by_cases h1:a=x
  · subst h1
    simp only[List.filter_cons,bne_self_eq_false,Bool.false_eq_true,if_false,ih]
    rw[lku_cons]
    by_cases h2:y=a
    · rw[if_pos h2,if_pos h2]
    · rw[if_neg h2,if_neg h2,if_neg h2]
  · have:(a !=x)=true:=by simp[h1]
    simp only[List.filter_cons,this,if_true]
    rw[lku_cons,lku_cons,ih]
    by_cases h2:y=x
    · subst h2;rw[if_neg (Ne.symm h1),if_pos rfl,if_pos rfl]
    · rw[if_neg h2,if_neg h2]
theorem nodup_lku {l:List (α×β)} (hn:(l.map Prod.fst).Nodup) {z:α×β} (hz:z∈l):l.lookup z.1=some z.2:=by
 induction l with
 |nil=>simp at hz
 |cons y r ih=>
  rw[List.map_cons,List.nodup_cons] at hn
  obtain⟨a,b⟩:=y
  rw[lku_cons]
  rcases List.mem_cons.1 hz with rfl|hz
  · simp
  · have:z.1≠a:=fun e=>hn.1 (List.mem_map.2 ⟨z,hz,e⟩)
    rw[if_neg this];exact ih hn.2 hz
theorem lku_mem {l:List (α×β)} {x:α} {b:β} (h:l.lookup x=some b):(x,b)∈l:=by
 induction l with
 |nil=>simp at h
 |cons y r ih=>
  obtain⟨c,d⟩:=y
  rw[lku_cons] at h
  by_cases e:x=c
  · rw[if_pos e] at h;cases h;rw[e];simp
  · rw[if_neg e] at h;exact List.mem_cons_of_mem _ (ih h)
theorem lku_none {l:List (α×β)} {x:α}:l.lookup x=none↔x∉l.map Prod.fst:=by
 induction l with
 |nil=>simp
 |cons y r ih=>
  obtain⟨c,d⟩:=y
  rw[lku_cons]
  by_cases e:x=c
  · rw[if_pos e];simp[e]
  · rw[if_neg e,ih];simp[e]
theorem noK_perm {n:α} {b:β}:∀{d:List (α×β)},(n,b)∈d→(d.map Prod.fst).Nodup→((n,b)::noK d n).Perm d
 |[],h,_=>absurd h (by simp)
 |(a,c)::r,h,hn=>by
  rw[List.map_cons,List.nodup_cons] at hn
  by_cases e:a=n
  · subst e
    have e2:noK ((a,c)::r) a=r:=by
     unfold noK
     rw[List.filter_cons]
     simp only[bne_self_eq_false,Bool.false_eq_true,if_false]
     refine List.filter_eq_self.2 fun q hq=> ?_
     have:q.1≠a:=fun e=>hn.1 (List.mem_map.2 ⟨q,hq,e⟩)
     simpa using this
    rw[e2]
    rcases List.mem_cons.1 h with h|h
    · cases h;exact List.Perm.refl _
    · exact absurd (List.mem_map.2 ⟨_,h,rfl⟩) hn.1
  · have e2:noK ((a,c)::r) n=(a,c)::noK r n:=by
     unfold noK
     rw[List.filter_cons]
     simp[e]
    have h2:(n,b)∈r:=by
     rcases List.mem_cons.1 h with e3|e3
     · cases e3;exact absurd rfl e
     · exact e3
    rw[e2]
    exact(List.Perm.swap _ _ _).trans (List.Perm.cons (a,c) (noK_perm h2 hn.2))
end
def PMU (w:World) (m:Nat) (l:List (UInt64×UInt64)):Prop:=∃D:DU,w.ownsMap Tryz.prog 36 rdI m l.length D∧Maps.size D=l.length∧
 ∀x z,D.atKey (kU x) z=match l.lookup x with|none=>z|some b=> .lit (.int .u64 (b.toNat:Int))
theorem PMU.has {l:List (UInt64×UInt64)} {D:DU} (h:∀x z,D.atKey (kU x) z=match l.lookup x with|none=>z|some b=> .lit (.int .u64 (b.toNat:Int))) (x:UInt64):Maps.has D (kU x)=(l.lookup x).isSome:=by
 cases hx:l.lookup x with
 |none=>exact Maps.has_false_of_atKey fun z=>by rw[h,hx]
 |some b=>exact Maps.has_true_of_atKey (y:= .lit (.int .u64 (b.toNat:Int))) fun z=>by rw[h,hx]
theorem PMU.made (w:World):PMU (w.alloc (.map #[] 0)) w.heap.size []:=by
 refine⟨.map [],World.ownsMap_made w _ _ _,rfl,fun x z=> ?_⟩
 exact WideAt.atKey_none z (by simp)
theorem PMU.fr {S:List Nat} {w w':World} {m:Nat} {l:List (UInt64×UInt64)} (h:PMU w m l) (k:Fr S w w') (hm:m∉S):PMU w' m l:=by
 obtain⟨D,⟨es,c,h1,h4,h5,h6⟩,h2,h3⟩:=h
 exact⟨D,⟨es,c,(k.block m (Array.getElem?_eq_some_iff.1 h1).1 hm).trans h1,h4,h5,h6⟩,h2,h3⟩
theorem PMU.ext {w w':World} {m:Nat} {l:List (UInt64×UInt64)} (h:PMU w m l) (k:Ext w w'):PMU w' m l:=h.fr (S:=[]) (Ext.fr k) (by simp)
theorem PMU.block {w:World} {m:Nat} {l:List (UInt64×UInt64)} (h:PMU w m l):∃es c,w.heap[m]? =some (.map es c):=by
 obtain⟨D,⟨es,c,h1,_⟩,_⟩:=h
 exact⟨es,c,h1⟩
section
variable {mt : TypeId} {w : World} {m : Nat} {l : List (UInt64 × UInt64)}
theorem PMU.look_ok (h:PMU w m l) (ht:Tryz.prog.underlying mt=some (.map 36 36)) (x:UInt64):
 (Instr.lookup mt (.map (some m)) (vU x) true).run Tryz.prog w= .ok (.tuple #[vU ((l.lookup x).getD 0),.bool (l.lookup x).isSome]) w:=by
 obtain⟨D,h1,h2,h3⟩:=h
 obtain⟨v,ps,hrun,hv⟩:=h1.look_ok keyedU ht (Tryz.zeroValue36 w) (zd:= .lit (.int .u64 0)) (zp:=[]) rfl (kU_key x)
 rw[h3] at hv
 have:v=vU ((l.lookup x).getD 0):=by
  cases hx:l.lookup x<;>rw[hx] at hv<;>exact rdI_inv hv
 rw[PMU.has h3] at hrun
 rw[←this];exact hrun
theorem PMU.store (h:PMU w m l) (ht:Tryz.prog.underlying mt=some (.map 36 36)) (hl:l.length≤1048576) (hn:(l.map Prod.fst).Nodup) (x:UInt64) (b:UInt64):
 ∃w',(Instr.mapUpdate mt (.map (some m)) (vU x) (vU b)).run Tryz.prog w= .ok () w'∧PMU w' m ((x,b)::noK l x)∧w.mapTurned w' m:=by
 obtain⟨D,h1,h2,h3⟩:=h
 obtain⟨w',hrun,r1,r2⟩:=h1.store keyedU ht (by simp[maxLen];omega) (kU_key x) (show rdI (vU b)=some (.lit (.int .u64 (b.toNat:Int)),[]) from rfl)
 have hlen:((x,b)::noK l x).length=if(l.lookup x).isSome then l.length else l.length+1:=by
  cases hx:l.lookup x with
  |none=>
   have:noK l x=l:=List.filter_eq_self.2 fun z hz=>by
    have:z.1≠x:=fun e=>lku_none.1 hx (List.mem_map.2 ⟨z,hz,e⟩)
    simpa using this
   rw[this];simp
  |some c=>
   have:=(noK_perm (lku_mem hx) hn).length_eq
   simp only[List.length_cons] at this⊢
   simpa using this
 have hsz:Maps.size (D.put (kU x) (.lit (.int .u64 (b.toNat:Int))))=((x,b)::noK l x).length:=by
  rw[Maps.size_put (h1.tidy keyedU),PMU.has h3 x,h2,hlen]
 refine⟨w',hrun,⟨D.put (kU x) (.lit (.int .u64 (b.toNat:Int))),?_,hsz,fun y z=> ?_⟩,r2⟩
 · obtain⟨es,c,e1,e2,e3,e4⟩:=r1
   refine⟨es,c,e1,e2,?_,e4⟩
   rw[←hsz,e4]
   simp[Maps.size,length_sorted]
 · rw[lku_cons]
   by_cases hy:y=x
   · subst hy
     rw[Maps.atKey_put_same h1.isMap (by simp[WideAt.IsKeyLit]),if_pos rfl]
   · rw[Maps.atKey_put_other (kU_ne hy),h3,if_neg hy,lookup_noK,if_neg hy]
theorem PMU.del (h:PMU w m l) (ht:Tryz.prog.underlying mt=some (.map 36 36)) (hn:(l.map Prod.fst).Nodup) (x:UInt64) (ty:TypeId):
 ∃w',(Builtin.delete_ #[mt,36] ty #[.map (some m),vU x]).run Tryz.prog w= .ok (.tuple #[]) w'∧PMU w' m (noK l x)∧w.mapTurned w' m:=by
 obtain⟨D,h1,h2,h3⟩:=h
 obtain⟨w',hrun,r1,r2⟩:=h1.drop keyedU ht (kU_key x) ty
 have hlen:(noK l x).length=if(l.lookup x).isSome then l.length - 1 else l.length:=by
  cases hx:l.lookup x with
  |none=>
   have:noK l x=l:=List.filter_eq_self.2 fun z hz=>by
    have:z.1≠x:=fun e=>lku_none.1 hx (List.mem_map.2 ⟨z,hz,e⟩)
    simpa using this
   rw[this];simp
  |some c=>
   have:=(noK_perm (lku_mem hx) hn).length_eq
   simp at this⊢
   omega
 have hsz:Maps.size (D.del (kU x))=(noK l x).length:=by
  have:=Maps.size_del (h1.tidy keyedU) (k:=kU x)
  rw[PMU.has h3 x,h2] at this
  rw[hlen]
  cases hx:l.lookup x with
  |none=>rw[hx] at this;simpa using this
  |some c=>rw[hx] at this;simp at this⊢;omega
 refine⟨w',hrun,⟨_,?_,hsz,fun y z=> ?_⟩,r2⟩
 · obtain⟨es,c,e1,e2,e3,e4⟩:=r1
   refine⟨es,c,e1,e2,?_,e4⟩
   rw[←hsz,e4]
   simp[Maps.size,length_sorted]
 · rw[lookup_noK]
   by_cases hy:y=x
   · subst hy;rw[Maps.atKey_del_same,if_pos rfl]
   · rw[Maps.atKey_del_other (kU_ne hy),if_neg hy,h3]
end
def RNGU (w:World) (m r:Nat) (l rem:List (UInt64×UInt64)) (cnt:Nat):Prop:=∃(D:DU) (left:Lit→Bool) (n:Nat),w.ranges Tryz.prog 36 rdI m r n D left cnt∧(∀x z,D.atKey (kU x) z=match l.lookup x with|none=>z|some b=> .lit (.int .u64 (b.toNat:Int)))∧
 rem=l.filter (fun z=>left (kU z.1))∧(l.map Prod.fst).Nodup∧n=l.length∧Maps.size D=l.length
section
variable {w w' : World} {m r cnt : Nat} {l rem : List (UInt64 × UInt64)}
theorem RNGU.left (h:RNGU w m r l rem cnt):w.rangeLeft m r=cnt:=by
 obtain⟨D,left,n,h1,-⟩:=h
 exact h1.left_eq
theorem RNGU.nd (h:RNGU w m r l rem cnt):(rem.map Prod.fst).Nodup:=by
 obtain⟨D,left,n,h1,h2,h3,h4,h5,h6⟩:=h
 rw[h3]
 exact(List.filter_sublist.map Prod.fst).nodup h4
theorem RNGU.kept {S:List Nat} (h:RNGU w m r l rem cnt) (f:Fr S w w') (h1:m∉S) (h2:r∉S):RNGU w' m r l rem cnt:=by
 obtain⟨D,left,n,⟨es,clock,since,seen,c0,hb,F,hs,hD,hr,rest⟩,k2,k3,k4,k5,k6⟩:=h
 exact⟨D,left,n,⟨es,clock,since,seen,c0,(f.block m (Array.getElem?_eq_some_iff.1 hb).1 h1).trans hb,F,hs,hD,(f.block r (Array.getElem?_eq_some_iff.1 hr).1 h2).trans hr,rest⟩,k2,k3,k4,k5,k6⟩
theorem RNGU.ext (h:RNGU w m r l rem cnt) (k:Ext w w'):RNGU w' m r l rem cnt:=h.kept (S:=[]) (Ext.fr k) (by simp) (by simp)
theorem RNGU.blocks (h:RNGU w m r l rem cnt):(∃o,w.heap[m]? =some o∧∀cs e,o≠ .cells cs e (0,0))∧∃o,w.heap[r]? =some o∧∀cs e,o≠ .cells cs e (0,0):=by
 obtain⟨D,left,nn,⟨es,clock,since,seen,c0,hb,F,hs,hD,hr2,rest⟩,-⟩:=h
 exact⟨⟨_,hb,by intro cs e h9;cases h9⟩,⟨_,hr2,by intro cs e h9;cases h9⟩⟩
theorem PMU.range {mt:TypeId} (h:PMU w m l) (ht:Tryz.prog.underlying mt=some (.map 36 36)) (hn:(l.map Prod.fst).Nodup):
 ∃w',(Instr.range mt (.map (some m))).run Tryz.prog w= .ok (.pointer (some ⟨w.heap.size,0,none⟩)) w'∧RNGU w' m w.heap.size l l l.length∧Ext w w':=by
 obtain⟨D,h1,h2,h3⟩:=h
 obtain⟨w',r1,r2,r3,r4⟩:=h1.range keyedU ht
 refine⟨w',r1,⟨D,_,l.length,by rw[h2] at r2;exact r2,h3,?_,hn,rfl,h2⟩,Ext.grown r3 rfl⟩
 refine(List.filter_eq_self.2 fun z hz=> ?_).symm
 rw[PMU.has h3 z.1,nodup_lku hn hz];rfl
theorem RNGU.next (h:RNGU w m r l rem cnt) (ty:TypeId):
 (rem=[]∧(Instr.next (.pointer (some ⟨r,0,none⟩)) false ty).run Tryz.prog w= .ok (.tuple #[.bool false]) w)∨
 ∃(z:UInt64×UInt64) (w':World) (cnt':Nat),z∈rem∧z∈l∧(Instr.next (.pointer (some ⟨r,0,none⟩)) false ty).run Tryz.prog w= .ok (.tuple #[.bool true,vU z.1,vU z.2]) w'∧RNGU w' m r l (noK rem z.1) cnt'∧cnt'<cnt∧Fr [r] w w'∧(Instr.entry (.pointer (some ⟨r,0,none⟩))).run Tryz.prog w'= .ok (.tuple #[vU z.1,vU z.2]) w':=by
 obtain⟨D,left,n,h1,h2,h3,h4,h5,h6⟩:=h
 rcases h1.next keyedU ty with ⟨-,k1,k2⟩|⟨key,v,kl,y,w',cnt',k1,k2,k3,k4,k5,k6,k7,k8,k9,k10⟩
 · left
   refine⟨?_,k2⟩
   rw[h3]
   exact List.filter_eq_nil_iff.2 fun z hz=>by rw[k1];simp
 · right
   obtain⟨nm,rfl,rfl,hlen⟩:=key_invU k1
   cases hlk:l.lookup nm with
   |none=>
    exfalso
    have a1:=k4 .nil
    have a2:=k4 (.lit (.int .i64 0))
    rw[h2,hlk] at a1 a2
    simp only at a1 a2
    rw[←a1] at a2
    cases a2
   |some b=>
    have a1:=k4 .nil
    rw[h2,hlk] at a1
    simp only at a1
    obtain⟨y1,y2⟩:=y
    simp only at a1
    subst a1
    have hv:v=vU b:=rdI_inv k3
    subst hv
    have hz:(nm,b)∈l:=lku_mem hlk
    refine⟨(nm,b),w',cnt',?_,hz,k5,⟨D,_,n,k6,h2,?_,h4,h5,h6⟩,k7,⟨k8.os,k8.tape,k8.output,k8.size,fun j hj hn=>k8.block j hj fun e=>hn (by cases e;simp)⟩,k10⟩
    · rw[h3];exact List.mem_filter.2 ⟨hz,k2⟩
    · rw[h3]
      unfold noK
      rw[List.filter_filter]
      refine List.filter_congr fun z hz=> ?_
      by_cases e:z.1=nm
      · rw[e,WideAt.sameKey_self (by simp[WideAt.IsKeyLit])];simp
      · rw[Maps.sameKey_ne (kU_ne e)];simp[e]
end
section
variable (w : World) {ops : Array Oper} {rest : List Oper} {o : Oper} {a : Act} {Q : Exit → Act → World → Prop}
theorem wpList_range_PMU {mt:TypeId} (ht:Tryz.prog.underlying mt=some (.map 36 36)) (hg:o.guard=none) (mo:Operand) (hop:o.op=Op.range mt mo) (m:Nat) (l:List (UInt64×UInt64)) (hm:a.eval mo= .map (some m)) (h:PMU w m l) (hn:(l.map Prod.fst).Nodup)
 (hK:∀w',RNGU w' m w.heap.size l l l.length→Ext w w'→wpList Tryz.prog ops Q rest (a.put o.dst (.pointer (some ⟨w.heap.size,0,none⟩))) w'):wpList Tryz.prog ops Q (o::rest) a w:=by
 refine wpList_plain hg fun K' hK'=> ?_
 obtain⟨w',hrun,r1,r2⟩:=h.range ht hn
 unfold Oper.wp
 simp[execOp,hop,hm,hrun,Result.andThen]
 exact hK' _ _ (hK w' r1 r2)
theorem wpList_next_RNGU (hg:o.guard=none) (it:Operand) (hop:o.op=Op.next it false) (m r cnt:Nat) (l rem:List (UInt64×UInt64)) (hit:a.eval it= .pointer (some ⟨r,0,none⟩)) (h:RNGU w m r l rem cnt)
 (hDone:rem=[]→wpList Tryz.prog ops Q rest (a.put o.dst (.tuple #[.bool false])) w)
 (hMore:∀(n:UInt64) (b:UInt64) (w':World) (cnt':Nat),(n,b)∈rem→(n,b)∈l→RNGU w' m r l (noK rem n) cnt'→cnt'<cnt→Fr [r] w w'→(Instr.entry (.pointer (some ⟨r,0,none⟩))).run Tryz.prog w'= .ok (.tuple #[vU n,vU b]) w'→wpList Tryz.prog ops Q rest (a.put o.dst (.tuple #[.bool true,vU n,vU b])) w'):
 wpList Tryz.prog ops Q (o::rest) a w:=by
 refine wpList_plain hg fun K' hK'=> ?_
 unfold Oper.wp
 rcases h.next o.type with ⟨h0,hrun⟩|⟨z,w',cnt',k1,k2,k4,k5,k6,k7,k8⟩
 · simp[execOp,hop,hit,hrun,Result.andThen]
   exact hK' _ _ (hDone h0)
 · simp[execOp,hop,hit,k4,Result.andThen]
   exact hK' _ _ (hMore z.1 z.2 w' cnt' k1 k2 k5 k6 k7 k8)
end
def PMN (w:World) (m:Nat) (l:List (Nm×UInt64)):Prop:=∃D:DU,w.ownsMap Tryz.prog 9 rdI m l.length D∧Maps.size D=l.length∧
 ∀x z,D.atKey (kN x) z=match l.lookup x with|none=>z|some b=> .lit (.int .u64 (b.toNat:Int))
theorem PMN.has {l:List (Nm×UInt64)} {D:DU} (h:∀x z,D.atKey (kN x) z=match l.lookup x with|none=>z|some b=> .lit (.int .u64 (b.toNat:Int))) (x:Nm):Maps.has D (kN x)=(l.lookup x).isSome:=by
 cases hx:l.lookup x with
 |none=>exact Maps.has_false_of_atKey fun z=>by rw[h,hx]
 |some b=>exact Maps.has_true_of_atKey (y:= .lit (.int .u64 (b.toNat:Int))) fun z=>by rw[h,hx]
theorem PMN.made (w:World):PMN (w.alloc (.map #[] 0)) w.heap.size []:=by
 refine⟨.map [],World.ownsMap_made w _ _ _,rfl,fun x z=> ?_⟩
 exact WideAt.atKey_none z (by simp)
theorem PMN.fr {S:List Nat} {w w':World} {m:Nat} {l:List (Nm×UInt64)} (h:PMN w m l) (k:Fr S w w') (hm:m∉S):PMN w' m l:=by
 obtain⟨D,⟨es,c,h1,h4,h5,h6⟩,h2,h3⟩:=h
 exact⟨D,⟨es,c,(k.block m (Array.getElem?_eq_some_iff.1 h1).1 hm).trans h1,h4,h5,h6⟩,h2,h3⟩
theorem PMN.ext {w w':World} {m:Nat} {l:List (Nm×UInt64)} (h:PMN w m l) (k:Ext w w'):PMN w' m l:=h.fr (S:=[]) (Ext.fr k) (by simp)
theorem PMN.block {w:World} {m:Nat} {l:List (Nm×UInt64)} (h:PMN w m l):∃es c,w.heap[m]? =some (.map es c):=by
 obtain⟨D,⟨es,c,h1,_⟩,_⟩:=h
 exact⟨es,c,h1⟩
section
variable {mt : TypeId} {w : World} {m : Nat} {l : List (Nm × UInt64)}
theorem PMN.look_ok (h:PMN w m l) (ht:Tryz.prog.underlying mt=some (.map 9 36)) (x:Nm) (hk:x.length≤maxLen):
 (Instr.lookup mt (.map (some m)) (vN x) true).run Tryz.prog w= .ok (.tuple #[vU ((l.lookup x).getD 0),.bool (l.lookup x).isSome]) w:=by
 obtain⟨D,h1,h2,h3⟩:=h
 obtain⟨v,ps,hrun,hv⟩:=h1.look_ok keyedN ht (Tryz.zeroValue36 w) (zd:= .lit (.int .u64 0)) (zp:=[]) rfl (kN_key hk)
 rw[h3] at hv
 have:v=vU ((l.lookup x).getD 0):=by
  cases hx:l.lookup x<;>rw[hx] at hv<;>exact rdI_inv hv
 rw[PMN.has h3] at hrun
 rw[←this];exact hrun
theorem PMN.len (h:PMN w m l) (ht:Tryz.prog.underlying mt=some (.map 9 36)) (ty:TypeId):(Builtin.len_ #[mt] ty #[.map (some m)]).run Tryz.prog w= .ok (.int .i64 (l.length:Nat)) w:=by
 obtain⟨D,h1,h2,h3⟩:=h
 rw[h1.len ht ty,h2]
theorem PMN.store (h:PMN w m l) (ht:Tryz.prog.underlying mt=some (.map 9 36)) (hl:l.length≤1048576) (hn:(l.map Prod.fst).Nodup) (x:Nm) (hk:x.length≤maxLen) (b:UInt64):
 ∃w',(Instr.mapUpdate mt (.map (some m)) (vN x) (vU b)).run Tryz.prog w= .ok () w'∧PMN w' m ((x,b)::noK l x)∧w.mapTurned w' m:=by
 obtain⟨D,h1,h2,h3⟩:=h
 obtain⟨w',hrun,r1,r2⟩:=h1.store keyedN ht (by simp[maxLen];omega) (kN_key hk) (show rdI (vU b)=some (.lit (.int .u64 (b.toNat:Int)),[]) from rfl)
 have hlen:((x,b)::noK l x).length=if(l.lookup x).isSome then l.length else l.length+1:=by
  cases hx:l.lookup x with
  |none=>
   have:noK l x=l:=List.filter_eq_self.2 fun z hz=>by
    have:z.1≠x:=fun e=>lku_none.1 hx (List.mem_map.2 ⟨z,hz,e⟩)
    simpa using this
   rw[this];simp
  |some c=>
   have:=(noK_perm (lku_mem hx) hn).length_eq
   simp only[List.length_cons] at this⊢
   simpa using this
 have hsz:Maps.size (D.put (kN x) (.lit (.int .u64 (b.toNat:Int))))=((x,b)::noK l x).length:=by
  rw[Maps.size_put (h1.tidy keyedN),PMN.has h3 x,h2,hlen]
 refine⟨w',hrun,⟨D.put (kN x) (.lit (.int .u64 (b.toNat:Int))),?_,hsz,fun y z=> ?_⟩,r2⟩
 · obtain⟨es,c,e1,e2,e3,e4⟩:=r1
   refine⟨es,c,e1,e2,?_,e4⟩
   rw[←hsz,e4]
   simp[Maps.size,length_sorted]
 · rw[lku_cons]
   by_cases hy:y=x
   · subst hy
     rw[Maps.atKey_put_same h1.isMap (by simp[WideAt.IsKeyLit]),if_pos rfl]
   · rw[Maps.atKey_put_other (kN_ne hy),h3,if_neg hy,lookup_noK,if_neg hy]
end
def RNGN (w:World) (m r:Nat) (l rem:List (Nm×UInt64)) (cnt:Nat):Prop:=∃(D:DU) (left:Lit→Bool) (n:Nat),w.ranges Tryz.prog 9 rdI m r n D left cnt∧(∀x z,D.atKey (kN x) z=match l.lookup x with|none=>z|some b=> .lit (.int .u64 (b.toNat:Int)))∧
 rem=l.filter (fun z=>left (kN z.1))∧(l.map Prod.fst).Nodup∧n=l.length∧Maps.size D=l.length
section
variable {w w' : World} {m r cnt : Nat} {l rem : List (Nm × UInt64)}
theorem RNGN.left (h:RNGN w m r l rem cnt):w.rangeLeft m r=cnt:=by
 obtain⟨D,left,n,h1,-⟩:=h
 exact h1.left_eq
theorem RNGN.nd (h:RNGN w m r l rem cnt):(rem.map Prod.fst).Nodup:=by
 obtain⟨D,left,n,h1,h2,h3,h4,h5,h6⟩:=h
 rw[h3]
 exact(List.filter_sublist.map Prod.fst).nodup h4
theorem RNGN.kept {S:List Nat} (h:RNGN w m r l rem cnt) (f:Fr S w w') (h1:m∉S) (h2:r∉S):RNGN w' m r l rem cnt:=by
 obtain⟨D,left,n,⟨es,clock,since,seen,c0,hb,F,hs,hD,hr,rest⟩,k2,k3,k4,k5,k6⟩:=h
 exact⟨D,left,n,⟨es,clock,since,seen,c0,(f.block m (Array.getElem?_eq_some_iff.1 hb).1 h1).trans hb,F,hs,hD,(f.block r (Array.getElem?_eq_some_iff.1 hr).1 h2).trans hr,rest⟩,k2,k3,k4,k5,k6⟩
theorem RNGN.ext (h:RNGN w m r l rem cnt) (k:Ext w w'):RNGN w' m r l rem cnt:=h.kept (S:=[]) (Ext.fr k) (by simp) (by simp)
theorem RNGN.blocks (h:RNGN w m r l rem cnt):(∃o,w.heap[m]? =some o∧∀cs e,o≠ .cells cs e (0,0))∧∃o,w.heap[r]? =some o∧∀cs e,o≠ .cells cs e (0,0):=by
 obtain⟨D,left,nn,⟨es,clock,since,seen,c0,hb,F,hs,hD,hr2,rest⟩,-⟩:=h
 exact⟨⟨_,hb,by intro cs e h9;cases h9⟩,⟨_,hr2,by intro cs e h9;cases h9⟩⟩
theorem PMN.range {mt:TypeId} (h:PMN w m l) (ht:Tryz.prog.underlying mt=some (.map 9 36)) (hn:(l.map Prod.fst).Nodup):
 ∃w',(Instr.range mt (.map (some m))).run Tryz.prog w= .ok (.pointer (some ⟨w.heap.size,0,none⟩)) w'∧RNGN w' m w.heap.size l l l.length∧Ext w w':=by
 obtain⟨D,h1,h2,h3⟩:=h
 obtain⟨w',r1,r2,r3,r4⟩:=h1.range keyedN ht
 refine⟨w',r1,⟨D,_,l.length,by rw[h2] at r2;exact r2,h3,?_,hn,rfl,h2⟩,Ext.grown r3 rfl⟩
 refine(List.filter_eq_self.2 fun z hz=> ?_).symm
 rw[PMN.has h3 z.1,nodup_lku hn hz];rfl
theorem RNGN.next (h:RNGN w m r l rem cnt) (ty:TypeId):
 (rem=[]∧(Instr.next (.pointer (some ⟨r,0,none⟩)) false ty).run Tryz.prog w= .ok (.tuple #[.bool false]) w)∨
 ∃(z:Nm×UInt64) (w':World) (cnt':Nat),z∈rem∧z∈l∧z.1.length≤maxLen∧(Instr.next (.pointer (some ⟨r,0,none⟩)) false ty).run Tryz.prog w= .ok (.tuple #[.bool true,vN z.1,vU z.2]) w'∧RNGN w' m r l (noK rem z.1) cnt'∧cnt'<cnt∧Fr [r] w w'∧(Instr.entry (.pointer (some ⟨r,0,none⟩))).run Tryz.prog w'= .ok (.tuple #[vN z.1,vU z.2]) w':=by
 obtain⟨D,left,n,h1,h2,h3,h4,h5,h6⟩:=h
 rcases h1.next keyedN ty with ⟨-,k1,k2⟩|⟨key,v,kl,y,w',cnt',k1,k2,k3,k4,k5,k6,k7,k8,k9,k10⟩
 · left
   refine⟨?_,k2⟩
   rw[h3]
   exact List.filter_eq_nil_iff.2 fun z hz=>by rw[k1];simp
 · right
   obtain⟨nm,rfl,rfl,hlen⟩:=key_invN k1
   cases hlk:l.lookup nm with
   |none=>
    exfalso
    have a1:=k4 .nil
    have a2:=k4 (.lit (.int .i64 0))
    rw[h2,hlk] at a1 a2
    simp only at a1 a2
    rw[←a1] at a2
    cases a2
   |some b=>
    have a1:=k4 .nil
    rw[h2,hlk] at a1
    simp only at a1
    obtain⟨y1,y2⟩:=y
    simp only at a1
    subst a1
    have hv:v=vU b:=rdI_inv k3
    subst hv
    have hz:(nm,b)∈l:=lku_mem hlk
    refine⟨(nm,b),w',cnt',?_,hz,hlen,k5,⟨D,_,n,k6,h2,?_,h4,h5,h6⟩,k7,⟨k8.os,k8.tape,k8.output,k8.size,fun j hj hn=>k8.block j hj fun e=>hn (by cases e;simp)⟩,k10⟩
    · rw[h3];exact List.mem_filter.2 ⟨hz,k2⟩
    · rw[h3]
      unfold noK
      rw[List.filter_filter]
      refine List.filter_congr fun z hz=> ?_
      by_cases e:z.1=nm
      · rw[e,WideAt.sameKey_self (by simp[WideAt.IsKeyLit])];simp
      · rw[Maps.sameKey_ne (kN_ne e)];simp[e]
end
section
variable (w : World) {ops : Array Oper} {rest : List Oper} {o : Oper} {a : Act} {Q : Exit → Act → World → Prop}
theorem wpList_range_PMN {mt:TypeId} (ht:Tryz.prog.underlying mt=some (.map 9 36)) (hg:o.guard=none) (mo:Operand) (hop:o.op=Op.range mt mo) (m:Nat) (l:List (Nm×UInt64)) (hm:a.eval mo= .map (some m)) (h:PMN w m l) (hn:(l.map Prod.fst).Nodup)
 (hK:∀w',RNGN w' m w.heap.size l l l.length→Ext w w'→wpList Tryz.prog ops Q rest (a.put o.dst (.pointer (some ⟨w.heap.size,0,none⟩))) w'):wpList Tryz.prog ops Q (o::rest) a w:=by
 refine wpList_plain hg fun K' hK'=> ?_
 obtain⟨w',hrun,r1,r2⟩:=h.range ht hn
 unfold Oper.wp
 simp[execOp,hop,hm,hrun,Result.andThen]
 exact hK' _ _ (hK w' r1 r2)
theorem wpList_next_RNGN (hg:o.guard=none) (it:Operand) (hop:o.op=Op.next it false) (m r cnt:Nat) (l rem:List (Nm×UInt64)) (hit:a.eval it= .pointer (some ⟨r,0,none⟩)) (h:RNGN w m r l rem cnt)
 (hDone:rem=[]→wpList Tryz.prog ops Q rest (a.put o.dst (.tuple #[.bool false])) w)
 (hMore:∀(n:Nm) (b:UInt64) (w':World) (cnt':Nat),(n,b)∈rem→(n,b)∈l→n.length≤maxLen→RNGN w' m r l (noK rem n) cnt'→cnt'<cnt→Fr [r] w w'→(Instr.entry (.pointer (some ⟨r,0,none⟩))).run Tryz.prog w'= .ok (.tuple #[vN n,vU b]) w'→wpList Tryz.prog ops Q rest (a.put o.dst (.tuple #[.bool true,vN n,vU b])) w'):
 wpList Tryz.prog ops Q (o::rest) a w:=by
 refine wpList_plain hg fun K' hK'=> ?_
 unfold Oper.wp
 rcases h.next o.type with ⟨h0,hrun⟩|⟨z,w',cnt',k1,k2,k3,k4,k5,k6,k7,k8⟩
 · simp[execOp,hop,hit,hrun,Result.andThen]
   exact hK' _ _ (hDone h0)
 · simp[execOp,hop,hit,k4,Result.andThen]
   exact hK' _ _ (hMore z.1 z.2 w' cnt' k1 k2 k3 k5 k6 k7 k8)
end
end Go.Proofs.YtcfgafododiioaaGreatDoor
