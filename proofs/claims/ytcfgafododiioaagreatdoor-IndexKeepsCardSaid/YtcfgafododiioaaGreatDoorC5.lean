/- Texts of a claim, side by side. -/
import Derived.Test.YtcfgafododiioaaGreatDoorC4
import Derived.Test.YtcfgafododiioaaGreatDoorC1
import Derived.Test.YtcfgafododiioaaGreatDoorC3
set_option linter.unusedSimpArgs false
set_option linter.unusedVariables false
namespace Go.ParB
open Go.RowKit Go.Par
def upd (L:Nat→Bool) (i:Nat):Nat→Bool:=fun k=>if k=i then true else L k
def Lof (listed:Array Bool):Nat→Bool:=fun k=>listed.getD k false
theorem Lof_set {listed:Array Bool} {i:Nat} (h:i<listed.size):Lof (listed.setIfInBounds i true)=upd (Lof listed) i:=by
 funext k
 unfold Lof upd
 by_cases e:k=i
 · subst e;simp[h]
 · simp[e,Array.getElem?_setIfInBounds_ne (Ne.symm e)]
def knows (ops:List Oper) (V:Nat→(Nat→Bool)→Value→World→Prop) (L:Nat→Bool) (a0:Act) (ρ:Operand→Value) (w:World):Operand→Prop
 | .tmp t=>match writer ops t with
  |some j=>V j L (ρ (.tmp t)) w
  |none=>ρ (.tmp t)=a0.tmps.getD t undef
 |x=>ρ x=a0.eval x
def knowsAll (ops:List Oper) (V:Nat→(Nat→Bool)→Value→World→Prop) (L:Nat→Bool) (a0:Act) (ρ:Operand→Value) (w:World):List Operand→Prop
 |[]=>True
 |x::r=>knows ops V L a0 ρ w x∧knowsAll ops V L a0 ρ w r
def guardHolds (V:Nat→(Nat→Bool)→Value→World→Prop) (L:Nat→Bool) (w:World) (o:Oper):Prop:=
 match o.guard with
 |none=>True
 |some (g,want)=>V g L (.bool want) w
def guardFails (V:Nat→(Nat→Bool)→Value→World→Prop) (L:Nat→Bool) (w:World) (o:Oper) (i:Nat):Prop:=
 match o.guard with
 |none=>True
 |some (g,want)=>∀u,V g L u w→u= .bool want∨V i (upd L i) undef w
def goals (P:Program) (ops:List Oper) (R:World→World→Prop) (X:Nat→World→World→Prop) (V:Nat→(Nat→Bool)→Value→World→Prop) (a0:Act) (w0:World):List Oper→Nat→Prop
 |[],_=>True
 |o::r,i=>
  ((∀L w,R w0 w→guardFails V L w o i)∧
   (∀(L:Nat→Bool) (ρ:Operand→Value) (w:World),R w0 w→L i=false→guardHolds V L w o→knowsAll ops V L a0 ρ w o.op.operands.toList→val P o ρ w fun v w'=>X i w w'∧V i (upd L i) v w'))∧
  goals P ops R X V a0 w0 r (i+1)
theorem goals_at {P:Program} {ops:List Oper} {R:World→World→Prop} {X:Nat→World→World→Prop} {V:Nat→(Nat→Bool)→Value→World→Prop} {a0:Act} {w0:World}:
 ∀(l:List Oper) (k:Nat),goals P ops R X V a0 w0 l k→∀i o,l[i]? =some o→
  (∀L w,R w0 w→guardFails V L w o (k+i))∧(∀(L:Nat→Bool) (ρ:Operand→Value) (w:World),R w0 w→L (k+i)=false→guardHolds V L w o→knowsAll ops V L a0 ρ w o.op.operands.toList→val P o ρ w fun v w'=>X (k+i) w w'∧V (k+i) (upd L (k+i)) v w')
 |[],_,_,i,o,h=>by simp at h
 |o::r,k,h,0,o',ho=>by
  simp at ho;subst ho;exact h.1
 |o::r,k,h,i+1,o',ho=>by
  have:=goals_at r (k+1) h.2 i o' (by simpa using ho)
  rw[show k+1+i=k+(i+1) by omega] at this
  exact this
structure Inv (ops:List Oper) (R:World→World→Prop) (V:Nat→(Nat→Bool)→Value→World→Prop) (a0:Act) (w0:World) (listed:Array Bool) (a:Act) (w:World):Prop where
 size:a.tmps.size=a0.tmps.size
 defers:a.defers=a0.defers
 ext:R w0 w
 done:∀j o d,ops[j]? =some o→listed.getD j false=true→o.dst=some d→V j (Lof listed) (a.tmps.getD d undef) w
 old:∀s,(∀j o,ops[j]? =some o→o.dst=some s→listed.getD j false=false)→a.tmps.getD s undef=a0.tmps.getD s undef
section
variable {P : Program} {ops : List Oper} {R : World → World → Prop} {X : Nat → World → World → Prop} {V : Nat → (Nat → Bool) → Value → World → Prop} {a0 : Act} {w0 : World}
theorem Inv.step (hB:okB ops a0.tmps.size=true) (trans:∀i a b,R w0 a→X i a b→R w0 b) (stab:∀i j L v w w',j≠i→L i=false→(∀o e,ops[i]? =some o→e∈o.after→Region.binds .any e=true→L e.on=true)→X i w w'→V j L v w→V j (upd L i) v w')
 {listed:Array Bool} (hls:listed.size=ops.length) {a:Act} {w w':World} {i:Nat} {o:Oper} {v:Value} (hi:ops[i]? =some o)
 (inv:Inv ops R V a0 w0 listed a w) (hun:listed.getD i true=false) (hr:∀e∈o.after,Region.binds .any e=true→listed.getD e.on false=true) (hX:X i w w') (hv:V i (upd (Lof listed) i) v w'):Inv ops R V a0 w0 (listed.setIfInBounds i true) (a.put o.dst v) w':=by
 simp only[okB,Bool.and_eq_true] at hB
 obtain⟨⟨hb1,hb2⟩,hb3⟩:=hB
 have hnd:=of_decide_eq_true hb2
 have hilt:i<listed.size:=by
  have:=(List.getElem?_eq_some_iff.1 hi).1;omega
 refine⟨by rw[size_put];exact inv.size,by rw[defers_put];exact inv.defers,trans i _ _ inv.ext hX,?_,?_⟩
 · intro j o' d hj hl hd
   by_cases hij:i=j
   · subst hij
     rw[hi] at hj;cases hj
     have hdlt:d<a.tmps.size:=by
      rw[inv.size]
      have:=List.all_eq_true.1 hb1 o (List.mem_of_getElem? hi)
      simpa[hd] using this
     rw[hd,getD_put_same hdlt,Lof_set hilt]
     exact hv
   · have hne:o.dst≠some d:=fun e=>hij (nodup_dst hnd hi hj e hd)
     rw[getD_put_ne hne]
     rw[getD_set_ne false hij] at hl
     rw[Lof_set hilt]
     exact stab i j _ _ _ _ (Ne.symm hij) (by unfold Lof;simp[hilt] at hun⊢;exact hun) (fun o2 e ho2 he hbe=>by rw[hi] at ho2;cases ho2;exact hr e he hbe) hX (inv.done j o' d hj hl hd)
 · intro s hs
   have hne:o.dst≠some s:=fun e=>by
    have:=hs i o hi e
    simp[hilt] at this
   rw[getD_put_ne hne]
   refine inv.old s fun j o' hj hd=> ?_
   have:=hs j o' hj hd
   by_cases hij:i=j
   · subst hij
     rw[hi] at hj;cases hj
     exact absurd hd hne
   · rwa[getD_set_ne false hij] at this
theorem knowsAll_of_inv (hB:okB ops a0.tmps.size=true) {listed:Array Bool} {a:Act} {w:World} {i:Nat} {o:Oper} (hi:ops[i]? =some o)
 (inv:Inv ops R V a0 w0 listed a w) (hr:∀e∈o.after,Region.binds .any e=true→listed.getD e.on false=true):
 knowsAll ops V (Lof listed) a0 a.eval w o.op.operands.toList:=by
 simp only[okB,Bool.and_eq_true] at hB
 have hb3:=hB.2
 have h3:=List.all_eq_true.1 hb3 (o,i) (by
  rw[List.mem_zipIdx_iff_getElem?];simpa using hi)
 simp only[Bool.and_eq_true] at h3
 obtain⟨⟨⟨_,hop⟩,_⟩,_⟩:=h3
 rw[←Array.all_toList] at hop
 have hop':=List.all_eq_true.1 hop
 generalize o.op.operands.toList=l at hop'
 induction l with
 |nil=>trivial
 |cons x r ih=>
  refine⟨?_,ih fun y hy=>hop' y (List.mem_cons_of_mem _ hy)⟩
  have hx:=hop' x List.mem_cons_self
  cases x with
  |tmp t=>
   simp only[knows]
   cases hw:writer ops t with
   |none=>
    simp only
    exact inv.old t fun j o' hj hd=>absurd hd (writer_none hw hj)
   |some j=>
    simp only[hw] at hx⊢
    obtain⟨o',hj,hd⟩:=writer_some hw
    obtain⟨e,he,hx⟩:=(any_mem _ _).1 hx
    simp only[Bool.and_eq_true,beq_iff_eq] at hx
    have:=hr e he hx.2
    rw[hx.1] at this
    exact inv.done j o' t hj this hd
  |const v=>rfl
  |global g=>rfl
  |func f=>rfl
theorem wpAny_par (Q:Exit→Act→World→Prop) (hB:okB ops a0.tmps.size=true) (refl:∀i w,X i w w) (trans:∀i a b,R w0 a→X i a b→R w0 b)
 (stab:∀i j L v w w',j≠i→L i=false→(∀o e,ops[i]? =some o→e∈o.after→Region.binds .any e=true→L e.on=true)→X i w w'→V j L v w→V j (upd L i) v w') (hg:goals P ops R X V a0 w0 ops 0)
 (fin:∀a w,Inv ops R V a0 w0 (Array.replicate ops.length true) a w→Q .normal a w):
 ∀(fuel:Nat) (listed:Array Bool) (a:Act) (w:World),listed.size=ops.length→(listed.toList.filter (· ==false)).length≤fuel→
  Inv ops R V a0 w0 listed a w→wpAny P .any ops.toArray Q fuel listed a w:=by
 have hB':=hB
 simp only[okB,Bool.and_eq_true] at hB'
 have hb3:=hB'.2
 have ended:∀(listed:Array Bool) (a:Act) (w:World),listed.size=ops.length→Inv ops R V a0 w0 listed a w→Region.ready .any ops.toArray listed=[]→Q .normal a w:=by
  intro listed a w hls inv hnil
  have all:∀n i,i≤n→i<ops.length→listed.getD i false=true:=by
   intro n
   induction n with
   |zero=>
    intro i hi hlt
    obtain rfl:i=0:=by omega
    cases hl:listed.getD 0 false with
    |true=>rfl
    |false=>
     exfalso
     have:0∈Region.ready .any ops.toArray listed:=by
      rw[mem_ready]
      refine⟨by simp[hls▸hlt] at hl⊢;exact hl,ops[0],by simp[hlt],fun e he hb=> ?_⟩
      have h3:=List.all_eq_true.1 hb3 (ops[0],0) (by rw[List.mem_zipIdx_iff_getElem?];simp[hlt])
      simp only[Bool.and_eq_true] at h3
      have:=(Array.all_eq_true_iff_forall_mem.1 h3.1.1.1) e he
      simp[hb] at this
     rw[hnil] at this;cases this
   |succ n ih=>
    intro i hi hlt
    cases hl:listed.getD i false with
    |true=>rfl
    |false=>
     exfalso
     have:i∈Region.ready .any ops.toArray listed:=by
      rw[mem_ready]
      refine⟨by simp[hls▸hlt] at hl⊢;exact hl,ops[i],by simp[hlt],fun e he hb=> ?_⟩
      have h3:=List.all_eq_true.1 hb3 (ops[i],i) (by rw[List.mem_zipIdx_iff_getElem?];simp[hlt])
      simp only[Bool.and_eq_true] at h3
      have:=(Array.all_eq_true_iff_forall_mem.1 h3.1.1.1) e he
      simp[hb] at this
      exact ih e.on (by omega) (by omega)
     rw[hnil] at this;cases this
  have he:listed=Array.replicate ops.length true:=by
   apply Array.ext
   · simp[hls]
   · intro i h1 h2
     have:=all i i (Nat.le_refl _) (by simpa using h2)
     simp[h1] at this
     simp[this]
  subst he
  exact fin a w inv
 intro fuel
 induction fuel with
 |zero=>
  intro listed a w hls hf inv
  have hnil:Region.ready .any ops.toArray listed=[]:=by
   rw[List.eq_nil_iff_forall_not_mem]
   intro i hi
   have h0:=(mem_ready.1 hi).1
   have hlt:i<listed.size:=by
    rcases Nat.lt_or_ge i listed.size with h'|h'
    · exact h'
    · simp[Array.getElem?_eq_none h'] at h0
   simp[hlt] at h0
   have:false∈listed.toList.filter (· ==false):=by
    rw[List.mem_filter]
    exact⟨by rw[←h0];exact Array.mem_toList_iff.2 (Array.getElem_mem hlt),rfl⟩
   have:=List.length_pos_of_mem this
   omega
  exact⟨hnil,ended listed a w hls inv hnil⟩
 |succ fuel ih=>
  intro listed a w hls hf inv
  refine⟨ended listed a w hls inv,fun i hi=> ?_⟩
  obtain⟨hun,o,ho,hr⟩:=mem_ready.1 hi
  have ho':ops[i]? =some o:=by simpa using ho
  have hlt:i<listed.size:=by
   rcases Nat.lt_or_ge i listed.size with h'|h'
   · exact h'
   · simp[Array.getElem?_eq_none h'] at hun
  have hcount:((listed.setIfInBounds i true).toList.filter (· ==false)).length≤fuel:=by
   have h1:listed[i]=false:=by simpa[hlt] using hun
   have:∀(l:List Bool) (k:Nat) (hk:k<l.length),l[k]=false→((l.set k true).filter (· ==false)).length+1=(l.filter (· ==false)).length:=by
    intro l
    induction l with
    |nil=>intro k hk;simp at hk
    |cons b l ihl=>
     intro k hk hb
     match k with
     |0=>simp at hb;subst hb;simp
     |k+1=>
      simp at hb
      have:=ihl k (by simpa using hk) hb
      rw[List.set_cons_succ,List.filter_cons,List.filter_cons]
      split
      · rw[List.length_cons,List.length_cons];omega
      · exact this
   have:=this listed.toList i (by simpa using hlt) (by simpa using h1)
   simp only[Array.toList_setIfInBounds]
   omega
  have hg':=goals_at ops 0 hg i o ho'
  simp only[Nat.zero_add] at hg'
  have next:∀v w',X i w w'→V i (upd (Lof listed) i) v w'→wpAny P .any ops.toArray Q fuel (listed.setIfInBounds i true) (a.put o.dst v) w':=fun v w' hX hv=>
   ih _ _ _ (by simpa using hls) hcount (inv.step hB trans stab hls ho' hun hr hX hv)
  have hLi:Lof listed i=false:=by unfold Lof;simp[hlt] at hun⊢;exact hun
  unfold wpOp
  simp only[ho]
  have h3:=List.all_eq_true.1 hb3 (o,i) (by rw[List.mem_zipIdx_iff_getElem?];simpa using ho')
  simp only[Bool.and_eq_true] at h3
  obtain⟨⟨_,hgd⟩,_⟩:=h3
  split
  · rename_i hw
    left
    refine wp_of_val (hg'.2 (Lof listed) a.eval w inv.ext hLi ?_ (knowsAll_of_inv hB ho' inv hr)) fun v w' h=>next v w' h.1 h.2
    unfold guardHolds
    unfold Region.wanted at hw
    cases hgu:o.guard with
    |none=>trivial
    |some gw=>
     obtain⟨g,want⟩:=gw
     simp only[hgu] at hw hgd⊢
     simp only[Bool.and_eq_true] at hgd
     obtain⟨e,he,hx⟩:=(any_mem _ _).1 hgd.1
     simp only[Bool.and_eq_true,beq_iff_eq] at hx
     obtain⟨d,hd⟩:=Option.isSome_iff_exists.1 hgd.2
     cases hog:ops[g]? with
     |none=>simp[hog] at hd
     |some og=>
      simp[hog] at hd
      have hl:=hr e he hx.2
      rw[hx.1] at hl
      have hV:=inv.done g og d hog hl hd
      unfold yielded at hw
      simp[hog,hd] at hw
      have hds:d<a.tmps.size:=by
       have hb1:=hB'.1.1
       have:=List.all_eq_true.1 hb1 og (List.mem_of_getElem? hog)
       rw[inv.size]
       simpa[hd] using this
      simp[hds] at hw
      have hval:a.tmps.getD d undef= .bool want:=by
       simp[hds]
       split at hw
       · rename_i b hb
         have e2:a.tmps[d]= .bool b:=Option.some.inj hb
         rw[e2]
         simp only[Option.some.injEq] at hw
         rw[hw]
       · simp at hw
      rw[hval] at hV
      exact hV
  · rename_i hw
    refine next undef w (refl i w) ?_
    have hgf:=hg'.1 (Lof listed) w inv.ext
    unfold guardFails at hgf
    unfold Region.wanted at hw
    cases hgu:o.guard with
    |none=>simp[hgu] at hw
    |some gw=>
     obtain⟨g,want⟩:=gw
     simp only[hgu] at hw hgd hgf
     simp only[Bool.and_eq_true] at hgd
     obtain⟨e,he,hx⟩:=(any_mem _ _).1 hgd.1
     simp only[Bool.and_eq_true,beq_iff_eq] at hx
     obtain⟨d,hd⟩:=Option.isSome_iff_exists.1 hgd.2
     cases hog:ops[g]? with
     |none=>simp[hog] at hd
     |some og=>
      simp[hog] at hd
      have hl:=hr e he hx.2
      rw[hx.1] at hl
      have hV:=inv.done g og d hog hl hd
      rcases hgf _ hV with h|h
      · exfalso
        apply hw
        unfold yielded
        have hds:d<a.tmps.size:=by
         have hb1:=hB'.1.1
         have:=List.all_eq_true.1 hb1 og (List.mem_of_getElem? hog)
         rw[inv.size]
         simpa[hd] using this
        simp[hds] at h
        simp[hog,hd,hds,h]
      · exact h
theorem Inv.act {listed:Array Bool} {a:Act} {w:World} (inv:Inv ops R V a0 w0 listed a w):a=putAll a0 a (ops.filterMap (·.dst)):=by
 have h1:a.tmps=(putAll a0 a (ops.filterMap (·.dst))).tmps:=by
  apply Array.ext
  · rw[putAll_size];exact inv.size
  · intro i hi hi2
    have h0:i<a0.tmps.size:=by rw[←inv.size];exact hi
    have:=putAll_in a i (ops.filterMap (·.dst)) a0 h0 (by
     by_cases hm:i∈ops.filterMap (·.dst)
     · exact .inl hm
     · right
       refine(inv.old i fun j o hj hd=> ?_).symm
       exact absurd (List.mem_filterMap.2 ⟨o,List.mem_of_getElem? hj,hd⟩) hm)
    simp only[Array.getD_eq_getD_getElem?,Array.getElem?_eq_getElem hi,Array.getElem?_eq_getElem hi2,Option.getD_some] at this
    exact this.symm
 have h2:a.defers=(putAll a0 a (ops.filterMap (·.dst))).defers:=by rw[putAll_defers];exact inv.defers
 cases a
 simp only at h1 h2
 generalize putAll a0 _ _=b at*
 cases b
 simp_all
theorem wp_region_par {id:Nat} {Q:Exit→Act→World→Prop} {l:List Oper} (hm:P.follows .mixedOrders=true) {a0:Act} {w0:World} (R:World→World→Prop) (X:Nat→World→World→Prop) (V:Nat→(Nat→Bool)→Value→World→Prop)
 (hB:okB l a0.tmps.size=true) (refl:∀i w,X i w w) (trans:∀i a b,R w0 a→X i a b→R w0 b) (draw:R w0 {w0 with drawn:=w0.drawn+1})
 (stab:∀i j L v w w',j≠i→L i=false→(∀o e,l[i]? =some o→e∈o.after→Region.binds .any e=true→L e.on=true)→X i w w'→V j L v w→V j (upd L i) v w') (hg:goals P l R X V a0 w0 l 0)
 (fin:∀a w,Inv l R V a0 w0 (Array.replicate l.length true) a w→Q .normal (putAll a0 a (l.filterMap (·.dst))) w):
 (Code.region id l.toArray true).wp P Q a0 w0:=by
 refine wp_region_any hm ?_
 refine wpAny_par Q hB refl trans stab hg (fun a w inv=>by have:=fin a w inv;rw[←inv.act] at this;exact this) _ _ _ _ (by simp) (by simp) ⟨rfl,rfl,draw,?_,fun _ _=>rfl⟩
 intro j o d hj hl
 simp[Array.getElem?_replicate] at hl
 split at hl<;>simp_all
end
def EQ (e:Value):(Nat→Bool)→Value→World→Prop:=fun _ v _=>v=e
end Go.ParB
namespace Go.ParC
open Go.RowKit Go.Par
open Go.ParB (upd Lof Lof_set)
def VW (V:Nat→Value→Prop):Nat→Value→World→Prop:=fun j v _=>V j v
def goals (P:Program) (ops:List Oper) (R:(Nat→Bool)→World→Prop) (V:Nat→Value→Prop) (a0:Act):List Oper→Nat→Prop
 |[],_=>True
 |o::r,i=>
  (∀(L:Nat→Bool) (ρ:Operand→Value) (w:World),R L w→L i=false→(o.after.all fun e=> !Region.binds .any e||L e.on)=true→knowsAll ops (VW V) a0 ρ w o.op.operands.toList→val P o ρ w fun v w'=>R (upd L i) w'∧V i v)∧
  goals P ops R V a0 r (i+1)
theorem goals_at {P:Program} {ops:List Oper} {R:(Nat→Bool)→World→Prop} {V:Nat→Value→Prop} {a0:Act}:
 ∀(l:List Oper) (k:Nat),goals P ops R V a0 l k→∀i o,l[i]? =some o→
  ∀(L:Nat→Bool) (ρ:Operand→Value) (w:World),R L w→L (k+i)=false→(o.after.all fun e=> !Region.binds .any e||L e.on)=true→knowsAll ops (VW V) a0 ρ w o.op.operands.toList→val P o ρ w fun v w'=>R (upd L (k+i)) w'∧V (k+i) v
 |[],_,_,i,o,h=>by simp at h
 |o::r,k,h,0,o',ho=>by
  simp at ho;subst ho;exact h.1
 |o::r,k,h,i+1,o',ho=>by
  have:=goals_at r (k+1) h.2 i o' (by simpa using ho)
  rw[show k+1+i=k+(i+1) by omega] at this
  exact this
section
variable {P : Program} {ops : List Oper} {R : (Nat → Bool) → World → Prop} {V : Nat → Value → Prop} {a0 : Act}
abbrev CInv (ops:List Oper) (V:Nat→Value→Prop) (a0:Act) (listed:Array Bool) (a:Act) (w:World):Prop:=Par.Inv ops (fun _ _=>True) (VW V) a0 w listed a w
theorem cinv_step (hB:okB ops a0.tmps.size=true) {listed:Array Bool} (hls:listed.size=ops.length) {a:Act} {w w':World} {i:Nat} {o:Oper} {v:Value} (hi:ops[i]? =some o)
 (inv:CInv ops V a0 listed a w) (hv:V i v):CInv ops V a0 (listed.setIfInBounds i true) (a.put o.dst v) w':=by
 have h:=Par.Inv.step (X:=fun _ _=>True) (w':=w') hB (fun _ _ _ _ _=>trivial) (fun _ _ _ _ _ h=>h) hls hi inv trivial (show VW V i v w' from hv)
 exact⟨h.size,h.defers,trivial,h.done,h.old⟩
theorem wpAny_c (Q:Exit→Act→World→Prop) (hB:okB ops a0.tmps.size=true) (hng:(ops.all fun o=>o.guard.isNone)=true) (hg:goals P ops R V a0 ops 0)
 (fin:∀a w,CInv ops V a0 (Array.replicate ops.length true) a w→R (Lof (Array.replicate ops.length true)) w→Q .normal a w):
 ∀(fuel:Nat) (listed:Array Bool) (a:Act) (w:World),listed.size=ops.length→(listed.toList.filter (· ==false)).length≤fuel→
  CInv ops V a0 listed a w→R (Lof listed) w→wpAny P .any ops.toArray Q fuel listed a w:=by
 have hB':=hB
 simp only[okB,Bool.and_eq_true] at hB'
 have hb3:=hB'.2
 have ended:∀(listed:Array Bool) (a:Act) (w:World),listed.size=ops.length→CInv ops V a0 listed a w→R (Lof listed) w→Region.ready .any ops.toArray listed=[]→Q .normal a w:=by
  intro listed a w hls inv hR hnil
  have all:∀n i,i≤n→i<ops.length→listed.getD i false=true:=by
   intro n
   induction n with
   |zero=>
    intro i hi hlt
    obtain rfl:i=0:=by omega
    cases hl:listed.getD 0 false with
    |true=>rfl
    |false=>
     exfalso
     have:0∈Region.ready .any ops.toArray listed:=by
      rw[mem_ready]
      refine⟨by simp[hls▸hlt] at hl⊢;exact hl,ops[0],by simp[hlt],fun e he hb=> ?_⟩
      have h3:=List.all_eq_true.1 hb3 (ops[0],0) (by rw[List.mem_zipIdx_iff_getElem?];simp[hlt])
      simp only[Bool.and_eq_true] at h3
      have:=(Array.all_eq_true_iff_forall_mem.1 h3.1.1.1) e he
      simp[hb] at this
     rw[hnil] at this;cases this
   |succ n ih=>
    intro i hi hlt
    cases hl:listed.getD i false with
    |true=>rfl
    |false=>
     exfalso
     have:i∈Region.ready .any ops.toArray listed:=by
      rw[mem_ready]
      refine⟨by simp[hls▸hlt] at hl⊢;exact hl,ops[i],by simp[hlt],fun e he hb=> ?_⟩
      have h3:=List.all_eq_true.1 hb3 (ops[i],i) (by rw[List.mem_zipIdx_iff_getElem?];simp[hlt])
      simp only[Bool.and_eq_true] at h3
      have:=(Array.all_eq_true_iff_forall_mem.1 h3.1.1.1) e he
      simp[hb] at this
      exact ih e.on (by omega) (by omega)
     rw[hnil] at this;cases this
  have he:listed=Array.replicate ops.length true:=by
   apply Array.ext
   · simp[hls]
   · intro i h1 h2
     have:=all i i (Nat.le_refl _) (by simpa using h2)
     simp[h1] at this
     simp[this]
  subst he
  exact fin a w inv hR
 intro fuel
 induction fuel with
 |zero=>
  intro listed a w hls hf inv hR
  have hnil:Region.ready .any ops.toArray listed=[]:=by
   rw[List.eq_nil_iff_forall_not_mem]
   intro i hi
   have h0:=(mem_ready.1 hi).1
   have hlt:i<listed.size:=by
    rcases Nat.lt_or_ge i listed.size with h'|h'
    · exact h'
    · simp[Array.getElem?_eq_none h'] at h0
   simp[hlt] at h0
   have:false∈listed.toList.filter (· ==false):=by
    rw[List.mem_filter]
    exact⟨by rw[←h0];exact Array.mem_toList_iff.2 (Array.getElem_mem hlt),rfl⟩
   have:=List.length_pos_of_mem this
   omega
  exact⟨hnil,ended listed a w hls inv hR hnil⟩
 |succ fuel ih=>
  intro listed a w hls hf inv hR
  refine⟨ended listed a w hls inv hR,fun i hi=> ?_⟩
  obtain⟨hun,o,ho,hr⟩:=mem_ready.1 hi
  have ho':ops[i]? =some o:=by simpa using ho
  have hlt:i<listed.size:=by
   rcases Nat.lt_or_ge i listed.size with h'|h'
   · exact h'
   · simp[Array.getElem?_eq_none h'] at hun
  have hcount:((listed.setIfInBounds i true).toList.filter (· ==false)).length≤fuel:=by
   have h1:listed[i]=false:=by simpa[hlt] using hun
   have:∀(l:List Bool) (k:Nat) (hk:k<l.length),l[k]=false→((l.set k true).filter (· ==false)).length+1=(l.filter (· ==false)).length:=by
    intro l
    induction l with
    |nil=>intro k hk;simp at hk
    |cons b l ihl=>
     intro k hk hb
     match k with
     |0=>simp at hb;subst hb;simp
     |k+1=>
      simp at hb
      have:=ihl k (by simpa using hk) hb
      rw[List.set_cons_succ,List.filter_cons,List.filter_cons]
      split
      · rw[List.length_cons,List.length_cons];omega
      · exact this
   have:=this listed.toList i (by simpa using hlt) (by simpa using h1)
   simp only[Array.toList_setIfInBounds]
   omega
  have hg':=goals_at ops 0 hg i o ho'
  simp only[Nat.zero_add] at hg'
  have next:∀v w',R (upd (Lof listed) i) w'→V i v→wpAny P .any ops.toArray Q fuel (listed.setIfInBounds i true) (a.put o.dst v) w':=fun v w' hR hv=>
   ih _ _ _ (by simpa using hls) hcount (cinv_step hB hls ho' inv hv) (by rw[Lof_set hlt];exact hR)
  have hLi:Lof listed i=false:=by unfold Lof;simp[hlt] at hun⊢;exact hun
  have hgn:o.guard=none:=by
   have:=List.all_eq_true.1 hng o (List.mem_of_getElem? ho')
   simpa using this
  unfold wpOp
  simp only[ho]
  split
  · left
    refine wp_of_val (hg' (Lof listed) a.eval w hR hLi ?_ (knowsAll_of_inv hB ho' inv hr)) fun v w' h=>next v w' h.1 h.2
    rw[Array.all_eq_true_iff_forall_mem]
    intro e he
    by_cases hb:Region.binds .any e=true
    · have:=hr e he hb
      unfold Lof
      simp[hb,this]
    · simp[hb]
  · rename_i hw
    unfold Region.wanted at hw
    simp[hgn] at hw
theorem wp_region_c {id:Nat} {Q:Exit→Act→World→Prop} {l:List Oper} (hm:P.follows .mixedOrders=true) {a0:Act} {w0:World} (R:(Nat→Bool)→World→Prop) (V:Nat→Value→Prop)
 (hB:okB l a0.tmps.size=true) (hng:(l.all fun o=>o.guard.isNone)=true) (h0:R (fun _=>false) {w0 with drawn:=w0.drawn+1}) (hg:goals P l R V a0 l 0)
 (fin:∀a w,CInv l V a0 (Array.replicate l.length true) a w→R (Lof (Array.replicate l.length true)) w→Q .normal (putAll a0 a (l.filterMap (·.dst))) w):
 (Code.region id l.toArray true).wp P Q a0 w0:=by
 refine wp_region_any hm ?_
 refine wpAny_c Q hB hng hg (fun a w inv hR=>by have:=fin a w inv hR;rw[←Par.Inv.act inv] at this;exact this) _ _ _ _ (by simp) (by simp) ⟨rfl,rfl,trivial,?_,fun _ _=>rfl⟩ ?_
 · intro j o d hj hl
   simp[Array.getElem?_replicate] at hl
   split at hl<;>simp_all
 · have:Lof (Array.replicate l.length false)=fun _=>false:=by
    funext k;unfold Lof
    simp[Array.getElem?_replicate]
    split<;>simp
   rw[List.size_toArray,this];exact h0
end
def VC (L:List (Value→Prop)) (i:Nat):Value→Prop:=L.getD i fun _=>True
def EQ (e:Value):Value→Prop:=fun v=>v=e
end Go.ParC
namespace Go.Proofs.YtcfgafododiioaaGreatDoor
open Go Go.RowKit Go.Tum Go.ChangeMaps
open Go.ParB (upd Lof)
theorem upd_ne {L:Nat→Bool} {i j:Nat} (h:j≠i):upd L i j=L j:=by unfold upd;rw[if_neg h]
theorem upd_eq {L:Nat→Bool} {i:Nat}:upd L i i=true:=by unfold upd;rw[if_pos rfl]
theorem upd_mono {L:Nat→Bool} {i j:Nat} (h:L j=true):upd L i j=true:=by unfold upd;split<;>simp_all
structure SwA (w0:World) (g b n cap i j:Nat) (row:List UInt64) (xi xj:UInt64) (L:Nat→Bool) (w:World):Prop where
 fr:Fr [g] w0 w
 o1:L 25=true→L 16=true∧L 23=true
 o2:L 27=true→L 25=true
 s0:L 25=false→OwV vU w b 36 (.slice (some ⟨g,0,none⟩) n cap) row
 s1:L 25=true→L 27=false→OwV vU w b 36 (.slice (some ⟨g,0,none⟩) n cap) (row.set i xj)
 s2:L 27=true→OwV vU w b 36 (.slice (some ⟨g,0,none⟩) n cap) ((row.set i xj).set j xi)
section
variable {w0 w : World} {g b n cap i j : Nat} {row : List UInt64} {xi xj : UInt64} {L : Nat → Bool}
theorem SwA.other (h:SwA w0 g b n cap i j row xi xj L w) {o:Nat} (ho:25≠o∧27≠o):SwA w0 g b n cap i j row xi xj (upd L o) w:=
 ⟨h.fr,fun e=>by rw[upd_ne ho.1] at e;exact⟨upd_mono (h.o1 e).1,upd_mono (h.o1 e).2⟩,fun e=>by rw[upd_ne ho.2] at e;rw[upd_ne ho.1];exact h.o2 e,
  fun e=>by rw[upd_ne ho.1] at e;exact h.s0 e,fun e k=>by rw[upd_ne ho.1] at e;rw[upd_ne ho.2] at k;exact h.s1 e k,fun e=>by rw[upd_ne ho.2] at e;exact h.s2 e⟩
theorem SwA.start (h:OwV vU w0 b 36 (.slice (some ⟨g,0,none⟩) n cap) row):SwA w0 g b n cap i j row xi xj (fun _=>false) {w0 with drawn:=w0.drawn+1}:=
 ⟨Ext.fr (Ext.draw w0),fun e=>by simp at e,fun e=>by simp at e,fun _=>h.ext (Ext.draw w0),fun e=>by simp at e,fun e=>by simp at e⟩
theorem SwA.old (h:SwA w0 g b n cap i j row xi xj L w) (e:L 16=false∨L 23=false):OwV vU w b 36 (.slice (some ⟨g,0,none⟩) n cap) row:=by
 refine h.s0 (Bool.eq_false_iff.2 fun k=> ?_)
 obtain⟨a,c⟩:=h.o1 k
 rcases e with e|e
 · rw[a] at e;cases e
 · rw[c] at e;cases e
theorem SwA.one (h:SwA w0 g b n cap i j row xi xj L w) (e:L 25=false) (d:L 16=true∧L 23=true):SwA w0 g b n cap i j row xi xj (upd L 25) (w.setCell ⟨g,i,none⟩ (vU xj)):=by
 have h27:L 27=false:=Bool.eq_false_iff.2 fun k=>by rw[h.o2 k] at e;cases e
 refine⟨h.fr.trans (fr_setCell _ _ _ (by simp)),fun _=>⟨upd_mono d.1,upd_mono d.2⟩,fun _=>upd_eq,fun k=>(by rw[upd_eq] at k;cases k),fun _ _=>(h.s0 e).set i xj,fun k=> ?_⟩
 rw[upd_ne (by decide),h27] at k;cases k
theorem SwA.two (h:SwA w0 g b n cap i j row xi xj L w) (e:L 27=false) (d:L 25=true):SwA w0 g b n cap i j row xi xj (upd L 27) (w.setCell ⟨g,j,none⟩ (vU xi)):=by
 refine⟨h.fr.trans (fr_setCell _ _ _ (by simp)),fun _=>⟨upd_mono (h.o1 d).1,upd_mono (h.o1 d).2⟩,fun _=>by rw[upd_ne (by decide)];exact d,fun k=> ?_,fun _ k=>(by rw[upd_eq] at k;cases k),fun _=>(h.s1 d e).set j xi⟩
 rw[upd_ne (by decide),d] at k;cases k
end
structure SwB (w0:World) (mp:Nat) (O1 O2:Obj) (L:Nat→Bool) (w:World):Prop where
 fr:Fr [mp] w0 w
 lt:mp<w0.heap.size
 o1:L 26=true→L 24=true
 o2:L 27=true→L 26=true
 o3:L 29=true→L 27=true
 s0:L 26=false→w.heap[mp]? =w0.heap[mp]?
 s1:L 26=true→L 29=false→w.heap[mp]? =some O1
 s2:L 29=true→w.heap[mp]? =some O2
section
variable {w0 w : World} {mp : Nat} {O1 O2 : Obj} {L : Nat → Bool}
theorem SwB.other (h:SwB w0 mp O1 O2 L w) {o:Nat} (ho:26≠o∧27≠o∧29≠o):SwB w0 mp O1 O2 (upd L o) w:=
 ⟨h.fr,h.lt,fun e=>by rw[upd_ne ho.1] at e;exact upd_mono (h.o1 e),fun e=>by rw[upd_ne ho.2.1] at e;rw[upd_ne ho.1];exact h.o2 e,fun e=>by rw[upd_ne ho.2.2] at e;rw[upd_ne ho.2.1];exact h.o3 e,
  fun e=>by rw[upd_ne ho.1] at e;exact h.s0 e,fun e k=>by rw[upd_ne ho.1] at e;rw[upd_ne ho.2.2] at k;exact h.s1 e k,fun e=>by rw[upd_ne ho.2.2] at e;exact h.s2 e⟩
theorem SwB.start (h:mp<w0.heap.size):SwB w0 mp O1 O2 (fun _=>false) {w0 with drawn:=w0.drawn+1}:=
 ⟨Ext.fr (Ext.draw w0),h,fun e=>by simp at e,fun e=>by simp at e,fun e=>by simp at e,fun _=>rfl,fun e=>by simp at e,fun e=>by simp at e⟩
theorem fr_block {S:List Nat} {w:World} {b:Nat} {O:Obj} (hb:b∈S):Fr S w (setBlock w b O):=by
 refine⟨rfl,rfl,rfl,by simp[setBlock],fun j hj hn=> ?_⟩
 have:b≠j:=fun e=>hn (by rw[←e];exact hb)
 simp[setBlock,Array.getElem?_setIfInBounds_ne this]
theorem set_block {w:World} {b:Nat} {O:Obj} (hb:b<w.heap.size):(setBlock w b O).heap[b]? =some O:=by simp[setBlock,hb]
theorem SwB.one (h:SwB w0 mp O1 O2 L w) (e:L 26=false) (d:L 24=true):SwB w0 mp O1 O2 (upd L 26) (setBlock w mp O1):=by
 have h27:L 27=false:=Bool.eq_false_iff.2 fun k=>by rw[h.o2 k] at e;cases e
 have h29:L 29=false:=Bool.eq_false_iff.2 fun k=>by rw[h.o3 k] at h27;cases h27
 refine⟨h.fr.trans (fr_block (by simp)),h.lt,fun _=>upd_mono d,fun _=>upd_eq,fun k=>upd_mono (h.o3 (by rwa[upd_ne (by decide)] at k)),fun k=>(by rw[upd_eq] at k;cases k),fun _ _=>set_block (Nat.lt_of_lt_of_le h.lt h.fr.size),fun k=> ?_⟩
 rw[upd_ne (by decide),h29] at k;cases k
theorem SwB.mid (h:SwB w0 mp O1 O2 L w) (d:L 26=true):SwB w0 mp O1 O2 (upd L 27) w:=
 ⟨h.fr,h.lt,fun e=>by rw[upd_ne (by decide)] at e;exact upd_mono (h.o1 e),fun _=>upd_mono d,fun _=>upd_eq,
  fun e=>by rw[upd_ne (by decide)] at e;exact h.s0 e,fun e k=>by rw[upd_ne (by decide)] at e k;exact h.s1 e k,fun e=>by rw[upd_ne (by decide)] at e;exact h.s2 e⟩
theorem SwB.two (h:SwB w0 mp O1 O2 L w) (d:L 27=true):SwB w0 mp O1 O2 (upd L 29) (setBlock w mp O2):=by
 refine⟨h.fr.trans (fr_block (by simp)),h.lt,fun e=>by rw[upd_ne (by decide)] at e;exact upd_mono (h.o1 e),fun e=>by rw[upd_ne (by decide)] at e;exact upd_mono (h.o2 e),fun _=>upd_mono d,fun k=> ?_,fun _ k=>(by rw[upd_eq] at k;cases k),fun _=>set_block (Nat.lt_of_lt_of_le h.lt h.fr.size)⟩
 rw[upd_ne (by decide),h.o2 d] at k;cases k
end
end Go.Proofs.YtcfgafododiioaaGreatDoor
