/- For every input the law SnapTells returns true and leaves what was there as it was;and its card.
The end of a frame for a law,whatever its parameters:what was there before the call is as it was,so every argument reads as it did;the law's one result is a bool.
The document's Load:its mathematics.
The document's Load:what its walk wants.
The document's records:Right.
The document's Load.
SnapTells. -/
import Derived.Below
import Derived.ChangeSame
import Derived.ReadAgain
import Derived.RowKit
import Derived.OpenShut
import Derived.Test.YtpbmbjdiilnaeaaDoorSnpME
import Derived.Test.YtpbmbjdiilnaeaaDoorSnpD
import Derived.Test.YtpbmbjdiilnaeaaDoorSnpMF
import Derived.Test.YtpbmbjdiilnaeaaDoorCards
import Derived.Test.YtpbmbjdiilnaeaaDoorTie
import Derived.WalkKit
import Derived.ProofKit
import Derived.Deep.DeepHandedRow
import Derived.SizedLaws
import Derived.Lib.LaidTab
import Derived.Lib.SmallJoins
namespace Go.Tum
open Go Go.RowKit Go.WideShapes Go.ChangeShapes

theorem sameAt_of_below {w w':World} (h:Below w.heap.size w w') (p:MemPlace) (hp:p.block<w.heap.size):w.sameAt w' p:=by
  have:=h.block p.block hp
  cases p<;>simp only[World.sameAt,MemPlace.block] at* <;>(try simp[World.cell?,this])<;>(try rw[this])

theorem trodAll_carry {H:Type} {enc:TypeId×Value→H} {P:Program} {w w':World} {base:Nat} {spare:Nat→Bool} {held:Bool} (hb:Below w.heap.size w w'):
    ∀{ts:List TypeId} {vs:List Value} {ds:List (DataW H)} {ps:List MemPlace},DataW.TrodAll enc P w base spare held ts vs ds ps→DataW.TrodAll enc P w' base spare held ts vs ds ps
  |[],[],[],_,h=>h
  |_::_,_::_,_::_,_,⟨p,q,⟨n,h1⟩,h2,e⟩=>
    ⟨p,q,⟨n,DataW.trod_carry n _ _ _ h1 (fun x hx=>sameAt_of_below hb x (DataW.trod_lt n _ _ _ h1 x hx))⟩,trodAll_carry hb h2,e⟩

theorem law_post {H:Type} {enc:TypeId×Value→H} {P:Program} {f:Func} {s:ChangeSpec} {x y z again:Bool} {W W':World} {args:Array Value} {ds gs:List (DataW H)} {before:List MemPlace}
    (hl:laidOutB P=true) (hm:mapsRowed P=true) (hs:((List.range P.types.size).all fun t=>match P.underlying t with|some (.slice e)=>decide (0<P.cellsOf e)|_=>true)=true)
    (hps:∀t∈f.params.toList,t<P.types.size) {tb:TypeId} (hr:f.resultTypes= #[tb]) (hb:P.underlying tb=some .bool)
    (hW:DataW.Whole enc P f.params.toList s.vars x W args.toList ds gs before) (hv:s.vars=[])
    (hsp:s.fn H (ds++gs)={results:=[.lit (.bool true)],args:=ds}) (hbel:Below W.heap.size W W'):
    s.post enc P f x y z again W args (.bool true) W':=by
  have hlt:∀p∈before,p.block<W.heap.size:=fun p hp=>hW.lt p hp
  obtain⟨p,q,hA,hV,hpq,hz,hn⟩:=id hW
  rw[hv] at hV
  obtain⟨rfl,rfl⟩:=trodVars_none hV
  have hp':before=p:=by simpa using hpq
  subst hp'
  have hA':∀sp:Nat→Bool,(∀p∈before,sp p.block=true)→DataW.TrodAll enc P W' 0 sp true f.params.toList args.toList ds before:=fun sp h=>
    (trodAll_carry hbel hA).respare (kids_rows hl hm) (slices_full_of P hs) hps h
  have hres:∀(b:Nat) (sp:Nat→Bool) (hd:Bool),DataW.TrodAll enc P W' b sp hd f.resultTypes.toList ((Value.bool true).resultList f.resultTypes.size) [.lit (.bool true)] []:=by
    intro b sp hd
    rw[hr]
    exact trodAll_cons_mk (shut_bool hb _) trodAll_mk0
  have hold:∀p∈before,(fun b=>decide (b<W.heap.size)) p.block=true:=fun p hp=>by simpa using hlt p hp
  have hvars:∀sp:Nat→Bool,DataW.TrodVars enc P W' sp s.vars [] []:=by intro sp;rw[hv];rfl
  refine⟨ds,[],before,[],before,[],hW,by rw[hsp];exact hres _ _ _,by rw[hsp];exact hA' _ hold,by rw[hsp];exact hvars _,World.keptBut_mono (fun p hp=>⟨hp,Or.inr (by simpa using hp)⟩) (hbel.frame (· ∈before)),fun _=> ?_⟩
  refine⟨ok_one hr rfl (okWide_bool_mk hb _),_,_,([]++before)++[],⟨[]++before,[],trodAll_append (hA' _ (fun _ _=>rfl)) (hres _ _ _),hvars _,rfl,?_,?_⟩,?_⟩
  · intro b off hp
    have hin:MemPlace.cell b off∈before:=by simpa using hp
    rw[hbel.frozen (hlt _ hin)]
    exact hz b off hin
  · intro ha
    simpa using hn ha
  · intro p hp _
    simpa using hp
end Go.Tum

set_option linter.unusedSimpArgs false
set_option linter.unusedVariables false
set_option maxRecDepth 100000
namespace Go.Proofs.YtpbmbjdiilnaeaaDoor
open Go Go.RowKit Go.Tum Go.ChangeMaps Go.Sort Go.Tum.Vint Go.Tum.Crc

/-- May a record stand behind one of kind p,in a snapshot's middle? -/
def okP (p:Int) (r:Rc):Prop:=14≤r.kind∧r.kind≤16∧p≤r.kind∧(r.kind=14→okIt (liveOf r)=true)
def chainP:Int→List Rc→Prop
  |_,[]=>True
  |p,r::l=>okP p r∧chainP r.kind l
def fK (k:Int) (l:List Rc):List Rc:=l.filter fun r=>r.kind==k
theorem fK_mem {k:Int} {l:List Rc} {r:Rc} (h:r∈fK k l):r.kind=k∧r∈l:=by
  unfold fK at h
  rw[List.mem_filter] at h
  exact⟨by simpa using h.2,h.1⟩
theorem fK_none {k:Int} {l:List Rc} (h:∀r∈l,r.kind≠k):fK k l=[]:=by
  unfold fK
  rw[List.filter_eq_nil_iff]
  intro r hr
  simpa using h r hr
theorem fK_all {k:Int} {l:List Rc} (h:∀r∈l,r.kind=k):fK k l=l:=by
  unfold fK
  rw[List.filter_eq_self]
  intro r hr
  simpa using h r hr
theorem fK_app {k:Int} (a b:List Rc):fK k (a++b)=fK k a++fK k b:=List.filter_append _ _
theorem fK_cons {k:Int} {r:Rc} {l:List Rc}:fK k (r::l)=if r.kind=k then r::fK k l else fK k l:=by
  unfold fK
  rw[List.filter_cons]
  by_cases h:r.kind=k
  · rw[if_pos h,if_pos (by simpa using h)]
  · rw[if_neg h,if_neg (by simpa using h)]
theorem chain_lo:∀(l:List Rc) (p:Int),chainP p l→∀r∈l,p≤r.kind
  |[],_,_,r,hr=>by cases hr
  |x::l,p,h,r,hr=>by
    rcases List.mem_cons.1 hr with rfl|hr
    · exact h.1.2.2.1
    · have h1:=chain_lo l x.kind h.2 r hr
      have h2:=h.1.2.2.1
      omega
theorem chain_split:∀(l:List Rc) (p:Int),chainP p l→l=fK 14 l++(fK 15 l++fK 16 l)
  |[],_,_=>rfl
  |x::l,p,h=>by
    have ih:=chain_split l x.kind h.2
    have lo:=chain_lo l x.kind h.2
    obtain⟨h1,h2,-,-⟩:=h.1
    by_cases a:x.kind=14
    · rw[fK_cons,if_pos a,fK_cons,if_neg (by omega),fK_cons,if_neg (by omega),List.cons_append,←ih]
    · have e14:fK 14 l=[]:=fK_none fun r hr=>by have:=lo r hr;omega
      rw[e14,List.nil_append] at ih
      by_cases b:x.kind=15
      · rw[fK_cons,if_neg a,e14,fK_cons,if_pos b,fK_cons,if_neg (by omega),List.nil_append,List.cons_append,←ih]
      · have c:x.kind=16:=by omega
        have e15:fK 15 l=[]:=fK_none fun r hr=>by have:=lo r hr;omega
        rw[e15,List.nil_append] at ih
        rw[fK_cons,if_neg a,e14,fK_cons,if_neg b,e15,fK_cons,if_pos c,List.nil_append,List.nil_append,←ih]
theorem chain_ok:∀(l:List Rc) (p:Int),chainP p l→∀r∈l,r.kind=14→okIt (liveOf r)=true
  |[],_,_,r,hr,_=>by cases hr
  |x::l,p,h,r,hr,hk=>by
    rcases List.mem_cons.1 hr with rfl|hr
    · exact h.1.2.2.2 hk
    · exact chain_ok l x.kind h.2 r hr hk
/-- What the document's Load asks. -/
structure RLd (l:List Rc) (b:Rc) (mid:List Rc) (e:Rc):Prop where
  eq:l=b::(mid++[e])
  all:∀r∈l,rightB r=true
  kb:b.kind=13
  ke:e.kind=17
  num:nAt e 0=UInt64.ofNat (l.length - 1)
  ch:chainP 13 mid
def snpM (b:Rc) (mid:List Rc):Snp:=snpOf b (fK 14 mid) (fK 15 mid) (fK 16 mid)
theorem RLd.load {l:List Rc} {b:Rc} {mid:List Rc} {e:Rc} (h:RLd l b mid e):loadR l=some (snpM b mid):=by
  have hs:=chain_split mid 13 h.ch
  have h5:Five l [b] (fK 14 mid) (fK 15 mid) (fK 16 mid) [e]:=by
    refine⟨?_,?_,fun r hr=>(fK_mem hr).1,fun r hr=>(fK_mem hr).1,fun r hr=>(fK_mem hr).1,?_⟩
    · rw[h.eq]
      show b::(mid++[e])=b::(fK 14 mid++(fK 15 mid++(fK 16 mid++[e])))
      rw[←List.append_assoc (fK 15 mid),←List.append_assoc (fK 14 mid),←hs]
    · intro r hr;simp at hr;subst hr;exact h.kb
    · intro r hr;simp at hr;subst hr;exact h.ke
  rw[Five.loadR h5 (List.all_eq_true.2 h.all),if_neg (by
    rintro(k|k|k)
    · exact k rfl
    · exact k rfl
    · exact k h.num)]
  have hr:rightS (snpOf b (fK 14 mid) (fK 15 mid) (fK 16 mid))=true:=by
    unfold rightS
    rw[Bool.and_eq_true,List.all_eq_true,List.all_eq_true]
    constructor
    · intro o ho
      obtain⟨r,hr,rfl⟩:=List.mem_map.1 ho
      have hm:=fK_mem hr
      exact chain_ok mid 13 h.ch r hm.2 hm.1
    · intro c hc
      obtain⟨r,hr,rfl⟩:=List.mem_map.1 hc
      have hm:=fK_mem hr
      have hb:=h.all r (by rw[h.eq];simp[hm.2])
      unfold rightB textB at hb
      rw[if_pos (.inr (.inr hm.1))] at hb
      simp only[Bool.and_eq_true,decide_eq_true_eq] at hb
      exact decide_eq_true (show(curOf r).1.length≤64 from hb.2)
  show(if rightS (snpOf b (fK 14 mid) (fK 15 mid) (fK 16 mid))=true then some (snpOf b (fK 14 mid) (fK 15 mid) (fK 16 mid)) else none)=_
  rw[if_pos hr]
  rfl
theorem chain_app:∀(a b:List Rc) (p k:Int),chainP p a→(∀r∈a,r.kind≤k)→p≤k→chainP k b→chainP p (a++b)
  |[],b,p,k,_,_,hp,hb=>by
    cases b with
    |nil=>trivial
    |cons x b=>exact⟨⟨hb.1.1,hb.1.2.1,by have:=hb.1.2.2.1;omega,hb.1.2.2.2⟩,hb.2⟩
  |x::a,b,p,k,h,hk,hp,hb=>⟨h.1,chain_app a b x.kind k h.2 (fun r hr=>hk r (by simp[hr])) (hk x (by simp)) hb⟩
theorem chain_one (k:Int) (hk:14≤k∧k≤16):∀(l:List Rc) (p:Int),p≤k→(∀r∈l,r.kind=k∧(k=14→okIt (liveOf r)=true))→chainP p l
  |[],_,_,_=>trivial
  |x::l,p,hp,h=>by
    have hx:=h x (by simp)
    refine⟨⟨by omega,by omega,by omega,fun e=>hx.2 (by omega)⟩,?_⟩
    exact chain_one k hk l x.kind (by omega) fun r hr=>h r (by simp[hr])
theorem load_RLd {l:List Rc} {u:Snp} (h:loadR l=some u):∃b mid e,RLd l b mid e:=by
  obtain⟨hr,hs⟩:=load_some h
  obtain⟨h1,h2⟩:=right_parts hr
  refine⟨baseRc u,u.items.map liveRc++(u.dead.map deadRc++u.curs.map curRc),⟨17,[UInt64.ofNat (bodyR u).length],[]⟩,?_,?_,rfl,rfl,?_,?_⟩
  · rw[←hs]
    unfold saveR bodyR
    simp
  · rw[←hs];exact save_right hr
  · rw[←hs]
    show UInt64.ofNat (bodyR u).length=_
    congr 1
    unfold saveR
    rw[List.length_append];rfl
  · refine chain_app _ _ 13 14 (chain_one 14 (by decide) _ 13 (by decide) ?_) ?_ (by decide) (chain_app _ _ 14 15 (chain_one 15 (by decide) _ 14 (by decide) ?_) ?_ (by decide) (chain_one 16 (by decide) _ 15 (by decide) ?_))
    · intro r hr
      obtain⟨o,ho,rfl⟩:=List.mem_map.1 hr
      exact⟨rfl,fun _=>by rw[live_back (h1 o ho)];exact h1 o ho⟩
    · intro r hr
      obtain⟨o,ho,rfl⟩:=List.mem_map.1 hr
      exact Int.le_refl _
    · intro r hr
      obtain⟨o,ho,rfl⟩:=List.mem_map.1 hr
      exact⟨rfl,fun h=>by cases h⟩
    · intro r hr
      obtain⟨o,ho,rfl⟩:=List.mem_map.1 hr
      exact Int.le_refl _
    · intro r hr
      obtain⟨o,ho,rfl⟩:=List.mem_map.1 hr
      exact⟨rfl,fun h=>by cases h⟩
/-- Where the document's Load finds no snapshot,ours finds none. -/
theorem no_RLd {l:List Rc} (h:∀b mid e,¬RLd l b mid e):loadR l=none:=by
  cases hq:loadR l with
  |none=>rfl
  |some u=>
    obtain⟨b,mid,e,k⟩:=load_RLd hq
    exact absurd k (h b mid e)
end Go.Proofs.YtpbmbjdiilnaeaaDoor

set_option linter.unusedSimpArgs false
set_option linter.unusedVariables false
set_option maxRecDepth 100000
namespace Go.Proofs.YtpbmbjdiilnaeaaDoor
open Go Go.RowKit Go.Tum Go.ChangeMaps Go.Sort Go.Tum.Vint Go.Tum.Crc

theorem chain_of:∀(L:List Rc) (p:Int),(∀j (h:j<L.length),okP ((p::L.map (·.kind)).getD j 0) L[j])→chainP p L
  |[],_,_=>trivial
  |x::L,p,h=>⟨h 0 (by simp),chain_of L x.kind fun j hj=>h (j+1) (by simp;omega)⟩
theorem chain_pos:∀(L:List Rc) (p:Int),chainP p L→∀j (h:j<L.length),okP ((p::L.map (·.kind)).getD j 0) L[j]
  |[],_,_,j,h=>absurd h (by simp)
  |x::L,p,h,0,_=>h.1
  |x::L,p,h,j+1,hj=>chain_pos L x.kind h.2 j (by simpa using hj)
/-- The record at i may stand behind the one ahead of it. -/
def okI (l:List Rc) (i:Nat):Prop:=okP (l.getD (i - 1) r0).kind (l.getD i r0)
theorem getD_lt {l:List Rc} {i:Nat} (h:i<l.length):l.getD i r0=l[i]:=by
  rw[List.getD_eq_getElem?_getD,List.getElem?_eq_getElem h];rfl
theorem mid_kind (b e:Rc) (mid:List Rc) (j:Nat) (hj:j<mid.length) (hb:b.kind=13):((13:Int)::mid.map (·.kind)).getD j 0=((b::(mid++[e])).getD j r0).kind:=by
  cases j with
  |zero=>simpa using hb.symm
  |succ j=>
    rw[List.getD_cons_succ,List.getD_cons_succ,List.getD_eq_getElem?_getD,List.getD_eq_getElem?_getD,List.getElem?_map,List.getElem?_append_left (by omega),List.getElem?_eq_getElem (by omega)]
    rfl
theorem RLd.ok {l:List Rc} {b:Rc} {mid:List Rc} {e:Rc} (h:RLd l b mid e) (i:Nat) (h1:1≤i) (h2:i+1<l.length):okI l i:=by
  have hl:l.length=mid.length+2:=by rw[h.eq];simp
  obtain⟨j,rfl⟩:∃j,i=j+1:=⟨i - 1,by omega⟩
  have hjm:j<mid.length:=by omega
  have hp:=chain_pos mid 13 h.ch j hjm
  rw[mid_kind b e mid j hjm h.kb,←h.eq] at hp
  unfold okI
  rw[Nat.add_sub_cancel]
  have e1:l.getD (j+1) r0=mid[j]'hjm:=by
    rw[h.eq,List.getD_cons_succ,List.getD_eq_getElem?_getD,List.getElem?_append_left hjm,List.getElem?_eq_getElem hjm]
    rfl
  rw[e1]
  exact hp
theorem load_bad {l:List Rc} (h:¬(2≤l.length∧(l.getD 0 r0).kind=13∧(l.getD (l.length - 1) r0).kind=17∧nAt (l.getD (l.length - 1) r0) 0=UInt64.ofNat (l.length - 1)∧∀i,1≤i→i+1<l.length→okI l i)):loadR l=none:=no_RLd fun b mid e k=>h (by
  have hl:l.length=mid.length+2:=by rw[k.eq];simp
  have e9:l.getD (l.length - 1) r0=e:=by
    rw[hl,show mid.length+2 - 1=mid.length+1 by omega,k.eq,List.getD_cons_succ,List.getD_eq_getElem?_getD,List.getElem?_append_right (Nat.le_refl _)]
    simp
  refine⟨by omega,?_,?_,?_,fun i h1 h2=>k.ok i h1 h2⟩
  · rw[k.eq];exact k.kb
  · rw[e9];exact k.ke
  · rw[e9];exact k.num)
theorem load_good {l:List Rc} (hall:∀r∈l,rightB r=true) (h1:2≤l.length) (h2:(l.getD 0 r0).kind=13) (h3:(l.getD (l.length - 1) r0).kind=17) (h4:nAt (l.getD (l.length - 1) r0) 0=UInt64.ofNat (l.length - 1)) (h5:∀i,1≤i→i+1<l.length→okI l i):
    loadR l=some (snpM (l.getD 0 r0) ((l.drop 1).take (l.length - 2))):=by
  match l,h1 with
  |[],h1=>simp at h1
  |b::t,h1=>
    have ht:1≤t.length:=by simp at h1;omega
    obtain⟨mid,e,rfl⟩:∃mid e,t=mid++[e]:=⟨t.dropLast,t.getLast (by intro h;subst h;simp at ht),(List.dropLast_concat_getLast _).symm⟩
    have hl:(b::(mid++[e])).length=mid.length+2:=by simp
    have e9:(b::(mid++[e])).getD ((b::(mid++[e])).length - 1) r0=e:=by
      rw[hl,show mid.length+2 - 1=mid.length+1 by omega,List.getD_cons_succ,List.getD_eq_getElem?_getD,List.getElem?_append_right (Nat.le_refl _)]
      simp
    have em:((b::(mid++[e])).drop 1).take ((b::(mid++[e])).length - 2)=mid:=by
      rw[hl];simp
    rw[e9] at h3 h4
    have e0:(b::(mid++[e])).getD 0 r0=b:=rfl
    rw[e0] at h2
    rw[em,e0]
    refine RLd.load (e:=e) ⟨rfl,hall,h2,h3,h4,chain_of mid 13 fun j hj=> ?_⟩
    rw[mid_kind b e mid j hj h2]
    have:=h5 (j+1) (by omega) (by rw[hl];omega)
    unfold okI at this
    rw[Nat.add_sub_cancel] at this
    have e1:(b::(mid++[e])).getD (j+1) r0=mid[j]:=by
      rw[List.getD_cons_succ,List.getD_eq_getElem?_getD,List.getElem?_append_left (by omega),List.getElem?_eq_getElem (by omega)]
      rfl
    rw[e1] at this
    exact this
theorem okN_w (b:UInt64):okN (IntKind.i64.wrap (b.toNat:Int))=decide (b.toNat≤1000):=by
  have hb:=b.toNat_lt
  unfold okN
  rw[Bool.eq_iff_iff]
  simp only[decide_eq_true_eq]
  unfold IntKind.wrap
  simp[IntKind.bits,IntKind.signed]
  omega
theorem wrap_small (b:UInt64) (h:b.toNat≤1000):IntKind.i64.wrap (b.toNat:Int)=(b.toNat:Int):=i64v _ (by omega) (by omega)
/-- The middle up to i,by kinds. -/
def midI (l:List Rc) (i:Nat):List Rc:=(l.drop 1).take (i - 1)
theorem midI_succ {l:List Rc} {i:Nat} (h1:1≤i) (h2:i<l.length):midI l (i+1)=midI l i++[l.getD i r0]:=by
  unfold midI
  obtain⟨j,rfl⟩:∃j,i=j+1:=⟨i - 1,by omega⟩
  rw[Nat.add_sub_cancel,Nat.add_sub_cancel,List.take_succ_eq_append_getElem (by rw[List.length_drop];omega),List.getElem_drop,getD_lt h2]
  congr 2
  simp[Nat.add_comm]
theorem fK_snoc (k:Int) (l:List Rc) (r:Rc):fK k (l++[r])=if r.kind=k then fK k l++[r] else fK k l:=by
  rw[fK_app]
  by_cases h:r.kind=k
  · rw[if_pos h,show fK k [r]=[r] from fK_all (by intro x hx;rw[List.mem_singleton.1 hx];exact h)]
  · rw[if_neg h,show fK k [r]=[] from fK_none (by intro x hx;rw[List.mem_singleton.1 hx];exact h),List.append_nil]
theorem fK_len (k:Int) (l:List Rc):(fK k l).length≤l.length:=List.length_filter_le _ _
theorem midI_len (l:List Rc) (i:Nat):(midI l i).length≤l.length:=by
  unfold midI
  rw[List.length_take,List.length_drop]
  omega
end Go.Proofs.YtpbmbjdiilnaeaaDoor

set_option maxRecDepth 100000
namespace Go.Proofs.YtpbmbjdiilnaeaaDoor
open Go.RowKit Go.Tum Go.Tum.Crc Go.Tum.Vint

theorem rright5_any (r:Rc) (v:Value) (w:World) (hv:Vec uv w v r.n):
    Calls Tryd.prog 28 #[rv r v] w fun e w'=>e= .returned (.bool (rightB r))∧Ext w w':=by
  obtain⟨ao,cap,rfl,-⟩:=hv.open
  obtain⟨kind,n,text⟩:=r
  clear hv
  have hE1:=Ext.alloc w (.cells #[.int .i64 kind,.slice ao n.length cap,.string (str text)] 71)
  obtain⟨c0,c1,c2⟩:=blk3 (heap_alloc_new w (.cells #[.int .i64 kind,.slice ao n.length cap,.string (str text)] 71))
  have hsz:=str_size text
  by_cases h1:knownB kind=true
  · obtain⟨m,hm⟩:∃m,many kind=m:=⟨_,rfl⟩
    have HRM:=hid (rmany_yes h1 hm)
    have hm0:decide ((0:Int)≤(m:Int))=true:=by simp
    by_cases h2:n.length=m
    · have HR:=hid (show rightB ⟨kind,n,text⟩=textB kind text.length by simp[rightB,h1,hm,h2])
      have e2:((n.length:Int)==(m:Int))=true:=by rw[h2];simp
      clear h1 h2 hm
      go_enter Tryd.func28,Tryd.ntmps28
      go_wp2_with fail
      generalize w.alloc (.cells #[.int .i64 kind,.slice ao n.length cap,.string (str text)] 71)=W at*
      have HE:=hid hE1
      have C0:=hid c0
      have C1:=hid c1
      have C2:=hid c2
      clear hE1 c0 c1 c2
      refine Par.wp_region_par (l:=[_,_,_,_,_,_,_,_,_,_,_,_,_,_,_,_,_,_,_,_,_,_]) rfl Ext (Par.VL [Par.EQ (Value.pointer (some ⟨w.heap.size,0,none⟩)),Par.EQ (Value.int IntKind.i64 kind),Par.EQ (Value.int IntKind.i64 (m:Int)),Par.EQ (Value.bool true),Par.EQ (Value.bool true),Par.EQ (Value.pointer (some ⟨w.heap.size,1,none⟩)),Par.EQ (Value.slice ao n.length cap),Par.EQ (Value.int IntKind.i64 (n.length:Int)),Par.EQ (Value.pointer (some ⟨w.heap.size,0,none⟩)),Par.EQ (Value.int IntKind.i64 kind),Par.EQ (Value.int IntKind.i64 (m:Int)),Par.EQ (Value.bool true),Par.EQ (Value.bool true),Par.EQ (Value.bool true),Par.EQ (Value.pointer (some ⟨w.heap.size,0,none⟩)),Par.EQ (Value.int IntKind.i64 kind),Par.EQ (Value.pointer (some ⟨w.heap.size,2,none⟩)),Par.EQ (Value.string (str text)),Par.EQ (Value.int IntKind.i64 (text.length:Int)),Par.EQ (Value.bool (textB kind text.length)),Par.EQ (Value.bool (textB kind text.length)),Par.EQ (Value.bool (textB kind text.length))]) (by kernel_rfl) Ext.refl (fun _ _ _ h1 h2=>Ext.trans h1 h2) (Ext.draw _) (Par.VL_stab ?_) ?_ ?_
      · simp only[List.forall_mem_cons,List.not_mem_nil,false_implies,implies_true,and_true]
        refine⟨fun _ _ _ _ h=>h,fun _ _ _ _ h=>h,fun _ _ _ _ h=>h,fun _ _ _ _ h=>h,fun _ _ _ _ h=>h,fun _ _ _ _ h=>h,fun _ _ _ _ h=>h,fun _ _ _ _ h=>h,fun _ _ _ _ h=>h,fun _ _ _ _ h=>h,fun _ _ _ _ h=>h,fun _ _ _ _ h=>h,fun _ _ _ _ h=>h,fun _ _ _ _ h=>h,fun _ _ _ _ h=>h,fun _ _ _ _ h=>h,fun _ _ _ _ h=>h,fun _ _ _ _ h=>h,fun _ _ _ _ h=>h,fun _ _ _ _ h=>h,fun _ _ _ _ h=>h,fun _ _ _ _ h=>h⟩
      · refine⟨⟨fun _ _=>trivial,fun ρ w' hX hG hk=> ?_⟩,?_⟩
        · obtain⟨k0,-⟩:=hk
          have e0:ρ (.tmp 1)=Value.pointer (some ⟨w.heap.size,0,none⟩):=k0
          clear k0
          refine Par.val_k fun K hK=> ?_
          unfold Par.val
          (go_simp;exact hK _ _ ⟨Ext.refl _,rfl⟩)
        refine⟨⟨fun _ _=>trivial,fun ρ w' hX hG hk=> ?_⟩,?_⟩
        · obtain⟨k0,-⟩:=hk
          have e0:ρ (.tmp 3)=Value.pointer (some ⟨w.heap.size,0,none⟩):=k0
          clear k0
          refine Par.val_k fun K hK=> ?_
          unfold Par.val
          (have c:=hX.cell C0.out;go_simp;exact hK _ _ ⟨Ext.refl _,rfl⟩)
        refine⟨⟨fun _ _=>trivial,fun ρ w' hX hG hk=> ?_⟩,?_⟩
        · obtain⟨k0,k1,-⟩:=hk
          have e0:=k0
          have e1:ρ (.tmp 4)=Value.int IntKind.i64 kind:=k1
          clear k0 k1
          refine Par.val_k fun K hK=> ?_
          unfold Par.val
          refine Par.val_call Tryd.func34 (by kernel_rfl) rfl e0 ?_
          simp only[List.map_toArray,List.map_cons,List.map_nil,e1]
          refine(rmany_any kind _).mono ?_
          rintro e w2 ⟨rfl,h2⟩
          exact⟨_,rfl,hK _ _ ⟨h2,(congrArg (Value.int IntKind.i64) HRM.out)⟩⟩
        refine⟨⟨fun _ _=>trivial,fun ρ w' hX hG hk=> ?_⟩,?_⟩
        · obtain⟨k0,k1,-⟩:=hk
          have e0:ρ (.tmp 5)=Value.int IntKind.i64 (m:Int):=k0
          have e1:ρ (Operand.const (Value.int IntKind.i64 0))=(Value.int IntKind.i64 0):=k1
          clear k0 k1
          refine Par.val_k fun K hK=> ?_
          unfold Par.val
          (go_simp;exact hK _ _ ⟨Ext.refl _,rfl⟩)
        refine⟨⟨fun _ _=>trivial,fun ρ w' hX hG hk=> ?_⟩,?_⟩
        · exact Par.val_of_run rfl ⟨Ext.refl _,hk.1⟩
        refine⟨⟨fun _ _ u hu=> .inl hu,fun ρ w' hX hG hk=> ?_⟩,?_⟩
        · obtain⟨k0,-⟩:=hk
          have e0:ρ (.tmp 1)=Value.pointer (some ⟨w.heap.size,0,none⟩):=k0
          clear k0
          refine Par.val_k fun K hK=> ?_
          unfold Par.val
          (go_simp;exact hK _ _ ⟨Ext.refl _,rfl⟩)
        refine⟨⟨fun _ _ u hu=> .inl hu,fun ρ w' hX hG hk=> ?_⟩,?_⟩
        · obtain⟨k0,-⟩:=hk
          have e0:ρ (.tmp 8)=Value.pointer (some ⟨w.heap.size,1,none⟩):=k0
          clear k0
          refine Par.val_k fun K hK=> ?_
          unfold Par.val
          (have c:=hX.cell C1.out;go_simp;exact hK _ _ ⟨Ext.refl _,rfl⟩)
        refine⟨⟨fun _ _ u hu=> .inl hu,fun ρ w' hX hG hk=> ?_⟩,?_⟩
        · obtain⟨k0,-⟩:=hk
          have e0:ρ (.tmp 9)=Value.slice ao n.length cap:=k0
          clear k0
          refine Par.val_k fun K hK=> ?_
          unfold Par.val
          (go_simp;exact hK _ _ ⟨Ext.refl _,rfl⟩)
        refine⟨⟨fun _ _ u hu=> .inl hu,fun ρ w' hX hG hk=> ?_⟩,?_⟩
        · obtain⟨k0,-⟩:=hk
          have e0:ρ (.tmp 1)=Value.pointer (some ⟨w.heap.size,0,none⟩):=k0
          clear k0
          refine Par.val_k fun K hK=> ?_
          unfold Par.val
          (go_simp;exact hK _ _ ⟨Ext.refl _,rfl⟩)
        refine⟨⟨fun _ _ u hu=> .inl hu,fun ρ w' hX hG hk=> ?_⟩,?_⟩
        · obtain⟨k0,-⟩:=hk
          have e0:ρ (.tmp 11)=Value.pointer (some ⟨w.heap.size,0,none⟩):=k0
          clear k0
          refine Par.val_k fun K hK=> ?_
          unfold Par.val
          (have c:=hX.cell C0.out;go_simp;exact hK _ _ ⟨Ext.refl _,rfl⟩)
        refine⟨⟨fun _ _ u hu=> .inl hu,fun ρ w' hX hG hk=> ?_⟩,?_⟩
        · obtain⟨k0,k1,-⟩:=hk
          have e0:=k0
          have e1:ρ (.tmp 12)=Value.int IntKind.i64 kind:=k1
          clear k0 k1
          refine Par.val_k fun K hK=> ?_
          unfold Par.val
          refine Par.val_call Tryd.func34 (by kernel_rfl) rfl e0 ?_
          simp only[List.map_toArray,List.map_cons,List.map_nil,e1]
          refine(rmany_any kind _).mono ?_
          rintro e w2 ⟨rfl,h2⟩
          exact⟨_,rfl,hK _ _ ⟨h2,(congrArg (Value.int IntKind.i64) HRM.out)⟩⟩
        refine⟨⟨fun _ _ u hu=> .inl hu,fun ρ w' hX hG hk=> ?_⟩,?_⟩
        · obtain⟨k0,k1,-⟩:=hk
          have e0:ρ (.tmp 10)=Value.int IntKind.i64 (n.length:Int):=k0
          have e1:ρ (.tmp 13)=Value.int IntKind.i64 (m:Int):=k1
          clear k0 k1
          refine Par.val_k fun K hK=> ?_
          unfold Par.val
          (go_simp;exact hK _ _ ⟨Ext.refl _,rfl⟩)
        refine⟨⟨fun _ _=>trivial,fun ρ w' hX hG hk=> ?_⟩,?_⟩
        · obtain⟨k0,k1,k2,-⟩:=hk
          have e0:ρ (.tmp 7)=Value.bool true:=k0
          have e1:ρ (.tmp 14)=Value.bool true:=k1
          have e2:ρ (Operand.const (Value.bool false))=(Value.bool false):=k2
          clear k0 k1 k2
          refine Par.val_k fun K hK=> ?_
          unfold Par.val
          (go_simp;exact hK _ _ ⟨Ext.refl _,rfl⟩)
        refine⟨⟨fun _ _=>trivial,fun ρ w' hX hG hk=> ?_⟩,?_⟩
        · exact Par.val_of_run rfl ⟨Ext.refl _,hk.1⟩
        refine⟨⟨fun _ _ u hu=> .inl hu,fun ρ w' hX hG hk=> ?_⟩,?_⟩
        · obtain⟨k0,-⟩:=hk
          have e0:ρ (.tmp 1)=Value.pointer (some ⟨w.heap.size,0,none⟩):=k0
          clear k0
          refine Par.val_k fun K hK=> ?_
          unfold Par.val
          (go_simp;exact hK _ _ ⟨Ext.refl _,rfl⟩)
        refine⟨⟨fun _ _ u hu=> .inl hu,fun ρ w' hX hG hk=> ?_⟩,?_⟩
        · obtain⟨k0,-⟩:=hk
          have e0:ρ (.tmp 17)=Value.pointer (some ⟨w.heap.size,0,none⟩):=k0
          clear k0
          refine Par.val_k fun K hK=> ?_
          unfold Par.val
          (have c:=hX.cell C0.out;go_simp;exact hK _ _ ⟨Ext.refl _,rfl⟩)
        refine⟨⟨fun _ _ u hu=> .inl hu,fun ρ w' hX hG hk=> ?_⟩,?_⟩
        · obtain⟨k0,-⟩:=hk
          have e0:ρ (.tmp 1)=Value.pointer (some ⟨w.heap.size,0,none⟩):=k0
          clear k0
          refine Par.val_k fun K hK=> ?_
          unfold Par.val
          (go_simp;exact hK _ _ ⟨Ext.refl _,rfl⟩)
        refine⟨⟨fun _ _ u hu=> .inl hu,fun ρ w' hX hG hk=> ?_⟩,?_⟩
        · obtain⟨k0,-⟩:=hk
          have e0:ρ (.tmp 19)=Value.pointer (some ⟨w.heap.size,2,none⟩):=k0
          clear k0
          refine Par.val_k fun K hK=> ?_
          unfold Par.val
          (have c:=hX.cell C2.out;go_simp;exact hK _ _ ⟨Ext.refl _,rfl⟩)
        refine⟨⟨fun _ _ u hu=> .inl hu,fun ρ w' hX hG hk=> ?_⟩,?_⟩
        · obtain⟨k0,-⟩:=hk
          have e0:ρ (.tmp 20)=Value.string (str text):=k0
          clear k0
          refine Par.val_k fun K hK=> ?_
          unfold Par.val
          (go_simp;exact hK _ _ ⟨Ext.refl _,rfl⟩)
        refine⟨⟨fun _ _ u hu=> .inl hu,fun ρ w' hX hG hk=> ?_⟩,?_⟩
        · obtain⟨k0,k1,k2,-⟩:=hk
          have e0:=k0
          have e1:ρ (.tmp 18)=Value.int IntKind.i64 kind:=k1
          have e2:ρ (.tmp 21)=Value.int IntKind.i64 (text.length:Int):=k2
          clear k0 k1 k2
          refine Par.val_k fun K hK=> ?_
          unfold Par.val
          refine Par.val_call Tryd.func35 (by kernel_rfl) rfl e0 ?_
          simp only[List.map_toArray,List.map_cons,List.map_nil,e1,e2]
          refine(rtexts_any kind text.length _).mono ?_
          rintro e w2 ⟨rfl,rfl⟩
          exact⟨_,rfl,hK _ _ ⟨Ext.refl _,(rfl)⟩⟩
        refine⟨⟨fun _ _=>trivial,fun ρ w' hX hG hk=> ?_⟩,?_⟩
        · obtain⟨k0,k1,k2,-⟩:=hk
          have e0:ρ (.tmp 16)=Value.bool true:=k0
          have e1:ρ (.tmp 22)=Value.bool (textB kind text.length):=k1
          have e2:ρ (Operand.const (Value.bool false))=(Value.bool false):=k2
          clear k0 k1 k2
          refine Par.val_k fun K hK=> ?_
          unfold Par.val
          (go_simp;exact hK _ _ ⟨Ext.refl _,rfl⟩)
        refine⟨⟨fun _ _=>trivial,fun ρ w' hX hG hk=> ?_⟩,?_⟩
        · obtain⟨k0,-⟩:=hk
          have e0:ρ (.tmp 23)=Value.bool (textB kind text.length):=k0
          clear k0
          refine Par.val_k fun K hK=> ?_
          unfold Par.val
          (go_simp;exact hK _ _ ⟨Ext.refl _,rfl⟩)
        trivial
      intro a' w' inv
      have hX:=inv.ext
      have q3:a'.tmps.getD 3 undef=Value.pointer (some ⟨w.heap.size,0,none⟩):=inv.done 0 _ 3 rfl rfl rfl
      have q4:a'.tmps.getD 4 undef=Value.int IntKind.i64 kind:=inv.done 1 _ 4 rfl rfl rfl
      have q5:a'.tmps.getD 5 undef=Value.int IntKind.i64 (m:Int):=inv.done 2 _ 5 rfl rfl rfl
      have q6:a'.tmps.getD 6 undef=Value.bool true:=inv.done 3 _ 6 rfl rfl rfl
      have q7:a'.tmps.getD 7 undef=Value.bool true:=inv.done 4 _ 7 rfl rfl rfl
      have q8:a'.tmps.getD 8 undef=Value.pointer (some ⟨w.heap.size,1,none⟩):=inv.done 5 _ 8 rfl rfl rfl
      have q9:a'.tmps.getD 9 undef=Value.slice ao n.length cap:=inv.done 6 _ 9 rfl rfl rfl
      have q10:a'.tmps.getD 10 undef=Value.int IntKind.i64 (n.length:Int):=inv.done 7 _ 10 rfl rfl rfl
      have q11:a'.tmps.getD 11 undef=Value.pointer (some ⟨w.heap.size,0,none⟩):=inv.done 8 _ 11 rfl rfl rfl
      have q12:a'.tmps.getD 12 undef=Value.int IntKind.i64 kind:=inv.done 9 _ 12 rfl rfl rfl
      have q13:a'.tmps.getD 13 undef=Value.int IntKind.i64 (m:Int):=inv.done 10 _ 13 rfl rfl rfl
      have q14:a'.tmps.getD 14 undef=Value.bool true:=inv.done 11 _ 14 rfl rfl rfl
      have q15:a'.tmps.getD 15 undef=Value.bool true:=inv.done 12 _ 15 rfl rfl rfl
      have q16:a'.tmps.getD 16 undef=Value.bool true:=inv.done 13 _ 16 rfl rfl rfl
      have q17:a'.tmps.getD 17 undef=Value.pointer (some ⟨w.heap.size,0,none⟩):=inv.done 14 _ 17 rfl rfl rfl
      have q18:a'.tmps.getD 18 undef=Value.int IntKind.i64 kind:=inv.done 15 _ 18 rfl rfl rfl
      have q19:a'.tmps.getD 19 undef=Value.pointer (some ⟨w.heap.size,2,none⟩):=inv.done 16 _ 19 rfl rfl rfl
      have q20:a'.tmps.getD 20 undef=Value.string (str text):=inv.done 17 _ 20 rfl rfl rfl
      have q21:a'.tmps.getD 21 undef=Value.int IntKind.i64 (text.length:Int):=inv.done 18 _ 21 rfl rfl rfl
      have q22:a'.tmps.getD 22 undef=Value.bool (textB kind text.length):=inv.done 19 _ 22 rfl rfl rfl
      have q23:a'.tmps.getD 23 undef=Value.bool (textB kind text.length):=inv.done 20 _ 23 rfl rfl rfl
      have q2:a'.tmps.getD 2 undef=Value.bool (textB kind text.length):=inv.done 21 _ 2 rfl rfl rfl
      clear inv
      simp only[List.filterMap_cons,List.filterMap_nil,Par.putAll,Act.put,List.setIfInBounds_toArray,List.set_cons_succ,List.set_cons_zero,q3,q4,q5,q6,q7,q8,q9,q10,q11,q12,q13,q14,q15,q16,q17,q18,q19,q20,q21,q22,q23,q2]
      clear q3 q4 q5 q6 q7 q8 q9 q10 q11 q12 q13 q14 q15 q16 q17 q18 q19 q20 q21 q22 q23 q2
      clear a'
      go_wp2
      go_ret
      rw[HR.out]
      exact⟨rfl,HE.out.trans hX⟩
    · have HR:=hid (show rightB ⟨kind,n,text⟩=false by
        have h3:decide (n.length=many kind)=false:=by simp[hm,h2]
        simp only[rightB,h3,Bool.and_false,Bool.false_and])
      have e2:((n.length:Int)==(m:Int))=false:=by
        rw[beq_eq_false_iff_ne];omega
      clear h1 h2 hm
      go_enter Tryd.func28,Tryd.ntmps28
      go_wp2_with fail
      generalize w.alloc (.cells #[.int .i64 kind,.slice ao n.length cap,.string (str text)] 71)=W at*
      have HE:=hid hE1
      have C0:=hid c0
      have C1:=hid c1
      clear hE1 c0 c1 c2
      refine Par.wp_region_par (l:=[_,_,_,_,_,_,_,_,_,_,_,_,_,_,_,_,_,_,_,_,_,_]) rfl Ext (Par.VL [Par.EQ (Value.pointer (some ⟨w.heap.size,0,none⟩)),Par.EQ (Value.int IntKind.i64 kind),Par.EQ (Value.int IntKind.i64 (m:Int)),Par.EQ (Value.bool true),Par.EQ (Value.bool true),Par.EQ (Value.pointer (some ⟨w.heap.size,1,none⟩)),Par.EQ (Value.slice ao n.length cap),Par.EQ (Value.int IntKind.i64 (n.length:Int)),Par.EQ (Value.pointer (some ⟨w.heap.size,0,none⟩)),Par.EQ (Value.int IntKind.i64 kind),Par.EQ (Value.int IntKind.i64 (m:Int)),Par.EQ (Value.bool false),Par.EQ (Value.bool false),Par.EQ (Value.bool false),Par.EQ (undef),Par.EQ (undef),Par.EQ (undef),Par.EQ (undef),Par.EQ (undef),Par.EQ (undef),Par.EQ (Value.bool false),Par.EQ (Value.bool false)]) (by kernel_rfl) Ext.refl (fun _ _ _ h1 h2=>Ext.trans h1 h2) (Ext.draw _) (Par.VL_stab ?_) ?_ ?_
      · simp only[List.forall_mem_cons,List.not_mem_nil,false_implies,implies_true,and_true]
        refine⟨fun _ _ _ _ h=>h,fun _ _ _ _ h=>h,fun _ _ _ _ h=>h,fun _ _ _ _ h=>h,fun _ _ _ _ h=>h,fun _ _ _ _ h=>h,fun _ _ _ _ h=>h,fun _ _ _ _ h=>h,fun _ _ _ _ h=>h,fun _ _ _ _ h=>h,fun _ _ _ _ h=>h,fun _ _ _ _ h=>h,fun _ _ _ _ h=>h,fun _ _ _ _ h=>h,fun _ _ _ _ h=>h,fun _ _ _ _ h=>h,fun _ _ _ _ h=>h,fun _ _ _ _ h=>h,fun _ _ _ _ h=>h,fun _ _ _ _ h=>h,fun _ _ _ _ h=>h,fun _ _ _ _ h=>h⟩
      · refine⟨⟨fun _ _=>trivial,fun ρ w' hX hG hk=> ?_⟩,?_⟩
        · obtain⟨k0,-⟩:=hk
          have e0:ρ (.tmp 1)=Value.pointer (some ⟨w.heap.size,0,none⟩):=k0
          clear k0
          refine Par.val_k fun K hK=> ?_
          unfold Par.val
          (go_simp;exact hK _ _ ⟨Ext.refl _,rfl⟩)
        refine⟨⟨fun _ _=>trivial,fun ρ w' hX hG hk=> ?_⟩,?_⟩
        · obtain⟨k0,-⟩:=hk
          have e0:ρ (.tmp 3)=Value.pointer (some ⟨w.heap.size,0,none⟩):=k0
          clear k0
          refine Par.val_k fun K hK=> ?_
          unfold Par.val
          (have c:=hX.cell C0.out;go_simp;exact hK _ _ ⟨Ext.refl _,rfl⟩)
        refine⟨⟨fun _ _=>trivial,fun ρ w' hX hG hk=> ?_⟩,?_⟩
        · obtain⟨k0,k1,-⟩:=hk
          have e0:=k0
          have e1:ρ (.tmp 4)=Value.int IntKind.i64 kind:=k1
          clear k0 k1
          refine Par.val_k fun K hK=> ?_
          unfold Par.val
          refine Par.val_call Tryd.func34 (by kernel_rfl) rfl e0 ?_
          simp only[List.map_toArray,List.map_cons,List.map_nil,e1]
          refine(rmany_any kind _).mono ?_
          rintro e w2 ⟨rfl,h2⟩
          exact⟨_,rfl,hK _ _ ⟨h2,(congrArg (Value.int IntKind.i64) HRM.out)⟩⟩
        refine⟨⟨fun _ _=>trivial,fun ρ w' hX hG hk=> ?_⟩,?_⟩
        · obtain⟨k0,k1,-⟩:=hk
          have e0:ρ (.tmp 5)=Value.int IntKind.i64 (m:Int):=k0
          have e1:ρ (Operand.const (Value.int IntKind.i64 0))=(Value.int IntKind.i64 0):=k1
          clear k0 k1
          refine Par.val_k fun K hK=> ?_
          unfold Par.val
          (go_simp;exact hK _ _ ⟨Ext.refl _,rfl⟩)
        refine⟨⟨fun _ _=>trivial,fun ρ w' hX hG hk=> ?_⟩,?_⟩
        · exact Par.val_of_run rfl ⟨Ext.refl _,hk.1⟩
        refine⟨⟨fun _ _ u hu=> .inl hu,fun ρ w' hX hG hk=> ?_⟩,?_⟩
        · obtain⟨k0,-⟩:=hk
          have e0:ρ (.tmp 1)=Value.pointer (some ⟨w.heap.size,0,none⟩):=k0
          clear k0
          refine Par.val_k fun K hK=> ?_
          unfold Par.val
          (go_simp;exact hK _ _ ⟨Ext.refl _,rfl⟩)
        refine⟨⟨fun _ _ u hu=> .inl hu,fun ρ w' hX hG hk=> ?_⟩,?_⟩
        · obtain⟨k0,-⟩:=hk
          have e0:ρ (.tmp 8)=Value.pointer (some ⟨w.heap.size,1,none⟩):=k0
          clear k0
          refine Par.val_k fun K hK=> ?_
          unfold Par.val
          (have c:=hX.cell C1.out;go_simp;exact hK _ _ ⟨Ext.refl _,rfl⟩)
        refine⟨⟨fun _ _ u hu=> .inl hu,fun ρ w' hX hG hk=> ?_⟩,?_⟩
        · obtain⟨k0,-⟩:=hk
          have e0:ρ (.tmp 9)=Value.slice ao n.length cap:=k0
          clear k0
          refine Par.val_k fun K hK=> ?_
          unfold Par.val
          (go_simp;exact hK _ _ ⟨Ext.refl _,rfl⟩)
        refine⟨⟨fun _ _ u hu=> .inl hu,fun ρ w' hX hG hk=> ?_⟩,?_⟩
        · obtain⟨k0,-⟩:=hk
          have e0:ρ (.tmp 1)=Value.pointer (some ⟨w.heap.size,0,none⟩):=k0
          clear k0
          refine Par.val_k fun K hK=> ?_
          unfold Par.val
          (go_simp;exact hK _ _ ⟨Ext.refl _,rfl⟩)
        refine⟨⟨fun _ _ u hu=> .inl hu,fun ρ w' hX hG hk=> ?_⟩,?_⟩
        · obtain⟨k0,-⟩:=hk
          have e0:ρ (.tmp 11)=Value.pointer (some ⟨w.heap.size,0,none⟩):=k0
          clear k0
          refine Par.val_k fun K hK=> ?_
          unfold Par.val
          (have c:=hX.cell C0.out;go_simp;exact hK _ _ ⟨Ext.refl _,rfl⟩)
        refine⟨⟨fun _ _ u hu=> .inl hu,fun ρ w' hX hG hk=> ?_⟩,?_⟩
        · obtain⟨k0,k1,-⟩:=hk
          have e0:=k0
          have e1:ρ (.tmp 12)=Value.int IntKind.i64 kind:=k1
          clear k0 k1
          refine Par.val_k fun K hK=> ?_
          unfold Par.val
          refine Par.val_call Tryd.func34 (by kernel_rfl) rfl e0 ?_
          simp only[List.map_toArray,List.map_cons,List.map_nil,e1]
          refine(rmany_any kind _).mono ?_
          rintro e w2 ⟨rfl,h2⟩
          exact⟨_,rfl,hK _ _ ⟨h2,(congrArg (Value.int IntKind.i64) HRM.out)⟩⟩
        refine⟨⟨fun _ _ u hu=> .inl hu,fun ρ w' hX hG hk=> ?_⟩,?_⟩
        · obtain⟨k0,k1,-⟩:=hk
          have e0:ρ (.tmp 10)=Value.int IntKind.i64 (n.length:Int):=k0
          have e1:ρ (.tmp 13)=Value.int IntKind.i64 (m:Int):=k1
          clear k0 k1
          refine Par.val_k fun K hK=> ?_
          unfold Par.val
          (go_simp;exact hK _ _ ⟨Ext.refl _,rfl⟩)
        refine⟨⟨fun _ _=>trivial,fun ρ w' hX hG hk=> ?_⟩,?_⟩
        · obtain⟨k0,k1,k2,-⟩:=hk
          have e0:ρ (.tmp 7)=Value.bool true:=k0
          have e1:ρ (.tmp 14)=Value.bool false:=k1
          have e2:ρ (Operand.const (Value.bool false))=(Value.bool false):=k2
          clear k0 k1 k2
          refine Par.val_k fun K hK=> ?_
          unfold Par.val
          (go_simp;exact hK _ _ ⟨Ext.refl _,rfl⟩)
        refine⟨⟨fun _ _=>trivial,fun ρ w' hX hG hk=> ?_⟩,?_⟩
        · exact Par.val_of_run rfl ⟨Ext.refl _,hk.1⟩
        refine⟨⟨fun _ _ u hu=> .inr rfl,fun ρ w' hX hG hk=> ?_⟩,?_⟩
        · cases hG
        refine⟨⟨fun _ _ u hu=> .inr rfl,fun ρ w' hX hG hk=> ?_⟩,?_⟩
        · cases hG
        refine⟨⟨fun _ _ u hu=> .inr rfl,fun ρ w' hX hG hk=> ?_⟩,?_⟩
        · cases hG
        refine⟨⟨fun _ _ u hu=> .inr rfl,fun ρ w' hX hG hk=> ?_⟩,?_⟩
        · cases hG
        refine⟨⟨fun _ _ u hu=> .inr rfl,fun ρ w' hX hG hk=> ?_⟩,?_⟩
        · cases hG
        refine⟨⟨fun _ _ u hu=> .inr rfl,fun ρ w' hX hG hk=> ?_⟩,?_⟩
        · cases hG
        refine⟨⟨fun _ _=>trivial,fun ρ w' hX hG hk=> ?_⟩,?_⟩
        · obtain⟨k0,k1,k2,-⟩:=hk
          have e0:ρ (.tmp 16)=Value.bool false:=k0
          have e1:ρ (.tmp 22)=undef:=k1
          have e2:ρ (Operand.const (Value.bool false))=(Value.bool false):=k2
          clear k0 k1 k2
          refine Par.val_k fun K hK=> ?_
          unfold Par.val
          (go_simp;exact hK _ _ ⟨Ext.refl _,rfl⟩)
        refine⟨⟨fun _ _=>trivial,fun ρ w' hX hG hk=> ?_⟩,?_⟩
        · obtain⟨k0,-⟩:=hk
          have e0:ρ (.tmp 23)=Value.bool false:=k0
          clear k0
          refine Par.val_k fun K hK=> ?_
          unfold Par.val
          (go_simp;exact hK _ _ ⟨Ext.refl _,rfl⟩)
        trivial
      intro a' w' inv
      have hX:=inv.ext
      have q3:a'.tmps.getD 3 undef=Value.pointer (some ⟨w.heap.size,0,none⟩):=inv.done 0 _ 3 rfl rfl rfl
      have q4:a'.tmps.getD 4 undef=Value.int IntKind.i64 kind:=inv.done 1 _ 4 rfl rfl rfl
      have q5:a'.tmps.getD 5 undef=Value.int IntKind.i64 (m:Int):=inv.done 2 _ 5 rfl rfl rfl
      have q6:a'.tmps.getD 6 undef=Value.bool true:=inv.done 3 _ 6 rfl rfl rfl
      have q7:a'.tmps.getD 7 undef=Value.bool true:=inv.done 4 _ 7 rfl rfl rfl
      have q8:a'.tmps.getD 8 undef=Value.pointer (some ⟨w.heap.size,1,none⟩):=inv.done 5 _ 8 rfl rfl rfl
      have q9:a'.tmps.getD 9 undef=Value.slice ao n.length cap:=inv.done 6 _ 9 rfl rfl rfl
      have q10:a'.tmps.getD 10 undef=Value.int IntKind.i64 (n.length:Int):=inv.done 7 _ 10 rfl rfl rfl
      have q11:a'.tmps.getD 11 undef=Value.pointer (some ⟨w.heap.size,0,none⟩):=inv.done 8 _ 11 rfl rfl rfl
      have q12:a'.tmps.getD 12 undef=Value.int IntKind.i64 kind:=inv.done 9 _ 12 rfl rfl rfl
      have q13:a'.tmps.getD 13 undef=Value.int IntKind.i64 (m:Int):=inv.done 10 _ 13 rfl rfl rfl
      have q14:a'.tmps.getD 14 undef=Value.bool false:=inv.done 11 _ 14 rfl rfl rfl
      have q15:a'.tmps.getD 15 undef=Value.bool false:=inv.done 12 _ 15 rfl rfl rfl
      have q16:a'.tmps.getD 16 undef=Value.bool false:=inv.done 13 _ 16 rfl rfl rfl
      have q17:a'.tmps.getD 17 undef=undef:=inv.done 14 _ 17 rfl rfl rfl
      have q18:a'.tmps.getD 18 undef=undef:=inv.done 15 _ 18 rfl rfl rfl
      have q19:a'.tmps.getD 19 undef=undef:=inv.done 16 _ 19 rfl rfl rfl
      have q20:a'.tmps.getD 20 undef=undef:=inv.done 17 _ 20 rfl rfl rfl
      have q21:a'.tmps.getD 21 undef=undef:=inv.done 18 _ 21 rfl rfl rfl
      have q22:a'.tmps.getD 22 undef=undef:=inv.done 19 _ 22 rfl rfl rfl
      have q23:a'.tmps.getD 23 undef=Value.bool false:=inv.done 20 _ 23 rfl rfl rfl
      have q2:a'.tmps.getD 2 undef=Value.bool false:=inv.done 21 _ 2 rfl rfl rfl
      clear inv
      simp only[List.filterMap_cons,List.filterMap_nil,Par.putAll,Act.put,List.setIfInBounds_toArray,List.set_cons_succ,List.set_cons_zero,q3,q4,q5,q6,q7,q8,q9,q10,q11,q12,q13,q14,q15,q16,q17,q18,q19,q20,q21,q22,q23,q2]
      clear q3 q4 q5 q6 q7 q8 q9 q10 q11 q12 q13 q14 q15 q16 q17 q18 q19 q20 q21 q22 q23 q2
      clear a'
      go_wp2
      go_ret
      rw[HR.out]
      exact⟨rfl,HE.out.trans hX⟩
  · replace h1:knownB kind=false:=by simpa using h1
    have HR:=hid (show rightB ⟨kind,n,text⟩=false by simp only[rightB,h1,Bool.false_and])
    have HRM:=hid (rmany_no h1)
    clear h1
    go_enter Tryd.func28,Tryd.ntmps28
    go_wp2_with fail
    generalize w.alloc (.cells #[.int .i64 kind,.slice ao n.length cap,.string (str text)] 71)=W at*
    have HE:=hid hE1
    have C0:=hid c0
    clear hE1 c0 c1 c2
    refine Par.wp_region_par (l:=[_,_,_,_,_,_,_,_,_,_,_,_,_,_,_,_,_,_,_,_,_,_]) rfl Ext (Par.VL [Par.EQ (Value.pointer (some ⟨w.heap.size,0,none⟩)),Par.EQ (Value.int IntKind.i64 kind),Par.EQ (Value.int IntKind.i64 (-1)),Par.EQ (Value.bool false),Par.EQ (Value.bool false),Par.EQ (undef),Par.EQ (undef),Par.EQ (undef),Par.EQ (undef),Par.EQ (undef),Par.EQ (undef),Par.EQ (undef),Par.EQ (Value.bool false),Par.EQ (Value.bool false),Par.EQ (undef),Par.EQ (undef),Par.EQ (undef),Par.EQ (undef),Par.EQ (undef),Par.EQ (undef),Par.EQ (Value.bool false),Par.EQ (Value.bool false)]) (by kernel_rfl) Ext.refl (fun _ _ _ h1 h2=>Ext.trans h1 h2) (Ext.draw _) (Par.VL_stab ?_) ?_ ?_
    · simp only[List.forall_mem_cons,List.not_mem_nil,false_implies,implies_true,and_true]
      refine⟨fun _ _ _ _ h=>h,fun _ _ _ _ h=>h,fun _ _ _ _ h=>h,fun _ _ _ _ h=>h,fun _ _ _ _ h=>h,fun _ _ _ _ h=>h,fun _ _ _ _ h=>h,fun _ _ _ _ h=>h,fun _ _ _ _ h=>h,fun _ _ _ _ h=>h,fun _ _ _ _ h=>h,fun _ _ _ _ h=>h,fun _ _ _ _ h=>h,fun _ _ _ _ h=>h,fun _ _ _ _ h=>h,fun _ _ _ _ h=>h,fun _ _ _ _ h=>h,fun _ _ _ _ h=>h,fun _ _ _ _ h=>h,fun _ _ _ _ h=>h,fun _ _ _ _ h=>h,fun _ _ _ _ h=>h⟩
    · refine⟨⟨fun _ _=>trivial,fun ρ w' hX hG hk=> ?_⟩,?_⟩
      · obtain⟨k0,-⟩:=hk
        have e0:ρ (.tmp 1)=Value.pointer (some ⟨w.heap.size,0,none⟩):=k0
        clear k0
        refine Par.val_k fun K hK=> ?_
        unfold Par.val
        (go_simp;exact hK _ _ ⟨Ext.refl _,rfl⟩)
      refine⟨⟨fun _ _=>trivial,fun ρ w' hX hG hk=> ?_⟩,?_⟩
      · obtain⟨k0,-⟩:=hk
        have e0:ρ (.tmp 3)=Value.pointer (some ⟨w.heap.size,0,none⟩):=k0
        clear k0
        refine Par.val_k fun K hK=> ?_
        unfold Par.val
        (have c:=hX.cell C0.out;go_simp;exact hK _ _ ⟨Ext.refl _,rfl⟩)
      refine⟨⟨fun _ _=>trivial,fun ρ w' hX hG hk=> ?_⟩,?_⟩
      · obtain⟨k0,k1,-⟩:=hk
        have e0:=k0
        have e1:ρ (.tmp 4)=Value.int IntKind.i64 kind:=k1
        clear k0 k1
        refine Par.val_k fun K hK=> ?_
        unfold Par.val
        refine Par.val_call Tryd.func34 (by kernel_rfl) rfl e0 ?_
        simp only[List.map_toArray,List.map_cons,List.map_nil,e1]
        refine(rmany_any kind _).mono ?_
        rintro e w2 ⟨rfl,h2⟩
        exact⟨_,rfl,hK _ _ ⟨h2,(congrArg (Value.int IntKind.i64) HRM.out)⟩⟩
      refine⟨⟨fun _ _=>trivial,fun ρ w' hX hG hk=> ?_⟩,?_⟩
      · obtain⟨k0,k1,-⟩:=hk
        have e0:ρ (.tmp 5)=Value.int IntKind.i64 (-1):=k0
        have e1:ρ (Operand.const (Value.int IntKind.i64 0))=(Value.int IntKind.i64 0):=k1
        clear k0 k1
        refine Par.val_k fun K hK=> ?_
        unfold Par.val
        (go_simp;exact hK _ _ ⟨Ext.refl _,rfl⟩)
      refine⟨⟨fun _ _=>trivial,fun ρ w' hX hG hk=> ?_⟩,?_⟩
      · exact Par.val_of_run rfl ⟨Ext.refl _,hk.1⟩
      refine⟨⟨fun _ _ u hu=> .inr rfl,fun ρ w' hX hG hk=> ?_⟩,?_⟩
      · cases hG
      refine⟨⟨fun _ _ u hu=> .inr rfl,fun ρ w' hX hG hk=> ?_⟩,?_⟩
      · cases hG
      refine⟨⟨fun _ _ u hu=> .inr rfl,fun ρ w' hX hG hk=> ?_⟩,?_⟩
      · cases hG
      refine⟨⟨fun _ _ u hu=> .inr rfl,fun ρ w' hX hG hk=> ?_⟩,?_⟩
      · cases hG
      refine⟨⟨fun _ _ u hu=> .inr rfl,fun ρ w' hX hG hk=> ?_⟩,?_⟩
      · cases hG
      refine⟨⟨fun _ _ u hu=> .inr rfl,fun ρ w' hX hG hk=> ?_⟩,?_⟩
      · cases hG
      refine⟨⟨fun _ _ u hu=> .inr rfl,fun ρ w' hX hG hk=> ?_⟩,?_⟩
      · cases hG
      refine⟨⟨fun _ _=>trivial,fun ρ w' hX hG hk=> ?_⟩,?_⟩
      · obtain⟨k0,k1,k2,-⟩:=hk
        have e0:ρ (.tmp 7)=Value.bool false:=k0
        have e1:ρ (.tmp 14)=undef:=k1
        have e2:ρ (Operand.const (Value.bool false))=(Value.bool false):=k2
        clear k0 k1 k2
        refine Par.val_k fun K hK=> ?_
        unfold Par.val
        (go_simp;exact hK _ _ ⟨Ext.refl _,rfl⟩)
      refine⟨⟨fun _ _=>trivial,fun ρ w' hX hG hk=> ?_⟩,?_⟩
      · exact Par.val_of_run rfl ⟨Ext.refl _,hk.1⟩
      refine⟨⟨fun _ _ u hu=> .inr rfl,fun ρ w' hX hG hk=> ?_⟩,?_⟩
      · cases hG
      refine⟨⟨fun _ _ u hu=> .inr rfl,fun ρ w' hX hG hk=> ?_⟩,?_⟩
      · cases hG
      refine⟨⟨fun _ _ u hu=> .inr rfl,fun ρ w' hX hG hk=> ?_⟩,?_⟩
      · cases hG
      refine⟨⟨fun _ _ u hu=> .inr rfl,fun ρ w' hX hG hk=> ?_⟩,?_⟩
      · cases hG
      refine⟨⟨fun _ _ u hu=> .inr rfl,fun ρ w' hX hG hk=> ?_⟩,?_⟩
      · cases hG
      refine⟨⟨fun _ _ u hu=> .inr rfl,fun ρ w' hX hG hk=> ?_⟩,?_⟩
      · cases hG
      refine⟨⟨fun _ _=>trivial,fun ρ w' hX hG hk=> ?_⟩,?_⟩
      · obtain⟨k0,k1,k2,-⟩:=hk
        have e0:ρ (.tmp 16)=Value.bool false:=k0
        have e1:ρ (.tmp 22)=undef:=k1
        have e2:ρ (Operand.const (Value.bool false))=(Value.bool false):=k2
        clear k0 k1 k2
        refine Par.val_k fun K hK=> ?_
        unfold Par.val
        (go_simp;exact hK _ _ ⟨Ext.refl _,rfl⟩)
      refine⟨⟨fun _ _=>trivial,fun ρ w' hX hG hk=> ?_⟩,?_⟩
      · obtain⟨k0,-⟩:=hk
        have e0:ρ (.tmp 23)=Value.bool false:=k0
        clear k0
        refine Par.val_k fun K hK=> ?_
        unfold Par.val
        (go_simp;exact hK _ _ ⟨Ext.refl _,rfl⟩)
      trivial
    intro a' w' inv
    have hX:=inv.ext
    have q3:a'.tmps.getD 3 undef=Value.pointer (some ⟨w.heap.size,0,none⟩):=inv.done 0 _ 3 rfl rfl rfl
    have q4:a'.tmps.getD 4 undef=Value.int IntKind.i64 kind:=inv.done 1 _ 4 rfl rfl rfl
    have q5:a'.tmps.getD 5 undef=Value.int IntKind.i64 (-1):=inv.done 2 _ 5 rfl rfl rfl
    have q6:a'.tmps.getD 6 undef=Value.bool false:=inv.done 3 _ 6 rfl rfl rfl
    have q7:a'.tmps.getD 7 undef=Value.bool false:=inv.done 4 _ 7 rfl rfl rfl
    have q8:a'.tmps.getD 8 undef=undef:=inv.done 5 _ 8 rfl rfl rfl
    have q9:a'.tmps.getD 9 undef=undef:=inv.done 6 _ 9 rfl rfl rfl
    have q10:a'.tmps.getD 10 undef=undef:=inv.done 7 _ 10 rfl rfl rfl
    have q11:a'.tmps.getD 11 undef=undef:=inv.done 8 _ 11 rfl rfl rfl
    have q12:a'.tmps.getD 12 undef=undef:=inv.done 9 _ 12 rfl rfl rfl
    have q13:a'.tmps.getD 13 undef=undef:=inv.done 10 _ 13 rfl rfl rfl
    have q14:a'.tmps.getD 14 undef=undef:=inv.done 11 _ 14 rfl rfl rfl
    have q15:a'.tmps.getD 15 undef=Value.bool false:=inv.done 12 _ 15 rfl rfl rfl
    have q16:a'.tmps.getD 16 undef=Value.bool false:=inv.done 13 _ 16 rfl rfl rfl
    have q17:a'.tmps.getD 17 undef=undef:=inv.done 14 _ 17 rfl rfl rfl
    have q18:a'.tmps.getD 18 undef=undef:=inv.done 15 _ 18 rfl rfl rfl
    have q19:a'.tmps.getD 19 undef=undef:=inv.done 16 _ 19 rfl rfl rfl
    have q20:a'.tmps.getD 20 undef=undef:=inv.done 17 _ 20 rfl rfl rfl
    have q21:a'.tmps.getD 21 undef=undef:=inv.done 18 _ 21 rfl rfl rfl
    have q22:a'.tmps.getD 22 undef=undef:=inv.done 19 _ 22 rfl rfl rfl
    have q23:a'.tmps.getD 23 undef=Value.bool false:=inv.done 20 _ 23 rfl rfl rfl
    have q2:a'.tmps.getD 2 undef=Value.bool false:=inv.done 21 _ 2 rfl rfl rfl
    clear inv
    simp only[List.filterMap_cons,List.filterMap_nil,Par.putAll,Act.put,List.setIfInBounds_toArray,List.set_cons_succ,List.set_cons_zero,q3,q4,q5,q6,q7,q8,q9,q10,q11,q12,q13,q14,q15,q16,q17,q18,q19,q20,q21,q22,q23,q2]
    clear q3 q4 q5 q6 q7 q8 q9 q10 q11 q12 q13 q14 q15 q16 q17 q18 q19 q20 q21 q22 q23 q2
    clear a'
    go_wp2
    go_ret
    rw[HR.out]
    exact⟨rfl,HE.out.trans hX⟩

end Go.Proofs.YtpbmbjdiilnaeaaDoor

set_option linter.unusedSimpArgs false
set_option linter.unusedVariables false
set_option maxRecDepth 100000
namespace Go.Proofs.YtpbmbjdiilnaeaaDoor
open Go Go.RowKit Go.Tum Go.ChangeMaps Go.Sort Go.Tum.Vint Go.Tum.Crc
open Go.ParB (upd Lof)
open Go.ParE (putS slotsR slots Closed)

def RdBoxQ (W:World) (d:Nat) (C Z:Array Value) (i:Nat) (σ:Nat→Value) (w':World):Prop:=match i with
  |0=>Ext W w'
  |1=>Ext W w'∧∃q,σ d=pv q∧W.heap.size≤q∧w'.heap[q]? =some (.cells Z 39 (0,0))
  |_=>Ext W w'∧∃q,σ d=pv q∧W.heap.size≤q∧w'.heap[q]? =some (.cells C 39 (0,0))
theorem RdBoxQ.ext {W:World} {d:Nat} {C Z:Array Value} {i:Nat} {σ:Nat→Value} {w':World} (h:RdBoxQ W d C Z i σ w'):Ext W w':=by
  match i,h with
  |0,h=>exact h
  |1,h=>exact h.1
  |(n+2),h=>exact h.1
theorem rld_results (tmps:Array Value) (w:World) (b:Nat) (v0 v1 v2 v3 v4 v5 v6 v7 v8 v9:Value) (E:Int) (h4:tmps.getD 2 undef= .pointer (some ⟨b,0,none⟩)) (h5:tmps.getD 3 undef= .int .i64 E) (m:w.heap[b]? =some (.cells #[v0,v1,v2,v3,v4,v5,v6,v7,v8,v9] 39 (0,0))):
    (results Tryd.f13 tmps).run Tryd.prog w= .ok (.tuple #[.agg #[v0,v1,v2,v3,v4,v5,v6,v7,v8,v9],.int .i64 E]) w:=by
  have h4':tmps[2]?.getD undef= .pointer (some ⟨b,0,none⟩):=by simpa using h4
  have h5':tmps[3]?.getD undef= .int .i64 E:=by simpa using h5
  obtain⟨⟨m0,m1,m2,m3,m4,m5,m6,m7,m8,m9⟩,-⟩:=blk10 m
  simp[results,Tryd.results13,go_sem,h4',h5',m0,m1,m2,m3,m4,m5,m6,m7,m8,m9]
theorem add_at {w:World} {g:Addr} {u:Value} (j:Nat) (h:w.cell? (g.add j)=some u) (hj:j≠0):w.cell? ⟨g.block,g.off+j,none⟩=some u:=by
  rwa[show g.add j=⟨g.block,g.off+j,none⟩ by simp[Addr.add,hj]] at h
theorem add_0 {w:World} {g:Addr} {u:Value} (h:w.cell? (g.add 0)=some u):w.cell? g=some u:=by
  rwa[show g.add 0=g by simp[Addr.add]] at h
set_option maxHeartbeats 4000000 in
theorem rload_any (v:Value) (l:List Rc) (w:World) (h:Rcs w v l) (hl:l.length≤100000):
    Calls Tryd.prog 13 #[v] w (LdP w l):=by
  have HR:=hid h
  obtain⟨m,hm,hr,hi⟩:=h
  obtain⟨ao,cap,rfl,hle,hmx,hnn,hcell⟩:=hr.open
  have HI:=hid hi
  have HC:=hid hcell
  have HNN:=hid hnn
  have hml:m.length=l.length:=by rw[←hm,List.length_map]
  have HGD:Hid (∀k (h:k<m.length),(m[k]'h).1=l.getD k r0):=hid (fun k h=>by
    have h2:k<l.length:=by rw[←hml];exact h
    rw[getD_lt h2]
    simp only[←hm,List.getElem_map])
  obtain⟨n,hn⟩:∃n,m.length=n:=⟨_,rfl⟩
  have HLN:Hid (l.length=n):=hid (by rw[←hml,hn])
  rw[←hml,hn] at hl
  rw[hn] at hle
  rw[hn]
  have HN:=hid hn
  have HM:=hid hm
  have HL:=hid hl
  clear hr hi hcell hnn hm hml hn hl
  obtain⟨W0,hW0⟩:∃W,w.alloc (.cells #[.int .u64 0,.int .u64 0,.int .u64 0,.int .u64 0,.int .u64 0,.slice none 0 0,.slice none 0 0,.slice none 0 0,.int .u64 0,.int .u64 0] 39 (0,0))=W:=⟨_,rfl⟩
  have hE0:=Ext.alloc w (.cells #[.int .u64 0,.int .u64 0,.int .u64 0,.int .u64 0,.int .u64 0,.slice none 0 0,.slice none 0 0,.slice none 0 0,.int .u64 0,.int .u64 0] 39 (0,0))
  have hb0:=heap_alloc_new w (.cells #[.int .u64 0,.int .u64 0,.int .u64 0,.int .u64 0,.int .u64 0,.slice none 0 0,.slice none 0 0,.slice none 0 0,.int .u64 0,.int .u64 0] 39 (0,0))
  rw[hW0] at hE0 hb0
  have HE0:=hid hE0
  have HB0:=hid hb0
  clear hE0 hb0
  go_enter Tryd.func13,Tryd.ntmps13
  go_wp2_with rw[hW0]
  clear hW0
  go_loopw [4] (fun iv wr=>∃k:Nat,k≤n∧iv= .int .i64 (k:Int)∧Hid (∀q∈m.take k,rightB q.1=true)∧Hid (Ext W0 wr)) (fun iv _=>n - (intOf iv).toNat)
  case atStart=>exact⟨0,Nat.zero_le _,rfl,hid (by simp),hid (Ext.refl _)⟩
  case round=>
    obtain⟨k,hk,rfl,HA,HE⟩:=hrel
    by_cases hlt:k<n
    · have hkj:decide ((k:Int)<(n:Int))=true:=by simp;omega
      have hkj2:(k:Int)<(n:Int):=by omega
      obtain⟨g,rfl⟩:=HNN.out (by omega)
      have hltL:k<m.length:=by rw[HN.out];exact hlt
      have hc:=fun j u h=>(HE0.out.trans HE.out).cell (HC.out g rfl k hltL j u h)
      have hvec:=HI.out _ (List.getElem_mem hltL)
      have HTK:Hid (m.take (k+1)=m.take k++[m[k]'hltL]):=hid (List.take_succ_eq_append_getElem hltL)
      obtain⟨o,ho⟩:∃o,m[k]'hltL=o:=⟨_,rfl⟩
      have HIN:Hid ((m[k]'hltL).1∈l):=hid (by rw[←HM.out];exact List.mem_map.2 ⟨_,List.getElem_mem hltL,rfl⟩)
      rw[ho] at hc hvec HTK HIN
      obtain⟨⟨kd,ns,tx⟩,r⟩:=o
      dsimp only at hvec
      obtain⟨ro,rc,rfl,-⟩:=hvec.open
      have HV:=hid hvec
      have k0:=cell_first (hc 0 _ rfl)
      have k1:=cell_next (hc 1 _ rfl) (by decide)
      have k2:=cell_next (hc 2 _ rfl) (by decide)
      dsimp only at k0 k1 k2
      have HLK:=hid hlt
      have hwk:IntKind.i64.wrap ((k:Int)+1)=((k+1:Nat):Int):=i64v _ (by omega) (by have:=HL.out;omega)
      have HC1:=hid (rright5_any ⟨kd,ns,tx⟩ (.slice ro ns.length rc) wr (HV.out.ext (HE0.out.trans HE.out)))
      obtain⟨R,hR⟩:∃R,rightB ⟨kd,ns,tx⟩=R:=⟨_,rfl⟩
      have HRR:=hid hR
      rw[hR] at HC1
      clear hc ho hltL hlt hvec hR
      go_wp2_with fail
      refine HC1.out.mono ?_
      rintro e w2 ⟨rfl,hx⟩
      have HX2:=hid (HE.out.trans hx)
      clear hx HC1 HE k0 k1 k2
      cases R
      case false=>
        have HR8:=hid (HX2.out.obj HB0.out)
        go_wp2_with (first|(refine wpList_store_row rfl 39 (.tmp 2) (.tmp 23) rfl w.heap.size #[.int .u64 0,.int .u64 0,.int .u64 0,.int .u64 0,.int .u64 0,.slice none 0 0,.slice none 0 0,.slice none 0 0,.int .u64 0,.int .u64 0] rfl rfl 39 _ HR8.out (by kernel_rfl) rfl (by simp[Value.oneCell']) ?_)|(refine bodyPost_ret (rld_results _ _ w.heap.size _ _ _ _ _ _ _ _ _ _ 2 rfl rfl (setRow_heap _ _ _ _ _ _ HR8.out)) rfl ?_;exact LdP.no (loadR_bad HIN.out HRR.out) ((HE0.out.trans HX2.out).below ((setRow_frS _ _ _).below (by simp) (HE0.out.trans HX2.out).size))))
      case true=>
        go_wp2
        go_roundw
        case rel=>exact⟨k+1,HLK.out,by first|rfl|go_num,hid (fun q hq=>by
          rw[HTK.out] at hq
          rcases List.mem_append.1 hq with hq|hq
          · exact HA.out q hq
          · simp at hq;subst hq;exact HRR.out),HX2⟩
        case measure=>have:=HLK.out;simp[intOf];omega
    have hkf:decide ((k:Int)<(n:Int))=false:=by simp;omega
    have hkf2:(k<n)=False:=by simp;omega
    have HAL:Hid (∀q∈m,rightB q.1=true):=hid (by have h:=HA.out;rwa[List.take_of_length_le (by rw[HN.out];omega)] at h)
    have HALL:Hid (∀r∈l,rightB r=true):=hid (by
      intro r hr
      rw[←HM.out] at hr
      obtain⟨q,hq,rfl⟩:=List.mem_map.1 hr
      exact HAL.out q hq)
    clear hlt hk HA
    by_cases h2:n<2
    · have d2:decide ((n:Int)<2)=true:=by simp;omega
      have HLT:=hid h2
      clear h2
      have HR8:=hid (HE.out.obj HB0.out)
      go_wp2_with (first|(refine wpList_store_row rfl 39 (.tmp 2) (.tmp 58) rfl w.heap.size #[.int .u64 0,.int .u64 0,.int .u64 0,.int .u64 0,.int .u64 0,.slice none 0 0,.slice none 0 0,.slice none 0 0,.int .u64 0,.int .u64 0] rfl rfl 39 _ HR8.out (by kernel_rfl) rfl (by simp[Value.oneCell']) ?_)|(refine bodyPost_ret (rld_results _ _ w.heap.size _ _ _ _ _ _ _ _ _ _ 2 rfl rfl (setRow_heap _ _ _ _ _ _ HR8.out)) rfl ?_;exact LdP.no (load_bad fun hh=>by have:=hh.1;have:=HLN.out;have:=HLT.out;omega) ((HE0.out.trans HE.out).below ((setRow_frS _ _ _).below (by simp) (HE0.out.trans HE.out).size))))
    have d2:decide ((n:Int)<2)=false:=by simp;omega
    have d2':(n<2)=False:=by simp;omega
    obtain⟨n1,hn1⟩:∃x,n=x+1:=⟨n - 1,by omega⟩
    have HN1:=hid hn1
    have hN1:IntKind.i64.wrap ((n:Int) - 1)=(n1:Int):=by rw[show(n:Int) - 1=(n1:Int) by omega];exact i64v _ (by omega) (by have:=HL.out;omega)
    have hn1n:(n1:Int)<(n:Int):=by omega
    have h0n:(0:Int)<(n:Int):=by omega
    have H2:=hid h2
    obtain⟨g,rfl⟩:=HNN.out (by omega)
    have h0L:0<m.length:=by rw[HN.out];omega
    have h1L:n1<m.length:=by rw[HN.out];omega
    have hca:=fun j u h=>(HE0.out.trans HE.out).cell (HC.out g rfl 0 h0L j u h)
    have hcb:=fun j u h=>(HE0.out.trans HE.out).cell (HC.out g rfl n1 h1L j u h)
    have hva:=HI.out _ (List.getElem_mem h0L)
    have hvb:=HI.out _ (List.getElem_mem h1L)
    have hga:=HGD.out 0 h0L
    have hgb:=HGD.out n1 h1L
    have hra:=HAL.out _ (List.getElem_mem h0L)
    have hrb:=HAL.out _ (List.getElem_mem h1L)
    obtain⟨oa,hoa⟩:∃o,m[0]'h0L=o:=⟨_,rfl⟩
    obtain⟨ob,hob⟩:∃o,m[n1]'h1L=o:=⟨_,rfl⟩
    rw[hoa] at hca hva hga hra
    rw[hob] at hcb hvb hgb hrb
    clear hoa hob h0L h1L hn1 h2
    obtain⟨⟨ka,na,ta⟩,va⟩:=oa
    obtain⟨⟨kb,nb,tb⟩,vb⟩:=ob
    dsimp only at hva hvb hga hgb hra hrb
    obtain⟨xo,xc,rfl,hxle,-,hxnn,hxc⟩:=hva.open
    obtain⟨yo,yc,rfl,hyle,-,hynn,hyc⟩:=hvb.open
    have a0:=add_0 (hca 0 _ rfl)
    have a1:=add_at 1 (hca 1 _ rfl) (by decide)
    have b0:=cell_first (hcb 0 _ rfl)
    have b1:=cell_next (hcb 1 _ rfl) (by decide)
    dsimp only at a0 a1 b0 b1
    have HGA:Hid ((l.getD 0 r0)=⟨ka,na,ta⟩):=hid hga.symm
    have HGB:Hid ((l.getD (l.length - 1) r0)=⟨kb,nb,tb⟩):=hid (by rw[HLN.out,HN1.out,Nat.add_sub_cancel];exact hgb.symm)
    have HXC:=hid (fun a ha j hj=>(HE0.out.trans HE.out).cell (hxc a ha j hj))
    have HYC:=hid (fun a ha j hj=>(HE0.out.trans HE.out).cell (hyc a ha j hj))
    clear hca hcb hva hvb hga hgb hxc hyc
    by_cases h3:ka=13
    case neg=>
      have d3:(ka !=13)=true:=by simpa using h3
      have H3:=hid h3
      clear h3
      have HR8:=hid (HE.out.obj HB0.out)
      go_wp2_with (first|(refine wpList_store_row rfl 39 (.tmp 2) (.tmp 58) rfl w.heap.size #[.int .u64 0,.int .u64 0,.int .u64 0,.int .u64 0,.int .u64 0,.slice none 0 0,.slice none 0 0,.slice none 0 0,.int .u64 0,.int .u64 0] rfl rfl 39 _ HR8.out (by kernel_rfl) rfl (by simp[Value.oneCell']) ?_)|(refine bodyPost_ret (rld_results _ _ w.heap.size _ _ _ _ _ _ _ _ _ _ 2 rfl rfl (setRow_heap _ _ _ _ _ _ HR8.out)) rfl ?_;exact LdP.no (load_bad fun hh=>H3.out (by have:=hh.2.1;rw[HGA.out] at this;exact this)) ((HE0.out.trans HE.out).below ((setRow_frS _ _ _).below (by simp) (HE0.out.trans HE.out).size))))
    subst h3
    by_cases h4:kb=17
    case neg=>
      have d4:(kb !=17)=true:=by simpa using h4
      have H4:=hid h4
      clear h4
      have HR8:=hid (HE.out.obj HB0.out)
      go_wp2_with (first|(refine wpList_store_row rfl 39 (.tmp 2) (.tmp 58) rfl w.heap.size #[.int .u64 0,.int .u64 0,.int .u64 0,.int .u64 0,.int .u64 0,.slice none 0 0,.slice none 0 0,.slice none 0 0,.int .u64 0,.int .u64 0] rfl rfl 39 _ HR8.out (by kernel_rfl) rfl (by simp[Value.oneCell']) ?_)|(refine bodyPost_ret (rld_results _ _ w.heap.size _ _ _ _ _ _ _ _ _ _ 2 rfl rfl (setRow_heap _ _ _ _ _ _ HR8.out)) rfl ?_;exact LdP.no (load_bad fun hh=>H4.out (by have:=hh.2.2.1;rw[HGB.out] at this;exact this)) ((HE0.out.trans HE.out).below ((setRow_frS _ _ _).below (by simp) (HE0.out.trans HE.out).size))))
    subst h4
    have hlb:nb.length=1:=right_len hrb
    have hla:na.length=7:=right_len hra
    obtain⟨ye,rfl⟩:=len1_ex hlb
    obtain⟨a0',a1',a2',a3',a4',a5',a6',rfl⟩:=len7_ex hla
    clear hlb hla hra hrb
    simp only[List.length_cons,List.length_nil,Nat.reduceAdd,Nat.zero_add] at hxle hyle a1 b1
    obtain⟨ng,rfl⟩:=hxnn (by omega)
    obtain⟨eg,rfl⟩:=hynn (by omega)
    have b9:=add_0 (HYC.out eg rfl 0 (by simp))
    simp only[List.getElem_cons_zero] at b9
    clear hxnn hynn
    obtain⟨K,hK⟩:∃a:UInt64,UInt64.ofNat n1=a:=⟨_,rfl⟩
    have hKn:(K.toNat:Int)=(n1:Int):=by
      rw[←hK,UInt64.toNat_ofNat',Nat.mod_eq_of_lt (by have:=HL.out;have:=HN1.out;omega)]
    have hwK:IntKind.u64.wrap (n1:Int)=(K.toNat:Int):=by rw[←hKn];exact wrapU_u K
    have HKK:=hid hK
    clear hK hKn
    by_cases h5:ye=K
    case neg=>
      have d5:((ye.toNat:Int) !=(K.toNat:Int))=true:=by
        rw[bne_iff_ne];intro e;exact h5 (UInt64.toNat_inj.1 (by omega))
      have H5:=hid h5
      clear h5
      have HR8:=hid (HE.out.obj HB0.out)
      go_wp2_with (first|(refine wpList_store_row rfl 39 (.tmp 2) (.tmp 58) rfl w.heap.size #[.int .u64 0,.int .u64 0,.int .u64 0,.int .u64 0,.int .u64 0,.slice none 0 0,.slice none 0 0,.slice none 0 0,.int .u64 0,.int .u64 0] rfl rfl 39 _ HR8.out (by kernel_rfl) rfl (by simp[Value.oneCell']) ?_)|(refine bodyPost_ret (rld_results _ _ w.heap.size _ _ _ _ _ _ _ _ _ _ 2 rfl rfl (setRow_heap _ _ _ _ _ _ HR8.out)) rfl ?_;exact LdP.no (load_bad fun hh=>H5.out (by have:=hh.2.2.2.1;rw[HGB.out,HLN.out,HN1.out,Nat.add_sub_cancel,HKK.out] at this;exact this)) ((HE0.out.trans HE.out).below ((setRow_frS _ _ _).below (by simp) (HE0.out.trans HE.out).size))))
    subst h5
    have d5:((ye.toNat:Int) !=(ye.toNat:Int))=false:=by simp
    have n0:=add_0 (HXC.out ng rfl 0 (by simp))
    have n1':=add_at 1 (HXC.out ng rfl 1 (by simp)) (by decide)
    have n2:=add_at 2 (HXC.out ng rfl 2 (by simp)) (by decide)
    have n3:=add_at 3 (HXC.out ng rfl 3 (by simp)) (by decide)
    have n4:=add_at 4 (HXC.out ng rfl 4 (by simp)) (by decide)
    have n5:=add_at 5 (HXC.out ng rfl 5 (by simp)) (by decide)
    have n6:=add_at 6 (HXC.out ng rfl 6 (by simp)) (by decide)
    simp only[List.getElem_cons_zero,List.getElem_cons_succ] at n0 n1' n2 n3 n4 n5 n6
    have HN0:=hid (And.intro n0 (And.intro n1' (And.intro n2 (And.intro n3 (And.intro n4 (And.intro n5 n6))))))
    clear n0 n1' n2 n3 n4 n5 n6
    go_wp2_with fail
    clear a0 a1 b0 b1 b9 d2 d2' d5 hkf hkf2 hwK
    refine ParE.wp_region_e (l:=[_,_,_,_,_,_,_,_,_,_,_,_,_,_,_,_,_,_,_,_,_,_,_,_,_]) rfl (Rg.Ch [23,24] [7] (RdBoxQ wr 7 (snpC ⟨a0',a1',a2',a3',a4',[],[],[],a5',a6'⟩ (.slice none 0 0) (.slice none 0 0) (.slice none 0 0)) #[.int .u64 0,.int .u64 0,.int .u64 0,.int .u64 0,.int .u64 0,.slice none 0 0,.slice none 0 0,.slice none 0 0,.int .u64 0,.int .u64 0])) (ParC.VC [ParC.EQ (Value.slice (some ng) 7 xc),ParC.EQ (Value.pointer (some ng)),ParC.EQ (uv a0'),ParC.EQ (Value.slice (some ng) 7 xc),ParC.EQ (Value.pointer (some ⟨ng.block,ng.off+1,none⟩)),ParC.EQ (uv a1'),ParC.EQ (Value.slice (some ng) 7 xc),ParC.EQ (Value.pointer (some ⟨ng.block,ng.off+2,none⟩)),ParC.EQ (uv a2'),ParC.EQ (Value.slice (some ng) 7 xc),ParC.EQ (Value.pointer (some ⟨ng.block,ng.off+3,none⟩)),ParC.EQ (uv a3'),ParC.EQ (Value.slice (some ng) 7 xc),ParC.EQ (Value.pointer (some ⟨ng.block,ng.off+4,none⟩)),ParC.EQ (uv a4'),ParC.EQ (Value.agg #[uv a0',uv a1',uv a2',uv a3',uv a4',.slice none 0 0,.slice none 0 0,.slice none 0 0]),ParC.EQ (Value.slice (some ng) 7 xc),ParC.EQ (Value.pointer (some ⟨ng.block,ng.off+5,none⟩)),ParC.EQ (uv a5'),ParC.EQ (Value.slice (some ng) 7 xc),ParC.EQ (Value.pointer (some ⟨ng.block,ng.off+6,none⟩)),ParC.EQ (uv a6'),ParC.EQ (Value.agg #[uv a0',uv a1',uv a2',uv a3',uv a4',.slice none 0 0,.slice none 0 0,.slice none 0 0,uv a5',uv a6']),(fun _=>True),fun _=>True]) (by kernel_rfl) (by kernel_rfl) (Rg.Ch.start (Ext.draw _)) ?_ ?_
    · refine⟨fun L ρ w' hR hC hL hd hk=> ?_,?_⟩
      · exact Par.val_of_run rfl ⟨hR.other (by decide),hk.1⟩
      refine⟨fun L ρ w' hR hC hL hd hk=> ?_,?_⟩
      · obtain⟨k0,k1,-⟩:=hk
        have e0:ρ (.tmp 63)=Value.slice (some ng) 7 xc:=k0
        have e1:ρ (Operand.const (Value.int IntKind.i64 0))=(Value.int IntKind.i64 0):=k1
        clear k0 k1
        refine Par.val_k fun K hK=> ?_
        unfold Par.val
        (go_simp;exact hK _ _ ⟨hR.other (by decide),rfl⟩)
      refine⟨fun L ρ w' hR hC hL hd hk=> ?_,?_⟩
      · obtain⟨k0,-⟩:=hk
        have e0:ρ (.tmp 64)=Value.pointer (some ng):=k0
        clear k0
        refine Par.val_k fun K hK=> ?_
        unfold Par.val
        (obtain⟨i,-,-,hq⟩:=hR.ex;have hx:=hq.ext;have cc:=hx.cell HN0.out.1;go_simp;exact hK _ _ ⟨hR.other (by decide),rfl⟩)
      refine⟨fun L ρ w' hR hC hL hd hk=> ?_,?_⟩
      · exact Par.val_of_run rfl ⟨hR.other (by decide),hk.1⟩
      refine⟨fun L ρ w' hR hC hL hd hk=> ?_,?_⟩
      · obtain⟨k0,k1,-⟩:=hk
        have e0:ρ (.tmp 66)=Value.slice (some ng) 7 xc:=k0
        have e1:ρ (Operand.const (Value.int IntKind.i64 1))=(Value.int IntKind.i64 1):=k1
        clear k0 k1
        refine Par.val_k fun K hK=> ?_
        unfold Par.val
        (go_simp;exact hK _ _ ⟨hR.other (by decide),rfl⟩)
      refine⟨fun L ρ w' hR hC hL hd hk=> ?_,?_⟩
      · obtain⟨k0,-⟩:=hk
        have e0:ρ (.tmp 67)=Value.pointer (some ⟨ng.block,ng.off+1,none⟩):=k0
        clear k0
        refine Par.val_k fun K hK=> ?_
        unfold Par.val
        (obtain⟨i,-,-,hq⟩:=hR.ex;have hx:=hq.ext;have cc:=hx.cell HN0.out.2.1;go_simp;exact hK _ _ ⟨hR.other (by decide),rfl⟩)
      refine⟨fun L ρ w' hR hC hL hd hk=> ?_,?_⟩
      · exact Par.val_of_run rfl ⟨hR.other (by decide),hk.1⟩
      refine⟨fun L ρ w' hR hC hL hd hk=> ?_,?_⟩
      · obtain⟨k0,k1,-⟩:=hk
        have e0:ρ (.tmp 69)=Value.slice (some ng) 7 xc:=k0
        have e1:ρ (Operand.const (Value.int IntKind.i64 2))=(Value.int IntKind.i64 2):=k1
        clear k0 k1
        refine Par.val_k fun K hK=> ?_
        unfold Par.val
        (go_simp;exact hK _ _ ⟨hR.other (by decide),rfl⟩)
      refine⟨fun L ρ w' hR hC hL hd hk=> ?_,?_⟩
      · obtain⟨k0,-⟩:=hk
        have e0:ρ (.tmp 70)=Value.pointer (some ⟨ng.block,ng.off+2,none⟩):=k0
        clear k0
        refine Par.val_k fun K hK=> ?_
        unfold Par.val
        (obtain⟨i,-,-,hq⟩:=hR.ex;have hx:=hq.ext;have cc:=hx.cell HN0.out.2.2.1;go_simp;exact hK _ _ ⟨hR.other (by decide),rfl⟩)
      refine⟨fun L ρ w' hR hC hL hd hk=> ?_,?_⟩
      · exact Par.val_of_run rfl ⟨hR.other (by decide),hk.1⟩
      refine⟨fun L ρ w' hR hC hL hd hk=> ?_,?_⟩
      · obtain⟨k0,k1,-⟩:=hk
        have e0:ρ (.tmp 72)=Value.slice (some ng) 7 xc:=k0
        have e1:ρ (Operand.const (Value.int IntKind.i64 3))=(Value.int IntKind.i64 3):=k1
        clear k0 k1
        refine Par.val_k fun K hK=> ?_
        unfold Par.val
        (go_simp;exact hK _ _ ⟨hR.other (by decide),rfl⟩)
      refine⟨fun L ρ w' hR hC hL hd hk=> ?_,?_⟩
      · obtain⟨k0,-⟩:=hk
        have e0:ρ (.tmp 73)=Value.pointer (some ⟨ng.block,ng.off+3,none⟩):=k0
        clear k0
        refine Par.val_k fun K hK=> ?_
        unfold Par.val
        (obtain⟨i,-,-,hq⟩:=hR.ex;have hx:=hq.ext;have cc:=hx.cell HN0.out.2.2.2.1;go_simp;exact hK _ _ ⟨hR.other (by decide),rfl⟩)
      refine⟨fun L ρ w' hR hC hL hd hk=> ?_,?_⟩
      · exact Par.val_of_run rfl ⟨hR.other (by decide),hk.1⟩
      refine⟨fun L ρ w' hR hC hL hd hk=> ?_,?_⟩
      · obtain⟨k0,k1,-⟩:=hk
        have e0:ρ (.tmp 75)=Value.slice (some ng) 7 xc:=k0
        have e1:ρ (Operand.const (Value.int IntKind.i64 4))=(Value.int IntKind.i64 4):=k1
        clear k0 k1
        refine Par.val_k fun K hK=> ?_
        unfold Par.val
        (go_simp;exact hK _ _ ⟨hR.other (by decide),rfl⟩)
      refine⟨fun L ρ w' hR hC hL hd hk=> ?_,?_⟩
      · obtain⟨k0,-⟩:=hk
        have e0:ρ (.tmp 76)=Value.pointer (some ⟨ng.block,ng.off+4,none⟩):=k0
        clear k0
        refine Par.val_k fun K hK=> ?_
        unfold Par.val
        (obtain⟨i,-,-,hq⟩:=hR.ex;have hx:=hq.ext;have cc:=hx.cell HN0.out.2.2.2.2.1;go_simp;exact hK _ _ ⟨hR.other (by decide),rfl⟩)
      refine⟨fun L ρ w' hR hC hL hd hk=> ?_,?_⟩
      · obtain⟨k0,k1,k2,k3,k4,-⟩:=hk
        have e0:ρ (.tmp 65)=uv a0':=k0
        have e1:ρ (.tmp 68)=uv a1':=k1
        have e2:ρ (.tmp 71)=uv a2':=k2
        have e3:ρ (.tmp 74)=uv a3':=k3
        have e4:ρ (.tmp 77)=uv a4':=k4
        clear k0 k1 k2 k3 k4
        refine Par.val_k fun K hK=> ?_
        unfold Par.val
        (go_simp;exact hK _ _ ⟨hR.other (by decide),rfl⟩)
      refine⟨fun L ρ w' hR hC hL hd hk=> ?_,?_⟩
      · exact Par.val_of_run rfl ⟨hR.other (by decide),hk.1⟩
      refine⟨fun L ρ w' hR hC hL hd hk=> ?_,?_⟩
      · obtain⟨k0,k1,-⟩:=hk
        have e0:ρ (.tmp 79)=Value.slice (some ng) 7 xc:=k0
        have e1:ρ (Operand.const (Value.int IntKind.i64 5))=(Value.int IntKind.i64 5):=k1
        clear k0 k1
        refine Par.val_k fun K hK=> ?_
        unfold Par.val
        (go_simp;exact hK _ _ ⟨hR.other (by decide),rfl⟩)
      refine⟨fun L ρ w' hR hC hL hd hk=> ?_,?_⟩
      · obtain⟨k0,-⟩:=hk
        have e0:ρ (.tmp 80)=Value.pointer (some ⟨ng.block,ng.off+5,none⟩):=k0
        clear k0
        refine Par.val_k fun K hK=> ?_
        unfold Par.val
        (obtain⟨i,-,-,hq⟩:=hR.ex;have hx:=hq.ext;have cc:=hx.cell HN0.out.2.2.2.2.2.1;go_simp;exact hK _ _ ⟨hR.other (by decide),rfl⟩)
      refine⟨fun L ρ w' hR hC hL hd hk=> ?_,?_⟩
      · exact Par.val_of_run rfl ⟨hR.other (by decide),hk.1⟩
      refine⟨fun L ρ w' hR hC hL hd hk=> ?_,?_⟩
      · obtain⟨k0,k1,-⟩:=hk
        have e0:ρ (.tmp 82)=Value.slice (some ng) 7 xc:=k0
        have e1:ρ (Operand.const (Value.int IntKind.i64 6))=(Value.int IntKind.i64 6):=k1
        clear k0 k1
        refine Par.val_k fun K hK=> ?_
        unfold Par.val
        (go_simp;exact hK _ _ ⟨hR.other (by decide),rfl⟩)
      refine⟨fun L ρ w' hR hC hL hd hk=> ?_,?_⟩
      · obtain⟨k0,-⟩:=hk
        have e0:ρ (.tmp 83)=Value.pointer (some ⟨ng.block,ng.off+6,none⟩):=k0
        clear k0
        refine Par.val_k fun K hK=> ?_
        unfold Par.val
        (obtain⟨i,-,-,hq⟩:=hR.ex;have hx:=hq.ext;have cc:=hx.cell HN0.out.2.2.2.2.2.2;go_simp;exact hK _ _ ⟨hR.other (by decide),rfl⟩)
      refine⟨fun L ρ w' hR hC hL hd hk=> ?_,?_⟩
      · obtain⟨k0,k1,k2,-⟩:=hk
        have e0:ρ (.tmp 78)=Value.agg #[uv a0',uv a1',uv a2',uv a3',uv a4',.slice none 0 0,.slice none 0 0,.slice none 0 0]:=k0
        have e1:ρ (.tmp 81)=uv a5':=k1
        have e2:ρ (.tmp 84)=uv a6':=k2
        clear k0 k1 k2
        refine Par.val_k fun K hK=> ?_
        unfold Par.val
        (go_simp;exact hK _ _ ⟨hR.other (by decide),rfl⟩)
      refine⟨fun L ρ w' hR hC hL hd hk=> ?_,?_⟩
      · obtain⟨-⟩:=hk
        skip
        refine Par.val_k fun K hK=> ?_
        unfold Par.val
        (obtain⟨hq,hs⟩:=hR.go 0 rfl hL (.inl rfl) (by decide);have hx:Ext wr w':=hq;have hbx:=heap_alloc_new w' (.cells #[.int .u64 0,.int .u64 0,.int .u64 0,.int .u64 0,.int .u64 0,.slice none 0 0,.slice none 0 0,.slice none 0 0,.int .u64 0,.int .u64 0] 39 (0,0));go_simp;exact hK _ _ ⟨hs _ _ _ ⟨hx.trans (Ext.alloc _ _),w'.heap.size,rfl,hx.size,hbx⟩,trivial⟩)
      refine⟨fun L ρ w' hR hC hL hd hk=> ?_,?_⟩
      · obtain⟨k0,k1,-⟩:=hk
        have e0:(fun _=>True) (ρ (.tmp 7)):=k0
        have e1:ρ (.tmp 85)=Value.agg #[uv a0',uv a1',uv a2',uv a3',uv a4',.slice none 0 0,.slice none 0 0,.slice none 0 0,uv a5',uv a6']:=k1
        clear k0 k1
        refine Par.val_k fun K hK=> ?_
        unfold Par.val
        (obtain⟨hq,hs⟩:=hR.go 1 rfl hL (.inr ⟨23,rfl,hC.before 23 (i:=24) rfl hd (by kernel_rfl)⟩) (by decide);obtain⟨hx,qb,h13,hqs,hqb⟩:=hq;have s13:ρ (.tmp 7)=pv qb:=h13;obtain⟨⟨z0,z1,z2,z3,z4,z5,z6,z7,z8,z9⟩,zf⟩:=blk10 hqb;have HS9:=hid (set10 hqb (uv a0') (uv a1') (uv a2') (uv a3') (uv a4') (.slice none 0 0) (.slice none 0 0) (.slice none 0 0) (uv a5') (uv a6'));have HF9:=hid (Ext.below hx ((set10_fr w' qb (uv a0') (uv a1') (uv a2') (uv a3') (uv a4') (.slice none 0 0) (.slice none 0 0) (.slice none 0 0) (uv a5') (uv a6')).below (by simp;exact hqs) hx.size));have HQS:=hid hqs;clear hqs hqb hx;go_simp;exact hK _ _ ⟨hs none _ _ ⟨HF9.out,qb,h13,HQS.out,HS9.out⟩,trivial⟩)
      trivial
    intro a' w' inv hR
    have q63:a'.tmps.getD 63 undef=Value.slice (some ng) 7 xc:=inv.done 0 _ 63 rfl rfl rfl
    have q64:a'.tmps.getD 64 undef=Value.pointer (some ng):=inv.done 1 _ 64 rfl rfl rfl
    have q65:a'.tmps.getD 65 undef=uv a0':=inv.done 2 _ 65 rfl rfl rfl
    have q66:a'.tmps.getD 66 undef=Value.slice (some ng) 7 xc:=inv.done 3 _ 66 rfl rfl rfl
    have q67:a'.tmps.getD 67 undef=Value.pointer (some ⟨ng.block,ng.off+1,none⟩):=inv.done 4 _ 67 rfl rfl rfl
    have q68:a'.tmps.getD 68 undef=uv a1':=inv.done 5 _ 68 rfl rfl rfl
    have q69:a'.tmps.getD 69 undef=Value.slice (some ng) 7 xc:=inv.done 6 _ 69 rfl rfl rfl
    have q70:a'.tmps.getD 70 undef=Value.pointer (some ⟨ng.block,ng.off+2,none⟩):=inv.done 7 _ 70 rfl rfl rfl
    have q71:a'.tmps.getD 71 undef=uv a2':=inv.done 8 _ 71 rfl rfl rfl
    have q72:a'.tmps.getD 72 undef=Value.slice (some ng) 7 xc:=inv.done 9 _ 72 rfl rfl rfl
    have q73:a'.tmps.getD 73 undef=Value.pointer (some ⟨ng.block,ng.off+3,none⟩):=inv.done 10 _ 73 rfl rfl rfl
    have q74:a'.tmps.getD 74 undef=uv a3':=inv.done 11 _ 74 rfl rfl rfl
    have q75:a'.tmps.getD 75 undef=Value.slice (some ng) 7 xc:=inv.done 12 _ 75 rfl rfl rfl
    have q76:a'.tmps.getD 76 undef=Value.pointer (some ⟨ng.block,ng.off+4,none⟩):=inv.done 13 _ 76 rfl rfl rfl
    have q77:a'.tmps.getD 77 undef=uv a4':=inv.done 14 _ 77 rfl rfl rfl
    have q78:a'.tmps.getD 78 undef=Value.agg #[uv a0',uv a1',uv a2',uv a3',uv a4',.slice none 0 0,.slice none 0 0,.slice none 0 0]:=inv.done 15 _ 78 rfl rfl rfl
    have q79:a'.tmps.getD 79 undef=Value.slice (some ng) 7 xc:=inv.done 16 _ 79 rfl rfl rfl
    have q80:a'.tmps.getD 80 undef=Value.pointer (some ⟨ng.block,ng.off+5,none⟩):=inv.done 17 _ 80 rfl rfl rfl
    have q81:a'.tmps.getD 81 undef=uv a5':=inv.done 18 _ 81 rfl rfl rfl
    have q82:a'.tmps.getD 82 undef=Value.slice (some ng) 7 xc:=inv.done 19 _ 82 rfl rfl rfl
    have q83:a'.tmps.getD 83 undef=Value.pointer (some ⟨ng.block,ng.off+6,none⟩):=inv.done 20 _ 83 rfl rfl rfl
    have q84:a'.tmps.getD 84 undef=uv a6':=inv.done 21 _ 84 rfl rfl rfl
    have q85:a'.tmps.getD 85 undef=Value.agg #[uv a0',uv a1',uv a2',uv a3',uv a4',.slice none 0 0,.slice none 0 0,.slice none 0 0,uv a5',uv a6']:=inv.done 22 _ 85 rfl rfl rfl
    have q7:(fun _=>True) (a'.tmps.getD 7 undef):=inv.done 23 _ 7 rfl rfl rfl
    clear inv
    simp only[List.filterMap_cons,List.filterMap_nil,Par.putAll,Act.put,List.setIfInBounds_toArray,List.set_cons_succ,List.set_cons_zero,q63,q64,q65,q66,q67,q68,q69,q70,q71,q72,q73,q74,q75,q76,q77,q78,q79,q80,q81,q82,q83,q84,q85]
    clear q63 q64 q65 q66 q67 q68 q69 q70 q71 q72 q73 q74 q75 q76 q77 q78 q79 q80 q81 q82 q83 q84 q85
    obtain⟨hx,qb,hq13,hqs,hqb⟩:=Rg.Ch.fin hR (by decide) 2 rfl;have HX6:=hid hx;have HQB:=hid hqb;have HQS:=hid hqs;have e13:a'.tmps.getD 7 undef=pv qb:=hq13;clear hx hqb hqs hq13 hR
    generalize a'.tmps.getD 7 undef=u7 at*
    try clear a'
    rw[e13]
    clear e13
    have HX5:=hid HE.out
    obtain⟨x5,hx5⟩:∃x,x=wr:=⟨_,rfl⟩
    rw[←hx5] at HX5 HX6 HQS
    have HLT0:Hid (w.heap.size<x5.heap.size):=hid (Nat.lt_of_lt_of_le (Array.getElem?_eq_some_iff.1 HB0.out).1 HX5.out.size)
    clear hx5 HE HXC HYC HN0
    obtain⟨x6,hx6⟩:∃x,x=w':=⟨_,rfl⟩
    rw[←hx6] at HX6 HQB⊢
    clear hx6
    go_wp2
    go_loopw [8] (fun iv wr=>∃(i:Nat) (uo:Option Addr) (un uc:Nat) (xo2:Option Addr) (xn xc2:Nat) (zo:Option Addr) (zn zc:Nat),1≤i∧i≤n1∧iv= .int .i64 (i:Int)∧Hid (∀j,1≤j→j<i→okI l j)∧Hid (un=(fK 14 (midI l i)).length)∧Hid (xn=(fK 15 (midI l i)).length)∧Hid (zn=(fK 16 (midI l i)).length)∧Hid (OwS x5 wr qb ⟨a0',a1',a2',a3',a4',(fK 14 (midI l i)).map liveOf,(fK 15 (midI l i)).map deadOf,(fK 16 (midI l i)).map curOf,a5',a6'⟩ (.slice uo un uc) (.slice xo2 xn xc2) (.slice zo zn zc))) (fun iv _=>n1 - (intOf iv).toNat)
    case atStart=>exact⟨1,none,0,0,none,0,0,none,0,0,Nat.le_refl _,by have:=HN1.out;have:=H2.out;omega,rfl,hid (fun j h1 h2=>by omega),hid (by simp[midI,fK]),hid (by simp[midI,fK]),hid (by simp[midI,fK]),hid ⟨by simpa[midI,fK,snpC] using HQB.out,World.ownsRow_nil _ _ _ _,World.ownsRow_nil _ _ _ _,World.ownsRow_nil _ _ _ _,HQS.out,HX6.out⟩⟩
    case round=>
      clear HX6 HQB
      obtain⟨i,uo,un,uc,xo2,xn,xc2,zo,zn,zc,h1i,hin,rfl,HOK,HUN,HXN,HZN,HS⟩:=hrel
      by_cases hlt:i<n1
      · have hkj:decide ((i:Int)<(n1:Int))=true:=by simp;omega
        have hkj2:(i:Int)<(n1:Int):=by omega
        have hin2:(i:Int)<(n:Int):=by have:=HN1.out;omega
        obtain⟨j,hj⟩:∃j,i=j+1:=⟨i - 1,by omega⟩
        have hwj:IntKind.i64.wrap ((i:Int) - 1)=(j:Int):=by rw[show(i:Int) - 1=(j:Int) by omega];exact i64v _ (by omega) (by have:=HL.out;have:=HN1.out;omega)
        have hjn:(j:Int)<(n:Int):=by omega
        have hwk:IntKind.i64.wrap ((i:Int)+1)=((i+1:Nat):Int):=i64v _ (by omega) (by have:=HL.out;have:=HN1.out;omega)
        have hiL:i<m.length:=by rw[HN.out];have:=HN1.out;omega
        have hjL:j<m.length:=by rw[HN.out];have:=HN1.out;omega
        have hca:=fun y u h=>(HE0.out.trans (HX5.out.trans HS.out.low)).cell (HC.out g rfl i hiL y u h)
        have hcb:=fun y u h=>(HE0.out.trans (HX5.out.trans HS.out.low)).cell (HC.out g rfl j hjL y u h)
        have hva:=(HI.out _ (List.getElem_mem hiL)).ext (HE0.out.trans (HX5.out.trans HS.out.low))
        have hga:=HGD.out i hiL
        have hgb:=HGD.out j hjL
        have hra:=HAL.out _ (List.getElem_mem hiL)
        obtain⟨oa,hoa⟩:∃o,m[i]'hiL=o:=⟨_,rfl⟩
        obtain⟨ob,hob⟩:∃o,m[j]'hjL=o:=⟨_,rfl⟩
        rw[hoa] at hca hva hga hra
        rw[hob] at hcb hgb
        clear hoa hob hiL hjL
        obtain⟨⟨kd,ns,tx⟩,va⟩:=oa
        obtain⟨⟨kp,np,tp⟩,vp⟩:=ob
        dsimp only at hva hga hgb hra
        obtain⟨ro,rc,rfl,hrle,hrmx,hrnn,hrc⟩:=hva.open
        have a0:=cell_first (hca 0 _ rfl)
        have a1:=cell_next (hca 1 _ rfl) (by decide)
        have a2:=cell_next (hca 2 _ rfl) (by decide)
        have z0:=cell_first (hcb 0 _ rfl)
        dsimp only at a0 a1 a2 z0
        have HA2:=hid a2
        have HRC:=hid hrc
        have HOI:Hid (okI l i=okP kp ⟨kd,ns,tx⟩):=hid (by unfold okI;rw[hj,Nat.add_sub_cancel,←hgb,←hj,←hga])
        have HMI:Hid (midI l (i+1)=midI l i++[⟨kd,ns,tx⟩]):=hid (by rw[midI_succ h1i (by rw[HLN.out];have:=HN1.out;omega),←hga])
        have HIX:Hid (1≤i∧i+1<l.length∧i<n1):=hid ⟨h1i,by rw[HLN.out];have:=HN1.out;omega,hlt⟩
        have HBAD:Hid (¬okP kp ⟨kd,ns,tx⟩→loadR l=none):=hid (fun hh=>load_bad fun k=>hh (by rw[←HOI.out];exact k.2.2.2.2 i HIX.out.1 HIX.out.2.1))
        have HGOOD:Hid (okP kp ⟨kd,ns,tx⟩→∀y,1≤y→y<i+1→okI l y):=hid (fun hh y h1 h2=>by
          rcases Nat.lt_or_eq_of_le (Nat.le_of_lt_succ h2) with h3|h3
          · exact HOK.out y h1 h3
          · subst h3;rw[HOI.out];exact hh)
        have HXS:=hid (HX5.out.trans HS.out.low)
        have HBN:Hid (un≤100000∧xn≤100000∧zn≤100000):=hid (by
          have h1:=fK_len 14 (midI l i)
          have h2:=fK_len 15 (midI l i)
          have h3:=fK_len 16 (midI l i)
          have h4:=midI_len l i
          have h5:=HLN.out
          have h6:=HL.out
          have h7:=HUN.out
          have h8:=HXN.out
          have h9:=HZN.out
          omega)
        clear hca hcb hva hga hgb hlt hj hrc HOK hin h1i a2
        by_cases q1:kd<14
        · have d1:decide (kd<14)=true:=by simpa using q1
          have HB:=hid (HBAD.out fun hh=>by obtain⟨h1,-⟩:=hh;dsimp only at h1;omega)
          clear q1 HBAD HGOOD
          have HR8:=hid (HXS.out.obj HB0.out)
          go_wp2_with (first|(refine wpList_store_row rfl 39 (.tmp 2) (.tmp 118) rfl w.heap.size #[.int .u64 0,.int .u64 0,.int .u64 0,.int .u64 0,.int .u64 0,.slice none 0 0,.slice none 0 0,.slice none 0 0,.int .u64 0,.int .u64 0] rfl rfl 39 _ HR8.out (by kernel_rfl) rfl (by simp[Value.oneCell']) ?_)|(refine bodyPost_ret (rld_results _ _ w.heap.size _ _ _ _ _ _ _ _ _ _ 2 rfl rfl (setRow_heap _ _ _ _ _ _ HR8.out)) rfl ?_;exact LdP.no (HB.out) ((HE0.out.trans HXS.out).below ((setRow_frS _ _ _).below (by simp) (HE0.out.trans HXS.out).size))))
        have d1:decide (kd<14)=false:=by simpa using q1
        have d1':(kd<14)=False:=by simpa using q1
        by_cases q2:16<kd
        · have d2:decide (16<kd)=true:=by simpa using q2
          have HB:=hid (HBAD.out fun hh=>by obtain⟨-,h1,-⟩:=hh;dsimp only at h1;omega)
          clear q1 q2 HBAD HGOOD
          have HR8:=hid (HXS.out.obj HB0.out)
          go_wp2_with (first|(refine wpList_store_row rfl 39 (.tmp 2) (.tmp 118) rfl w.heap.size #[.int .u64 0,.int .u64 0,.int .u64 0,.int .u64 0,.int .u64 0,.slice none 0 0,.slice none 0 0,.slice none 0 0,.int .u64 0,.int .u64 0] rfl rfl 39 _ HR8.out (by kernel_rfl) rfl (by simp[Value.oneCell']) ?_)|(refine bodyPost_ret (rld_results _ _ w.heap.size _ _ _ _ _ _ _ _ _ _ 2 rfl rfl (setRow_heap _ _ _ _ _ _ HR8.out)) rfl ?_;exact LdP.no (HB.out) ((HE0.out.trans HXS.out).below ((setRow_frS _ _ _).below (by simp) (HE0.out.trans HXS.out).size))))
        have d2:decide (16<kd)=false:=by simp;omega
        have d2':(16<kd)=False:=by simp;omega
        by_cases q3:kd<kp
        · have d3:decide (kd<kp)=true:=by simpa using q3
          have HB:=hid (HBAD.out fun hh=>by obtain⟨-,-,h1,-⟩:=hh;dsimp only at h1;omega)
          clear q1 q2 q3 HBAD HGOOD
          have HR8:=hid (HXS.out.obj HB0.out)
          go_wp2_with (first|(refine wpList_store_row rfl 39 (.tmp 2) (.tmp 118) rfl w.heap.size #[.int .u64 0,.int .u64 0,.int .u64 0,.int .u64 0,.int .u64 0,.slice none 0 0,.slice none 0 0,.slice none 0 0,.int .u64 0,.int .u64 0] rfl rfl 39 _ HR8.out (by kernel_rfl) rfl (by simp[Value.oneCell']) ?_)|(refine bodyPost_ret (rld_results _ _ w.heap.size _ _ _ _ _ _ _ _ _ _ 2 rfl rfl (setRow_heap _ _ _ _ _ _ HR8.out)) rfl ?_;exact LdP.no (HB.out) ((HE0.out.trans HXS.out).below ((setRow_frS _ _ _).below (by simp) (HE0.out.trans HXS.out).size))))
        have d3:decide (kd<kp)=false:=by simpa using q3
        have d3':(kd<kp)=False:=by simpa using q3
        rcases(show kd=14∨kd=15∨kd=16 by omega) with rfl|rfl|rfl
        · have hln:ns.length=10:=right_len hra
          obtain⟨b0,b1,b2,b3,b4,b5,b6,b7,b8,b9,rfl⟩:=len10_ex hln
          clear hln hra q1 q2
          simp only[List.length_cons,List.length_nil,Nat.reduceAdd,Nat.zero_add] at hrle a1
          obtain⟨ra,rfl⟩:=hrnn (by omega)
          clear hrnn
          have n0:=add_0 (HRC.out ra rfl 0 (by simp))
          have n1':=add_at 1 (HRC.out ra rfl 1 (by simp)) (by decide)
          have n2:=add_at 2 (HRC.out ra rfl 2 (by simp)) (by decide)
          have n3:=add_at 3 (HRC.out ra rfl 3 (by simp)) (by decide)
          have n4:=add_at 4 (HRC.out ra rfl 4 (by simp)) (by decide)
          have n5:=add_at 5 (HRC.out ra rfl 5 (by simp)) (by decide)
          have n6:=add_at 6 (HRC.out ra rfl 6 (by simp)) (by decide)
          have n7:=add_at 7 (HRC.out ra rfl 7 (by simp)) (by decide)
          have n8:=add_at 8 (HRC.out ra rfl 8 (by simp)) (by decide)
          have n9:=add_at 9 (HRC.out ra rfl 9 (by simp)) (by decide)
          simp only[List.getElem_cons_zero,List.getElem_cons_succ] at n0 n1' n2 n3 n4 n5 n6 n7 n8 n9
          have HNS:=hid (And.intro n0 (And.intro n1' (And.intro n2 (And.intro n3 (And.intro n4 (And.intro n5 (And.intro n6 (And.intro n7 (And.intro n8 n9)))))))))
          have HNOK:Hid (∀x:UInt64,¬x.toNat≤1000→(x=b1∨x=b2∨x=b3∨x=b9)→loadR l=none):=hid (fun x hx hh=>HBAD.out fun hk=>by
            have h4:=hk.2.2.2 rfl
            unfold okIt at h4
            simp only[Bool.and_eq_true] at h4
            have e1:okN (IntKind.i64.wrap (b1.toNat:Int))=true:=h4.1
            have e2:okN (IntKind.i64.wrap (b2.toNat:Int))=true:=h4.2.1
            have e3:okN (IntKind.i64.wrap (b3.toNat:Int))=true:=h4.2.2.1
            have e9:okN (IntKind.i64.wrap (b9.toNat:Int))=true:=h4.2.2.2
            rw[okN_w,decide_eq_true_eq] at e1 e2 e3 e9
            rcases hh with rfl|rfl|rfl|rfl<;>exact hx (by assumption))
          clear n0 n4 n5 n6 n7 n8
          by_cases p1:b1.toNat≤1000
          case neg=>
            have e1:decide ((1000:Int)<(b1.toNat:Int))=true:=by simp;omega
            have HB:=hid (HNOK.out _ p1 (by simp))
            clear HBAD HGOOD HNOK p1
            have HR8:=hid (HXS.out.obj HB0.out)
            go_wp2_with (first|(refine wpList_store_row rfl 39 (.tmp 2) (.tmp 143) rfl w.heap.size #[.int .u64 0,.int .u64 0,.int .u64 0,.int .u64 0,.int .u64 0,.slice none 0 0,.slice none 0 0,.slice none 0 0,.int .u64 0,.int .u64 0] rfl rfl 39 _ HR8.out (by kernel_rfl) rfl (by simp[Value.oneCell']) ?_)|(refine bodyPost_ret (rld_results _ _ w.heap.size _ _ _ _ _ _ _ _ _ _ 2 rfl rfl (setRow_heap _ _ _ _ _ _ HR8.out)) rfl ?_;exact LdP.no (HB.out) ((HE0.out.trans HXS.out).below ((setRow_frS _ _ _).below (by simp) (HE0.out.trans HXS.out).size))))
          have e1:decide ((1000:Int)<(b1.toNat:Int))=false:=by simp;omega
          have e1':(1000<b1.toNat)=False:=by simp;omega
          by_cases p2:b2.toNat≤1000
          case neg=>
            have e2:decide ((1000:Int)<(b2.toNat:Int))=true:=by simp;omega
            have HB:=hid (HNOK.out _ p2 (by simp))
            clear HBAD HGOOD HNOK p2
            have HR8:=hid (HXS.out.obj HB0.out)
            go_wp2_with (first|(refine wpList_store_row rfl 39 (.tmp 2) (.tmp 143) rfl w.heap.size #[.int .u64 0,.int .u64 0,.int .u64 0,.int .u64 0,.int .u64 0,.slice none 0 0,.slice none 0 0,.slice none 0 0,.int .u64 0,.int .u64 0] rfl rfl 39 _ HR8.out (by kernel_rfl) rfl (by simp[Value.oneCell']) ?_)|(refine bodyPost_ret (rld_results _ _ w.heap.size _ _ _ _ _ _ _ _ _ _ 2 rfl rfl (setRow_heap _ _ _ _ _ _ HR8.out)) rfl ?_;exact LdP.no (HB.out) ((HE0.out.trans HXS.out).below ((setRow_frS _ _ _).below (by simp) (HE0.out.trans HXS.out).size))))
          have e2:decide ((1000:Int)<(b2.toNat:Int))=false:=by simp;omega
          have e2':(1000<b2.toNat)=False:=by simp;omega
          by_cases p3:b3.toNat≤1000
          case neg=>
            have e3:decide ((1000:Int)<(b3.toNat:Int))=true:=by simp;omega
            have HB:=hid (HNOK.out _ p3 (by simp))
            clear HBAD HGOOD HNOK p3
            have HR8:=hid (HXS.out.obj HB0.out)
            go_wp2_with (first|(refine wpList_store_row rfl 39 (.tmp 2) (.tmp 143) rfl w.heap.size #[.int .u64 0,.int .u64 0,.int .u64 0,.int .u64 0,.int .u64 0,.slice none 0 0,.slice none 0 0,.slice none 0 0,.int .u64 0,.int .u64 0] rfl rfl 39 _ HR8.out (by kernel_rfl) rfl (by simp[Value.oneCell']) ?_)|(refine bodyPost_ret (rld_results _ _ w.heap.size _ _ _ _ _ _ _ _ _ _ 2 rfl rfl (setRow_heap _ _ _ _ _ _ HR8.out)) rfl ?_;exact LdP.no (HB.out) ((HE0.out.trans HXS.out).below ((setRow_frS _ _ _).below (by simp) (HE0.out.trans HXS.out).size))))
          have e3:decide ((1000:Int)<(b3.toNat:Int))=false:=by simp;omega
          have e3':(1000<b3.toNat)=False:=by simp;omega
          by_cases p4:b9.toNat≤1000
          case neg=>
            have e4:decide ((1000:Int)<(b9.toNat:Int))=true:=by simp;omega
            have HB:=hid (HNOK.out _ p4 (by simp))
            clear HBAD HGOOD HNOK p4
            have HR8:=hid (HXS.out.obj HB0.out)
            go_wp2_with (first|(refine wpList_store_row rfl 39 (.tmp 2) (.tmp 143) rfl w.heap.size #[.int .u64 0,.int .u64 0,.int .u64 0,.int .u64 0,.int .u64 0,.slice none 0 0,.slice none 0 0,.slice none 0 0,.int .u64 0,.int .u64 0] rfl rfl 39 _ HR8.out (by kernel_rfl) rfl (by simp[Value.oneCell']) ?_)|(refine bodyPost_ret (rld_results _ _ w.heap.size _ _ _ _ _ _ _ _ _ _ 2 rfl rfl (setRow_heap _ _ _ _ _ _ HR8.out)) rfl ?_;exact LdP.no (HB.out) ((HE0.out.trans HXS.out).below ((setRow_frS _ _ _).below (by simp) (HE0.out.trans HXS.out).size))))
          have e4:decide ((1000:Int)<(b9.toNat:Int))=false:=by simp;omega
          have e4':(1000<b9.toNat)=False:=by simp;omega
          have w1:=wrap_small b1 p1
          have w2:=wrap_small b2 p2
          have w3:=wrap_small b3 p3
          have w9:=wrap_small b9 p4
          have HW:=hid (And.intro w1 (And.intro w2 (And.intro w3 w9)))
          have HLV:Hid (liveOf ⟨(14:Int),[b0,b1,b2,b3,b4,b5,b6,b7,b8,b9],tx⟩=⟨b0,(b1.toNat:Int),(b2.toNat:Int),(b3.toNat:Int),b4,b5,b6,b7,b8,(b9.toNat:Int)⟩):=hid (by
            show itmOf b0 b1 b2 b3 b4 b5 b6 b7 b8 b9=_
            unfold itmOf
            rw[w1,w2,w3,w9])
          have HOKP:=hid (HGOOD.out ⟨(show(14:Int)≤14 by decide),(show(14:Int)≤16 by decide),(show kp≤14 by omega),fun _=>by
            rw[HLV.out]
            unfold okIt okN
            simp only[Bool.and_eq_true,decide_eq_true_eq]
            omega⟩)
          clear HBAD HGOOD HNOK p1 p2 p3 p4 w1 w2 w3 w9 q3
          go_wp2_with fail
          clear a0 a1 z0 n1' n2 n3 n9 d1 d1' d2 d2' d3 d3' e1 e1' e2 e2' e3 e3' e4 e4'
          refine ParE.wp_region_e (l:=[_,_,_,_,_,_,_,_,_,_,_,_,_,_,_,_,_,_,_,_,_,_,_,_,_,_,_,_,_,_,_,_,_,_,_,_,_,_,_,_,_,_,_,_,_]) rfl (Rg.Ch [40,41,44] [184,185] (LdApQ wr 184 185 10 (itcells ⟨b0,(b1.toNat:Int),(b2.toNat:Int),(b3.toNat:Int),b4,b5,b6,b7,b8,(b9.toNat:Int)⟩) x5.heap.size 87 (un+1) (.slice uo un uc) (((fK 14 (midI l i)).map liveOf).flatMap itcells++itcells ⟨b0,(b1.toNat:Int),(b2.toNat:Int),(b3.toNat:Int),b4,b5,b6,b7,b8,(b9.toNat:Int)⟩) (fun w'=>∃o9 c9,OwS x5 w' qb ⟨a0',a1',a2',a3',a4',(fK 14 (midI l i)).map liveOf++[⟨b0,(b1.toNat:Int),(b2.toNat:Int),(b3.toNat:Int),b4,b5,b6,b7,b8,(b9.toNat:Int)⟩],(fK 15 (midI l i)).map deadOf,(fK 16 (midI l i)).map curOf,a5',a6'⟩ (.slice o9 (un+1) c9) (.slice xo2 xn xc2) (.slice zo zn zc)))) (ParC.VC [ParC.EQ (pv qb),ParC.EQ (Value.pointer (some ⟨qb,5,none⟩)),ParC.EQ (Value.slice uo un uc),ParC.EQ (Value.slice (some ra) 10 rc),ParC.EQ (Value.pointer (some ra)),ParC.EQ (uv b0),ParC.EQ (Value.slice (some ra) 10 rc),ParC.EQ (Value.pointer (some ⟨ra.block,ra.off+1,none⟩)),ParC.EQ (uv b1),ParC.EQ (Value.int .i64 (b1.toNat:Int)),ParC.EQ (Value.slice (some ra) 10 rc),ParC.EQ (Value.pointer (some ⟨ra.block,ra.off+2,none⟩)),ParC.EQ (uv b2),ParC.EQ (Value.int .i64 (b2.toNat:Int)),ParC.EQ (Value.slice (some ra) 10 rc),ParC.EQ (Value.pointer (some ⟨ra.block,ra.off+3,none⟩)),ParC.EQ (uv b3),ParC.EQ (Value.int .i64 (b3.toNat:Int)),ParC.EQ (Value.slice (some ra) 10 rc),ParC.EQ (Value.pointer (some ⟨ra.block,ra.off+4,none⟩)),ParC.EQ (uv b4),ParC.EQ (Value.slice (some ra) 10 rc),ParC.EQ (Value.pointer (some ⟨ra.block,ra.off+5,none⟩)),ParC.EQ (uv b5),ParC.EQ (Value.agg #[.int .i64 (b2.toNat:Int),.int .i64 (b3.toNat:Int),uv b4,uv b5]),ParC.EQ (Value.slice (some ra) 10 rc),ParC.EQ (Value.pointer (some ⟨ra.block,ra.off+6,none⟩)),ParC.EQ (uv b6),ParC.EQ (Value.slice (some ra) 10 rc),ParC.EQ (Value.pointer (some ⟨ra.block,ra.off+7,none⟩)),ParC.EQ (uv b7),ParC.EQ (Value.slice (some ra) 10 rc),ParC.EQ (Value.pointer (some ⟨ra.block,ra.off+8,none⟩)),ParC.EQ (uv b8),ParC.EQ (Value.slice (some ra) 10 rc),ParC.EQ (Value.pointer (some ⟨ra.block,ra.off+9,none⟩)),ParC.EQ (uv b9),ParC.EQ (Value.int .i64 (b9.toNat:Int)),ParC.EQ (Value.agg #[uv b7,uv b8,.int .i64 (b9.toNat:Int)]),ParC.EQ (Value.agg #[uv b0,.int .i64 (b1.toNat:Int),.int .i64 (b2.toNat:Int),.int .i64 (b3.toNat:Int),uv b4,uv b5,uv b6,uv b7,uv b8,.int .i64 (b9.toNat:Int)]),(fun _=>True),(fun _=>True),ParC.EQ (pv qb),ParC.EQ (Value.pointer (some ⟨qb,5,none⟩)),fun _=>True]) (by kernel_rfl) (by kernel_rfl) (Rg.Ch.start (Ext.draw _)) ?_ ?_
          · refine⟨fun L ρ w' hR hC hL hd hk=> ?_,?_⟩
            · obtain⟨k0,-⟩:=hk
              have e0:ρ (.tmp 7)=pv qb:=k0
              clear k0
              refine Par.val_k fun K hK=> ?_
              unfold Par.val
              (go_simp;exact hK _ _ ⟨hR.other (by decide),rfl⟩)
            refine⟨fun L ρ w' hR hC hL hd hk=> ?_,?_⟩
            · obtain⟨k0,-⟩:=hk
              have e0:ρ (.tmp 144)=pv qb:=k0
              clear k0
              refine Par.val_k fun K hK=> ?_
              unfold Par.val
              (go_simp;exact hK _ _ ⟨hR.other (by decide),rfl⟩)
            refine⟨fun L ρ w' hR hC hL hd hk=> ?_,?_⟩
            · obtain⟨k0,-⟩:=hk
              have e0:ρ (.tmp 145)=Value.pointer (some ⟨qb,5,none⟩):=k0
              clear k0
              refine Par.val_k fun K hK=> ?_
              unfold Par.val
              (obtain⟨i,hi,hq⟩:=hR.some 1 rfl (hC.notyet 41 2 hL (by kernel_rfl));have hx:=hq.ext hi;obtain⟨⟨-,-,-,-,-,cc,-,-,-,-⟩,-⟩:=blk10 (HS.out.ext hx).box;go_simp;exact hK _ _ ⟨hR.other (by decide),rfl⟩)
            refine⟨fun L ρ w' hR hC hL hd hk=> ?_,?_⟩
            · exact Par.val_of_run rfl ⟨hR.other (by decide),hk.1⟩
            refine⟨fun L ρ w' hR hC hL hd hk=> ?_,?_⟩
            · obtain⟨k0,k1,-⟩:=hk
              have e0:ρ (.tmp 147)=Value.slice (some ra) 10 rc:=k0
              have e1:ρ (Operand.const (Value.int IntKind.i64 0))=(Value.int IntKind.i64 0):=k1
              clear k0 k1
              refine Par.val_k fun K hK=> ?_
              unfold Par.val
              (go_simp;exact hK _ _ ⟨hR.other (by decide),rfl⟩)
            refine⟨fun L ρ w' hR hC hL hd hk=> ?_,?_⟩
            · obtain⟨k0,-⟩:=hk
              have e0:ρ (.tmp 148)=Value.pointer (some ra):=k0
              clear k0
              refine Par.val_k fun K hK=> ?_
              unfold Par.val
              (obtain⟨i,hi,hq⟩:=hR.some 1 rfl (hC.notyet 41 5 hL (by kernel_rfl));have hx:=hq.ext hi;have cc:=hx.cell HNS.out.1;go_simp;exact hK _ _ ⟨hR.other (by decide),rfl⟩)
            refine⟨fun L ρ w' hR hC hL hd hk=> ?_,?_⟩
            · exact Par.val_of_run rfl ⟨hR.other (by decide),hk.1⟩
            refine⟨fun L ρ w' hR hC hL hd hk=> ?_,?_⟩
            · obtain⟨k0,k1,-⟩:=hk
              have e0:ρ (.tmp 150)=Value.slice (some ra) 10 rc:=k0
              have e1:ρ (Operand.const (Value.int IntKind.i64 1))=(Value.int IntKind.i64 1):=k1
              clear k0 k1
              refine Par.val_k fun K hK=> ?_
              unfold Par.val
              (go_simp;exact hK _ _ ⟨hR.other (by decide),rfl⟩)
            refine⟨fun L ρ w' hR hC hL hd hk=> ?_,?_⟩
            · obtain⟨k0,-⟩:=hk
              have e0:ρ (.tmp 151)=Value.pointer (some ⟨ra.block,ra.off+1,none⟩):=k0
              clear k0
              refine Par.val_k fun K hK=> ?_
              unfold Par.val
              (obtain⟨i,hi,hq⟩:=hR.some 1 rfl (hC.notyet 41 8 hL (by kernel_rfl));have hx:=hq.ext hi;have cc:=hx.cell HNS.out.2.1;go_simp;exact hK _ _ ⟨hR.other (by decide),rfl⟩)
            refine⟨fun L ρ w' hR hC hL hd hk=> ?_,?_⟩
            · obtain⟨k0,-⟩:=hk
              have e0:ρ (.tmp 152)=uv b1:=k0
              clear k0
              refine Par.val_k fun K hK=> ?_
              unfold Par.val
              (have h9:=HW.out.1;go_simp;exact hK _ _ ⟨hR.other (by decide),by first|rfl|exact congrArg (Value.int .i64) h9⟩)
            refine⟨fun L ρ w' hR hC hL hd hk=> ?_,?_⟩
            · exact Par.val_of_run rfl ⟨hR.other (by decide),hk.1⟩
            refine⟨fun L ρ w' hR hC hL hd hk=> ?_,?_⟩
            · obtain⟨k0,k1,-⟩:=hk
              have e0:ρ (.tmp 154)=Value.slice (some ra) 10 rc:=k0
              have e1:ρ (Operand.const (Value.int IntKind.i64 2))=(Value.int IntKind.i64 2):=k1
              clear k0 k1
              refine Par.val_k fun K hK=> ?_
              unfold Par.val
              (go_simp;exact hK _ _ ⟨hR.other (by decide),rfl⟩)
            refine⟨fun L ρ w' hR hC hL hd hk=> ?_,?_⟩
            · obtain⟨k0,-⟩:=hk
              have e0:ρ (.tmp 155)=Value.pointer (some ⟨ra.block,ra.off+2,none⟩):=k0
              clear k0
              refine Par.val_k fun K hK=> ?_
              unfold Par.val
              (obtain⟨i,hi,hq⟩:=hR.some 1 rfl (hC.notyet 41 12 hL (by kernel_rfl));have hx:=hq.ext hi;have cc:=hx.cell HNS.out.2.2.1;go_simp;exact hK _ _ ⟨hR.other (by decide),rfl⟩)
            refine⟨fun L ρ w' hR hC hL hd hk=> ?_,?_⟩
            · obtain⟨k0,-⟩:=hk
              have e0:ρ (.tmp 156)=uv b2:=k0
              clear k0
              refine Par.val_k fun K hK=> ?_
              unfold Par.val
              (have h9:=HW.out.2.1;go_simp;exact hK _ _ ⟨hR.other (by decide),by first|rfl|exact congrArg (Value.int .i64) h9⟩)
            refine⟨fun L ρ w' hR hC hL hd hk=> ?_,?_⟩
            · exact Par.val_of_run rfl ⟨hR.other (by decide),hk.1⟩
            refine⟨fun L ρ w' hR hC hL hd hk=> ?_,?_⟩
            · obtain⟨k0,k1,-⟩:=hk
              have e0:ρ (.tmp 158)=Value.slice (some ra) 10 rc:=k0
              have e1:ρ (Operand.const (Value.int IntKind.i64 3))=(Value.int IntKind.i64 3):=k1
              clear k0 k1
              refine Par.val_k fun K hK=> ?_
              unfold Par.val
              (go_simp;exact hK _ _ ⟨hR.other (by decide),rfl⟩)
            refine⟨fun L ρ w' hR hC hL hd hk=> ?_,?_⟩
            · obtain⟨k0,-⟩:=hk
              have e0:ρ (.tmp 159)=Value.pointer (some ⟨ra.block,ra.off+3,none⟩):=k0
              clear k0
              refine Par.val_k fun K hK=> ?_
              unfold Par.val
              (obtain⟨i,hi,hq⟩:=hR.some 1 rfl (hC.notyet 41 16 hL (by kernel_rfl));have hx:=hq.ext hi;have cc:=hx.cell HNS.out.2.2.2.1;go_simp;exact hK _ _ ⟨hR.other (by decide),rfl⟩)
            refine⟨fun L ρ w' hR hC hL hd hk=> ?_,?_⟩
            · obtain⟨k0,-⟩:=hk
              have e0:ρ (.tmp 160)=uv b3:=k0
              clear k0
              refine Par.val_k fun K hK=> ?_
              unfold Par.val
              (have h9:=HW.out.2.2.1;go_simp;exact hK _ _ ⟨hR.other (by decide),by first|rfl|exact congrArg (Value.int .i64) h9⟩)
            refine⟨fun L ρ w' hR hC hL hd hk=> ?_,?_⟩
            · exact Par.val_of_run rfl ⟨hR.other (by decide),hk.1⟩
            refine⟨fun L ρ w' hR hC hL hd hk=> ?_,?_⟩
            · obtain⟨k0,k1,-⟩:=hk
              have e0:ρ (.tmp 162)=Value.slice (some ra) 10 rc:=k0
              have e1:ρ (Operand.const (Value.int IntKind.i64 4))=(Value.int IntKind.i64 4):=k1
              clear k0 k1
              refine Par.val_k fun K hK=> ?_
              unfold Par.val
              (go_simp;exact hK _ _ ⟨hR.other (by decide),rfl⟩)
            refine⟨fun L ρ w' hR hC hL hd hk=> ?_,?_⟩
            · obtain⟨k0,-⟩:=hk
              have e0:ρ (.tmp 163)=Value.pointer (some ⟨ra.block,ra.off+4,none⟩):=k0
              clear k0
              refine Par.val_k fun K hK=> ?_
              unfold Par.val
              (obtain⟨i,hi,hq⟩:=hR.some 1 rfl (hC.notyet 41 20 hL (by kernel_rfl));have hx:=hq.ext hi;have cc:=hx.cell HNS.out.2.2.2.2.1;go_simp;exact hK _ _ ⟨hR.other (by decide),rfl⟩)
            refine⟨fun L ρ w' hR hC hL hd hk=> ?_,?_⟩
            · exact Par.val_of_run rfl ⟨hR.other (by decide),hk.1⟩
            refine⟨fun L ρ w' hR hC hL hd hk=> ?_,?_⟩
            · obtain⟨k0,k1,-⟩:=hk
              have e0:ρ (.tmp 165)=Value.slice (some ra) 10 rc:=k0
              have e1:ρ (Operand.const (Value.int IntKind.i64 5))=(Value.int IntKind.i64 5):=k1
              clear k0 k1
              refine Par.val_k fun K hK=> ?_
              unfold Par.val
              (go_simp;exact hK _ _ ⟨hR.other (by decide),rfl⟩)
            refine⟨fun L ρ w' hR hC hL hd hk=> ?_,?_⟩
            · obtain⟨k0,-⟩:=hk
              have e0:ρ (.tmp 166)=Value.pointer (some ⟨ra.block,ra.off+5,none⟩):=k0
              clear k0
              refine Par.val_k fun K hK=> ?_
              unfold Par.val
              (obtain⟨i,hi,hq⟩:=hR.some 1 rfl (hC.notyet 41 23 hL (by kernel_rfl));have hx:=hq.ext hi;have cc:=hx.cell HNS.out.2.2.2.2.2.1;go_simp;exact hK _ _ ⟨hR.other (by decide),rfl⟩)
            refine⟨fun L ρ w' hR hC hL hd hk=> ?_,?_⟩
            · obtain⟨k0,k1,k2,k3,-⟩:=hk
              have e0:ρ (.tmp 157)=Value.int .i64 (b2.toNat:Int):=k0
              have e1:ρ (.tmp 161)=Value.int .i64 (b3.toNat:Int):=k1
              have e2:ρ (.tmp 164)=uv b4:=k2
              have e3:ρ (.tmp 167)=uv b5:=k3
              clear k0 k1 k2 k3
              refine Par.val_k fun K hK=> ?_
              unfold Par.val
              (go_simp;exact hK _ _ ⟨hR.other (by decide),rfl⟩)
            refine⟨fun L ρ w' hR hC hL hd hk=> ?_,?_⟩
            · exact Par.val_of_run rfl ⟨hR.other (by decide),hk.1⟩
            refine⟨fun L ρ w' hR hC hL hd hk=> ?_,?_⟩
            · obtain⟨k0,k1,-⟩:=hk
              have e0:ρ (.tmp 169)=Value.slice (some ra) 10 rc:=k0
              have e1:ρ (Operand.const (Value.int IntKind.i64 6))=(Value.int IntKind.i64 6):=k1
              clear k0 k1
              refine Par.val_k fun K hK=> ?_
              unfold Par.val
              (go_simp;exact hK _ _ ⟨hR.other (by decide),rfl⟩)
            refine⟨fun L ρ w' hR hC hL hd hk=> ?_,?_⟩
            · obtain⟨k0,-⟩:=hk
              have e0:ρ (.tmp 170)=Value.pointer (some ⟨ra.block,ra.off+6,none⟩):=k0
              clear k0
              refine Par.val_k fun K hK=> ?_
              unfold Par.val
              (obtain⟨i,hi,hq⟩:=hR.some 1 rfl (hC.notyet 41 27 hL (by kernel_rfl));have hx:=hq.ext hi;have cc:=hx.cell HNS.out.2.2.2.2.2.2.1;go_simp;exact hK _ _ ⟨hR.other (by decide),rfl⟩)
            refine⟨fun L ρ w' hR hC hL hd hk=> ?_,?_⟩
            · exact Par.val_of_run rfl ⟨hR.other (by decide),hk.1⟩
            refine⟨fun L ρ w' hR hC hL hd hk=> ?_,?_⟩
            · obtain⟨k0,k1,-⟩:=hk
              have e0:ρ (.tmp 172)=Value.slice (some ra) 10 rc:=k0
              have e1:ρ (Operand.const (Value.int IntKind.i64 7))=(Value.int IntKind.i64 7):=k1
              clear k0 k1
              refine Par.val_k fun K hK=> ?_
              unfold Par.val
              (go_simp;exact hK _ _ ⟨hR.other (by decide),rfl⟩)
            refine⟨fun L ρ w' hR hC hL hd hk=> ?_,?_⟩
            · obtain⟨k0,-⟩:=hk
              have e0:ρ (.tmp 173)=Value.pointer (some ⟨ra.block,ra.off+7,none⟩):=k0
              clear k0
              refine Par.val_k fun K hK=> ?_
              unfold Par.val
              (obtain⟨i,hi,hq⟩:=hR.some 1 rfl (hC.notyet 41 30 hL (by kernel_rfl));have hx:=hq.ext hi;have cc:=hx.cell HNS.out.2.2.2.2.2.2.2.1;go_simp;exact hK _ _ ⟨hR.other (by decide),rfl⟩)
            refine⟨fun L ρ w' hR hC hL hd hk=> ?_,?_⟩
            · exact Par.val_of_run rfl ⟨hR.other (by decide),hk.1⟩
            refine⟨fun L ρ w' hR hC hL hd hk=> ?_,?_⟩
            · obtain⟨k0,k1,-⟩:=hk
              have e0:ρ (.tmp 175)=Value.slice (some ra) 10 rc:=k0
              have e1:ρ (Operand.const (Value.int IntKind.i64 8))=(Value.int IntKind.i64 8):=k1
              clear k0 k1
              refine Par.val_k fun K hK=> ?_
              unfold Par.val
              (go_simp;exact hK _ _ ⟨hR.other (by decide),rfl⟩)
            refine⟨fun L ρ w' hR hC hL hd hk=> ?_,?_⟩
            · obtain⟨k0,-⟩:=hk
              have e0:ρ (.tmp 176)=Value.pointer (some ⟨ra.block,ra.off+8,none⟩):=k0
              clear k0
              refine Par.val_k fun K hK=> ?_
              unfold Par.val
              (obtain⟨i,hi,hq⟩:=hR.some 1 rfl (hC.notyet 41 33 hL (by kernel_rfl));have hx:=hq.ext hi;have cc:=hx.cell HNS.out.2.2.2.2.2.2.2.2.1;go_simp;exact hK _ _ ⟨hR.other (by decide),rfl⟩)
            refine⟨fun L ρ w' hR hC hL hd hk=> ?_,?_⟩
            · exact Par.val_of_run rfl ⟨hR.other (by decide),hk.1⟩
            refine⟨fun L ρ w' hR hC hL hd hk=> ?_,?_⟩
            · obtain⟨k0,k1,-⟩:=hk
              have e0:ρ (.tmp 178)=Value.slice (some ra) 10 rc:=k0
              have e1:ρ (Operand.const (Value.int IntKind.i64 9))=(Value.int IntKind.i64 9):=k1
              clear k0 k1
              refine Par.val_k fun K hK=> ?_
              unfold Par.val
              (go_simp;exact hK _ _ ⟨hR.other (by decide),rfl⟩)
            refine⟨fun L ρ w' hR hC hL hd hk=> ?_,?_⟩
            · obtain⟨k0,-⟩:=hk
              have e0:ρ (.tmp 179)=Value.pointer (some ⟨ra.block,ra.off+9,none⟩):=k0
              clear k0
              refine Par.val_k fun K hK=> ?_
              unfold Par.val
              (obtain⟨i,hi,hq⟩:=hR.some 1 rfl (hC.notyet 41 36 hL (by kernel_rfl));have hx:=hq.ext hi;have cc:=hx.cell HNS.out.2.2.2.2.2.2.2.2.2;go_simp;exact hK _ _ ⟨hR.other (by decide),rfl⟩)
            refine⟨fun L ρ w' hR hC hL hd hk=> ?_,?_⟩
            · obtain⟨k0,-⟩:=hk
              have e0:ρ (.tmp 180)=uv b9:=k0
              clear k0
              refine Par.val_k fun K hK=> ?_
              unfold Par.val
              (have h9:=HW.out.2.2.2;go_simp;exact hK _ _ ⟨hR.other (by decide),by first|rfl|exact congrArg (Value.int .i64) h9⟩)
            refine⟨fun L ρ w' hR hC hL hd hk=> ?_,?_⟩
            · obtain⟨k0,k1,k2,-⟩:=hk
              have e0:ρ (.tmp 174)=uv b7:=k0
              have e1:ρ (.tmp 177)=uv b8:=k1
              have e2:ρ (.tmp 181)=Value.int .i64 (b9.toNat:Int):=k2
              clear k0 k1 k2
              refine Par.val_k fun K hK=> ?_
              unfold Par.val
              (go_simp;exact hK _ _ ⟨hR.other (by decide),rfl⟩)
            refine⟨fun L ρ w' hR hC hL hd hk=> ?_,?_⟩
            · obtain⟨k0,k1,k2,k3,k4,-⟩:=hk
              have e0:ρ (.tmp 149)=uv b0:=k0
              have e1:ρ (.tmp 153)=Value.int .i64 (b1.toNat:Int):=k1
              have e2:ρ (.tmp 168)=Value.agg #[.int .i64 (b2.toNat:Int),.int .i64 (b3.toNat:Int),uv b4,uv b5]:=k2
              have e3:ρ (.tmp 171)=uv b6:=k3
              have e4:ρ (.tmp 182)=Value.agg #[uv b7,uv b8,.int .i64 (b9.toNat:Int)]:=k4
              clear k0 k1 k2 k3 k4
              refine Par.val_k fun K hK=> ?_
              unfold Par.val
              (go_simp;exact hK _ _ ⟨hR.other (by decide),rfl⟩)
            refine⟨fun L ρ w' hR hC hL hd hk=> ?_,?_⟩
            · obtain⟨k0,-⟩:=hk
              have e0:ρ (.tmp 183)=Value.agg #[uv b0,.int .i64 (b1.toNat:Int),.int .i64 (b2.toNat:Int),.int .i64 (b3.toNat:Int),uv b4,uv b5,uv b6,uv b7,uv b8,.int .i64 (b9.toNat:Int)]:=k0
              clear k0
              refine Par.val_k fun K hK=> ?_
              unfold Par.val
              (obtain⟨hq,hs⟩:=hR.go 0 rfl hL (.inl rfl) (by decide);have hx:Ext wr w':=hq;go_simp;exact hK _ _ ⟨hs _ _ _ ⟨hx.trans (Ext.alloc _ _),one_row _ 87 (itcells ⟨b0,(b1.toNat:Int),(b2.toNat:Int),(b3.toNat:Int),b4,b5,b6,b7,b8,(b9.toNat:Int)⟩) 10 rfl⟩,trivial⟩)
            refine⟨fun L ρ w' hR hC hL hd hk=> ?_,?_⟩
            · obtain⟨k0,k1,-⟩:=hk
              have e0:ρ (.tmp 146)=Value.slice uo un uc:=k0
              have e1:(fun _=>True) (ρ (.tmp 184)):=k1
              clear k0 k1
              refine Par.val_k fun K hK=> ?_
              unfold Par.val
              (obtain⟨hq,hs⟩:=hR.go 1 rfl hL (.inr ⟨40,rfl,hC.before 40 (i:=41) rfl hd (by kernel_rfl)⟩) (by decide);obtain⟨hx,hsl⟩:=hq;have hsl2:Sl w' 10 (ρ (.tmp 184)) 1 (itcells ⟨b0,(b1.toNat:Int),(b2.toNat:Int),(b3.toNat:Int),b4,b5,b6,b7,b8,(b9.toNat:Int)⟩):=hsl;have hown:w'.ownsRow x5.heap.size 87 10 (.slice uo un uc) ((fK 14 (midI l i)).map liveOf).length (((fK 14 (midI l i)).map liveOf).flatMap itcells):=(HS.out.ext hx).it;rw[List.length_map,←HUN.out] at hown;obtain⟨a9,c9,w9,r1,r2,r3,r4⟩:=run_append_sl (P:=Tryd.prog) x5.heap.size 33 33 87 Tryd.underlying33 infoRIt rfl (by decide) hown hsl2 (by intro y hy;simp[itcells,ddcells,cucells] at hy;rcases hy with rfl|rfl|rfl|rfl|rfl|rfl|rfl|rfl|rfl|rfl<;>rfl) (by have:=HBN.out;simp[maxLen];omega) (by have:=HBN.out;omega) (HS.out.ext hx).low.size;rw[←e0] at r1;exact Par.val_append r1 (hK _ _ ⟨hs _ _ _ ⟨w',hx,⟨a9,c9,rfl⟩,r2,r3,r4⟩,trivial⟩))
            refine⟨fun L ρ w' hR hC hL hd hk=> ?_,?_⟩
            · obtain⟨k0,-⟩:=hk
              have e0:ρ (.tmp 7)=pv qb:=k0
              clear k0
              refine Par.val_k fun K hK=> ?_
              unfold Par.val
              (go_simp;exact hK _ _ ⟨hR.other (by decide),rfl⟩)
            refine⟨fun L ρ w' hR hC hL hd hk=> ?_,?_⟩
            · obtain⟨k0,-⟩:=hk
              have e0:ρ (.tmp 186)=pv qb:=k0
              clear k0
              refine Par.val_k fun K hK=> ?_
              unfold Par.val
              (go_simp;exact hK _ _ ⟨hR.other (by decide),rfl⟩)
            refine⟨fun L ρ w' hR hC hL hd hk=> ?_,?_⟩
            · obtain⟨k0,k1,-⟩:=hk
              have e0:ρ (.tmp 187)=Value.pointer (some ⟨qb,5,none⟩):=k0
              have e1:(fun _=>True) (ρ (.tmp 185)):=k1
              clear k0 k1
              refine Par.val_k fun K hK=> ?_
              unfold Par.val
              (obtain⟨hq,hs⟩:=hR.go 2 rfl hL (.inr ⟨41,rfl,hC.before 41 (i:=44) rfl hd (by kernel_rfl)⟩) (by decide);obtain⟨W2,hx,⟨o9,c9,h33⟩,ho,hg,hb⟩:=hq;have s33:ρ (.tmp 185)= .slice o9 (un+1) c9:=h33;have ho2:w'.ownsRow x5.heap.size 87 10 (ρ (.tmp 185)) (un+1) (((fK 14 (midI l i)).map liveOf).flatMap itcells++itcells ⟨b0,(b1.toNat:Int),(b2.toNat:Int),(b3.toNat:Int),b4,b5,b6,b7,b8,(b9.toNat:Int)⟩):=ho;rw[s33] at ho2;obtain⟨hL9,cc,ff⟩:=(HS.out.ext hx).addI ⟨b0,(b1.toNat:Int),(b2.toNat:Int),(b3.toNat:Int),b4,b5,b6,b7,b8,(b9.toNat:Int)⟩ ho2 (by rw[List.length_map,HUN.out]) hg hb;have HL9:=hid hL9;clear h33 ho ho2 hg hb hL9 hx;go_simp;exact hK _ _ ⟨hs none _ _ ⟨o9,c9,HL9.out⟩,trivial⟩)
            trivial
          intro a' w' inv hR
          have q144:a'.tmps.getD 144 undef=pv qb:=inv.done 0 _ 144 rfl rfl rfl
          have q145:a'.tmps.getD 145 undef=Value.pointer (some ⟨qb,5,none⟩):=inv.done 1 _ 145 rfl rfl rfl
          have q146:a'.tmps.getD 146 undef=Value.slice uo un uc:=inv.done 2 _ 146 rfl rfl rfl
          have q147:a'.tmps.getD 147 undef=Value.slice (some ra) 10 rc:=inv.done 3 _ 147 rfl rfl rfl
          have q148:a'.tmps.getD 148 undef=Value.pointer (some ra):=inv.done 4 _ 148 rfl rfl rfl
          have q149:a'.tmps.getD 149 undef=uv b0:=inv.done 5 _ 149 rfl rfl rfl
          have q150:a'.tmps.getD 150 undef=Value.slice (some ra) 10 rc:=inv.done 6 _ 150 rfl rfl rfl
          have q151:a'.tmps.getD 151 undef=Value.pointer (some ⟨ra.block,ra.off+1,none⟩):=inv.done 7 _ 151 rfl rfl rfl
          have q152:a'.tmps.getD 152 undef=uv b1:=inv.done 8 _ 152 rfl rfl rfl
          have q153:a'.tmps.getD 153 undef=Value.int .i64 (b1.toNat:Int):=inv.done 9 _ 153 rfl rfl rfl
          have q154:a'.tmps.getD 154 undef=Value.slice (some ra) 10 rc:=inv.done 10 _ 154 rfl rfl rfl
          have q155:a'.tmps.getD 155 undef=Value.pointer (some ⟨ra.block,ra.off+2,none⟩):=inv.done 11 _ 155 rfl rfl rfl
          have q156:a'.tmps.getD 156 undef=uv b2:=inv.done 12 _ 156 rfl rfl rfl
          have q157:a'.tmps.getD 157 undef=Value.int .i64 (b2.toNat:Int):=inv.done 13 _ 157 rfl rfl rfl
          have q158:a'.tmps.getD 158 undef=Value.slice (some ra) 10 rc:=inv.done 14 _ 158 rfl rfl rfl
          have q159:a'.tmps.getD 159 undef=Value.pointer (some ⟨ra.block,ra.off+3,none⟩):=inv.done 15 _ 159 rfl rfl rfl
          have q160:a'.tmps.getD 160 undef=uv b3:=inv.done 16 _ 160 rfl rfl rfl
          have q161:a'.tmps.getD 161 undef=Value.int .i64 (b3.toNat:Int):=inv.done 17 _ 161 rfl rfl rfl
          have q162:a'.tmps.getD 162 undef=Value.slice (some ra) 10 rc:=inv.done 18 _ 162 rfl rfl rfl
          have q163:a'.tmps.getD 163 undef=Value.pointer (some ⟨ra.block,ra.off+4,none⟩):=inv.done 19 _ 163 rfl rfl rfl
          have q164:a'.tmps.getD 164 undef=uv b4:=inv.done 20 _ 164 rfl rfl rfl
          have q165:a'.tmps.getD 165 undef=Value.slice (some ra) 10 rc:=inv.done 21 _ 165 rfl rfl rfl
          have q166:a'.tmps.getD 166 undef=Value.pointer (some ⟨ra.block,ra.off+5,none⟩):=inv.done 22 _ 166 rfl rfl rfl
          have q167:a'.tmps.getD 167 undef=uv b5:=inv.done 23 _ 167 rfl rfl rfl
          have q168:a'.tmps.getD 168 undef=Value.agg #[.int .i64 (b2.toNat:Int),.int .i64 (b3.toNat:Int),uv b4,uv b5]:=inv.done 24 _ 168 rfl rfl rfl
          have q169:a'.tmps.getD 169 undef=Value.slice (some ra) 10 rc:=inv.done 25 _ 169 rfl rfl rfl
          have q170:a'.tmps.getD 170 undef=Value.pointer (some ⟨ra.block,ra.off+6,none⟩):=inv.done 26 _ 170 rfl rfl rfl
          have q171:a'.tmps.getD 171 undef=uv b6:=inv.done 27 _ 171 rfl rfl rfl
          have q172:a'.tmps.getD 172 undef=Value.slice (some ra) 10 rc:=inv.done 28 _ 172 rfl rfl rfl
          have q173:a'.tmps.getD 173 undef=Value.pointer (some ⟨ra.block,ra.off+7,none⟩):=inv.done 29 _ 173 rfl rfl rfl
          have q174:a'.tmps.getD 174 undef=uv b7:=inv.done 30 _ 174 rfl rfl rfl
          have q175:a'.tmps.getD 175 undef=Value.slice (some ra) 10 rc:=inv.done 31 _ 175 rfl rfl rfl
          have q176:a'.tmps.getD 176 undef=Value.pointer (some ⟨ra.block,ra.off+8,none⟩):=inv.done 32 _ 176 rfl rfl rfl
          have q177:a'.tmps.getD 177 undef=uv b8:=inv.done 33 _ 177 rfl rfl rfl
          have q178:a'.tmps.getD 178 undef=Value.slice (some ra) 10 rc:=inv.done 34 _ 178 rfl rfl rfl
          have q179:a'.tmps.getD 179 undef=Value.pointer (some ⟨ra.block,ra.off+9,none⟩):=inv.done 35 _ 179 rfl rfl rfl
          have q180:a'.tmps.getD 180 undef=uv b9:=inv.done 36 _ 180 rfl rfl rfl
          have q181:a'.tmps.getD 181 undef=Value.int .i64 (b9.toNat:Int):=inv.done 37 _ 181 rfl rfl rfl
          have q182:a'.tmps.getD 182 undef=Value.agg #[uv b7,uv b8,.int .i64 (b9.toNat:Int)]:=inv.done 38 _ 182 rfl rfl rfl
          have q183:a'.tmps.getD 183 undef=Value.agg #[uv b0,.int .i64 (b1.toNat:Int),.int .i64 (b2.toNat:Int),.int .i64 (b3.toNat:Int),uv b4,uv b5,uv b6,uv b7,uv b8,.int .i64 (b9.toNat:Int)]:=inv.done 39 _ 183 rfl rfl rfl
          have q184:(fun _=>True) (a'.tmps.getD 184 undef):=inv.done 40 _ 184 rfl rfl rfl
          have q185:(fun _=>True) (a'.tmps.getD 185 undef):=inv.done 41 _ 185 rfl rfl rfl
          have q186:a'.tmps.getD 186 undef=pv qb:=inv.done 42 _ 186 rfl rfl rfl
          have q187:a'.tmps.getD 187 undef=Value.pointer (some ⟨qb,5,none⟩):=inv.done 43 _ 187 rfl rfl rfl
          clear inv
          simp only[List.filterMap_cons,List.filterMap_nil,Par.putAll,Act.put,List.setIfInBounds_toArray,List.set_cons_succ,List.set_cons_zero,q144,q145,q146,q147,q148,q149,q150,q151,q152,q153,q154,q155,q156,q157,q158,q159,q160,q161,q162,q163,q164,q165,q166,q167,q168,q169,q170,q171,q172,q173,q174,q175,q176,q177,q178,q179,q180,q181,q182,q183,q186,q187]
          clear q144 q145 q146 q147 q148 q149 q150 q151 q152 q153 q154 q155 q156 q157 q158 q159 q160 q161 q162 q163 q164 q165 q166 q167 q168 q169 q170 q171 q172 q173 q174 q175 q176 q177 q178 q179 q180 q181 q182 q183 q186 q187
          have hp:=Rg.Ch.fin hR (by decide) 3 rfl;have HP:=hid hp;clear hp hR
          generalize a'.tmps.getD 184 undef=u184 at*
          generalize a'.tmps.getD 185 undef=u185 at*
          try clear a'
          obtain⟨o9,c9,hk2⟩:=HP.out
          have HS5:=hid hk2
          have HF14:Hid (fK 14 (midI l (i+1))=fK 14 (midI l i)++[⟨(14:Int),[b0,b1,b2,b3,b4,b5,b6,b7,b8,b9],tx⟩]):=hid (by rw[HMI.out,fK_snoc,if_pos rfl])
          have HF15:Hid (fK 15 (midI l (i+1))=fK 15 (midI l i)):=hid (by rw[HMI.out,fK_snoc,if_neg (fun h=>absurd (show(14:Int)=15 from h) (by decide))])
          have HF16:Hid (fK 16 (midI l (i+1))=fK 16 (midI l i)):=hid (by rw[HMI.out,fK_snoc,if_neg (fun h=>absurd (show(14:Int)=16 from h) (by decide))])
          have HMAP:Hid ((fK 14 (midI l (i+1))).map liveOf=(fK 14 (midI l i)).map liveOf++[⟨b0,(b1.toNat:Int),(b2.toNat:Int),(b3.toNat:Int),b4,b5,b6,b7,b8,(b9.toNat:Int)⟩]):=hid (by rw[HF14.out,List.map_append];show _++[liveOf ⟨(14:Int),[b0,b1,b2,b3,b4,b5,b6,b7,b8,b9],tx⟩]=_;rw[HLV.out])
          clear hk2 HP
          go_wp2
          go_roundw
          case rel=>exact⟨i+1,o9,un+1,c9,xo2,xn,xc2,zo,zn,zc,by omega,HIX.out.2.2,by first|rfl|go_num,HOKP,hid (by rw[HF14.out,List.length_append,HUN.out];rfl),hid (by rw[HF15.out];exact HXN.out),hid (by rw[HF16.out];exact HZN.out),hid (by have h:=HS5.out;rw[←HMAP.out,←HF15.out,←HF16.out] at h;exact h)⟩
          case measure=>have:=HIX.out.2.2;simp[intOf];omega
        · have hln:ns.length=2:=right_len hra
          obtain⟨b0,b1,rfl⟩:=len2_ex hln
          clear hln hra q1 q2
          simp only[List.length_cons,List.length_nil,Nat.reduceAdd,Nat.zero_add] at hrle a1
          obtain⟨ra,rfl⟩:=hrnn (by omega)
          clear hrnn
          have n0:=add_0 (HRC.out ra rfl 0 (by simp))
          have n1':=add_at 1 (HRC.out ra rfl 1 (by simp)) (by decide)
          simp only[List.getElem_cons_zero,List.getElem_cons_succ] at n0 n1'
          have HNS:=hid (And.intro n0 n1')
          clear n0 n1'
          have HOKP:=hid (HGOOD.out ⟨(show(14:Int)≤15 by decide),(show(15:Int)≤16 by decide),(show kp≤15 by omega),fun h=>absurd (show(15:Int)=14 from h) (by decide)⟩)
          clear HBAD HGOOD q3
          go_wp2_with fail
          clear a0 a1 z0 d1 d1' d2 d2' d3 d3'
          refine ParE.wp_region_e (l:=[_,_,_,_,_,_,_,_,_,_,_,_,_,_,_]) rfl (Rg.Ch [10,11,14] [200,201] (LdApQ wr 200 201 2 (ddcells (b0,b1)) x5.heap.size 76 (xn+1) (.slice xo2 xn xc2) (((fK 15 (midI l i)).map deadOf).flatMap ddcells++ddcells (b0,b1)) (fun w'=>∃o9 c9,OwS x5 w' qb ⟨a0',a1',a2',a3',a4',(fK 14 (midI l i)).map liveOf,(fK 15 (midI l i)).map deadOf++[(b0,b1)],(fK 16 (midI l i)).map curOf,a5',a6'⟩ (.slice uo un uc) (.slice o9 (xn+1) c9) (.slice zo zn zc)))) (ParC.VC [ParC.EQ (pv qb),ParC.EQ (Value.pointer (some ⟨qb,6,none⟩)),ParC.EQ (Value.slice xo2 xn xc2),ParC.EQ (Value.slice (some ra) 2 rc),ParC.EQ (Value.pointer (some ra)),ParC.EQ (uv b0),ParC.EQ (Value.slice (some ra) 2 rc),ParC.EQ (Value.pointer (some ⟨ra.block,ra.off+1,none⟩)),ParC.EQ (uv b1),ParC.EQ (Value.agg #[uv b0,uv b1]),(fun _=>True),(fun _=>True),ParC.EQ (pv qb),ParC.EQ (Value.pointer (some ⟨qb,6,none⟩)),fun _=>True]) (by kernel_rfl) (by kernel_rfl) (Rg.Ch.start (Ext.draw _)) ?_ ?_
          · refine⟨fun L ρ w' hR hC hL hd hk=> ?_,?_⟩
            · obtain⟨k0,-⟩:=hk
              have e0:ρ (.tmp 7)=pv qb:=k0
              clear k0
              refine Par.val_k fun K hK=> ?_
              unfold Par.val
              (go_simp;exact hK _ _ ⟨hR.other (by decide),rfl⟩)
            refine⟨fun L ρ w' hR hC hL hd hk=> ?_,?_⟩
            · obtain⟨k0,-⟩:=hk
              have e0:ρ (.tmp 190)=pv qb:=k0
              clear k0
              refine Par.val_k fun K hK=> ?_
              unfold Par.val
              (go_simp;exact hK _ _ ⟨hR.other (by decide),rfl⟩)
            refine⟨fun L ρ w' hR hC hL hd hk=> ?_,?_⟩
            · obtain⟨k0,-⟩:=hk
              have e0:ρ (.tmp 191)=Value.pointer (some ⟨qb,6,none⟩):=k0
              clear k0
              refine Par.val_k fun K hK=> ?_
              unfold Par.val
              (obtain⟨i,hi,hq⟩:=hR.some 1 rfl (hC.notyet 11 2 hL (by kernel_rfl));have hx:=hq.ext hi;obtain⟨⟨-,-,-,-,-,-,cc,-,-,-⟩,-⟩:=blk10 (HS.out.ext hx).box;go_simp;exact hK _ _ ⟨hR.other (by decide),rfl⟩)
            refine⟨fun L ρ w' hR hC hL hd hk=> ?_,?_⟩
            · exact Par.val_of_run rfl ⟨hR.other (by decide),hk.1⟩
            refine⟨fun L ρ w' hR hC hL hd hk=> ?_,?_⟩
            · obtain⟨k0,k1,-⟩:=hk
              have e0:ρ (.tmp 193)=Value.slice (some ra) 2 rc:=k0
              have e1:ρ (Operand.const (Value.int IntKind.i64 0))=(Value.int IntKind.i64 0):=k1
              clear k0 k1
              refine Par.val_k fun K hK=> ?_
              unfold Par.val
              (go_simp;exact hK _ _ ⟨hR.other (by decide),rfl⟩)
            refine⟨fun L ρ w' hR hC hL hd hk=> ?_,?_⟩
            · obtain⟨k0,-⟩:=hk
              have e0:ρ (.tmp 194)=Value.pointer (some ra):=k0
              clear k0
              refine Par.val_k fun K hK=> ?_
              unfold Par.val
              (obtain⟨i,hi,hq⟩:=hR.some 1 rfl (hC.notyet 11 5 hL (by kernel_rfl));have hx:=hq.ext hi;have cc:=hx.cell HNS.out.1;go_simp;exact hK _ _ ⟨hR.other (by decide),rfl⟩)
            refine⟨fun L ρ w' hR hC hL hd hk=> ?_,?_⟩
            · exact Par.val_of_run rfl ⟨hR.other (by decide),hk.1⟩
            refine⟨fun L ρ w' hR hC hL hd hk=> ?_,?_⟩
            · obtain⟨k0,k1,-⟩:=hk
              have e0:ρ (.tmp 196)=Value.slice (some ra) 2 rc:=k0
              have e1:ρ (Operand.const (Value.int IntKind.i64 1))=(Value.int IntKind.i64 1):=k1
              clear k0 k1
              refine Par.val_k fun K hK=> ?_
              unfold Par.val
              (go_simp;exact hK _ _ ⟨hR.other (by decide),rfl⟩)
            refine⟨fun L ρ w' hR hC hL hd hk=> ?_,?_⟩
            · obtain⟨k0,-⟩:=hk
              have e0:ρ (.tmp 197)=Value.pointer (some ⟨ra.block,ra.off+1,none⟩):=k0
              clear k0
              refine Par.val_k fun K hK=> ?_
              unfold Par.val
              (obtain⟨i,hi,hq⟩:=hR.some 1 rfl (hC.notyet 11 8 hL (by kernel_rfl));have hx:=hq.ext hi;have cc:=hx.cell HNS.out.2;go_simp;exact hK _ _ ⟨hR.other (by decide),rfl⟩)
            refine⟨fun L ρ w' hR hC hL hd hk=> ?_,?_⟩
            · obtain⟨k0,k1,-⟩:=hk
              have e0:ρ (.tmp 195)=uv b0:=k0
              have e1:ρ (.tmp 198)=uv b1:=k1
              clear k0 k1
              refine Par.val_k fun K hK=> ?_
              unfold Par.val
              (go_simp;exact hK _ _ ⟨hR.other (by decide),rfl⟩)
            refine⟨fun L ρ w' hR hC hL hd hk=> ?_,?_⟩
            · obtain⟨k0,-⟩:=hk
              have e0:ρ (.tmp 199)=Value.agg #[uv b0,uv b1]:=k0
              clear k0
              refine Par.val_k fun K hK=> ?_
              unfold Par.val
              (obtain⟨hq,hs⟩:=hR.go 0 rfl hL (.inl rfl) (by decide);have hx:Ext wr w':=hq;go_simp;exact hK _ _ ⟨hs _ _ _ ⟨hx.trans (Ext.alloc _ _),one_row _ 76 (ddcells (b0,b1)) 2 rfl⟩,trivial⟩)
            refine⟨fun L ρ w' hR hC hL hd hk=> ?_,?_⟩
            · obtain⟨k0,k1,-⟩:=hk
              have e0:ρ (.tmp 192)=Value.slice xo2 xn xc2:=k0
              have e1:(fun _=>True) (ρ (.tmp 200)):=k1
              clear k0 k1
              refine Par.val_k fun K hK=> ?_
              unfold Par.val
              (obtain⟨hq,hs⟩:=hR.go 1 rfl hL (.inr ⟨10,rfl,hC.before 10 (i:=11) rfl hd (by kernel_rfl)⟩) (by decide);obtain⟨hx,hsl⟩:=hq;have hsl2:Sl w' 2 (ρ (.tmp 200)) 1 (ddcells (b0,b1)):=hsl;have hown:w'.ownsRow x5.heap.size 76 2 (.slice xo2 xn xc2) ((fK 15 (midI l i)).map deadOf).length (((fK 15 (midI l i)).map deadOf).flatMap ddcells):=(HS.out.ext hx).dd;rw[List.length_map,←HXN.out] at hown;obtain⟨a9,c9,w9,r1,r2,r3,r4⟩:=run_append_sl (P:=Tryd.prog) x5.heap.size 34 34 76 Tryd.underlying34 infoRDd rfl (by decide) hown hsl2 (by intro y hy;simp[itcells,ddcells,cucells] at hy;rcases hy with rfl|rfl<;>rfl) (by have:=HBN.out;simp[maxLen];omega) (by have:=HBN.out;omega) (HS.out.ext hx).low.size;rw[←e0] at r1;exact Par.val_append r1 (hK _ _ ⟨hs _ _ _ ⟨w',hx,⟨a9,c9,rfl⟩,r2,r3,r4⟩,trivial⟩))
            refine⟨fun L ρ w' hR hC hL hd hk=> ?_,?_⟩
            · obtain⟨k0,-⟩:=hk
              have e0:ρ (.tmp 7)=pv qb:=k0
              clear k0
              refine Par.val_k fun K hK=> ?_
              unfold Par.val
              (go_simp;exact hK _ _ ⟨hR.other (by decide),rfl⟩)
            refine⟨fun L ρ w' hR hC hL hd hk=> ?_,?_⟩
            · obtain⟨k0,-⟩:=hk
              have e0:ρ (.tmp 202)=pv qb:=k0
              clear k0
              refine Par.val_k fun K hK=> ?_
              unfold Par.val
              (go_simp;exact hK _ _ ⟨hR.other (by decide),rfl⟩)
            refine⟨fun L ρ w' hR hC hL hd hk=> ?_,?_⟩
            · obtain⟨k0,k1,-⟩:=hk
              have e0:ρ (.tmp 203)=Value.pointer (some ⟨qb,6,none⟩):=k0
              have e1:(fun _=>True) (ρ (.tmp 201)):=k1
              clear k0 k1
              refine Par.val_k fun K hK=> ?_
              unfold Par.val
              (obtain⟨hq,hs⟩:=hR.go 2 rfl hL (.inr ⟨11,rfl,hC.before 11 (i:=14) rfl hd (by kernel_rfl)⟩) (by decide);obtain⟨W2,hx,⟨o9,c9,h33⟩,ho,hg,hb⟩:=hq;have s33:ρ (.tmp 201)= .slice o9 (xn+1) c9:=h33;have ho2:w'.ownsRow x5.heap.size 76 2 (ρ (.tmp 201)) (xn+1) (((fK 15 (midI l i)).map deadOf).flatMap ddcells++ddcells (b0,b1)):=ho;rw[s33] at ho2;obtain⟨hL9,cc,ff⟩:=(HS.out.ext hx).addD (b0,b1) ho2 (by rw[List.length_map,HXN.out]) hg hb;have HL9:=hid hL9;clear h33 ho ho2 hg hb hL9 hx;go_simp;exact hK _ _ ⟨hs none _ _ ⟨o9,c9,HL9.out⟩,trivial⟩)
            trivial
          intro a' w' inv hR
          have q190:a'.tmps.getD 190 undef=pv qb:=inv.done 0 _ 190 rfl rfl rfl
          have q191:a'.tmps.getD 191 undef=Value.pointer (some ⟨qb,6,none⟩):=inv.done 1 _ 191 rfl rfl rfl
          have q192:a'.tmps.getD 192 undef=Value.slice xo2 xn xc2:=inv.done 2 _ 192 rfl rfl rfl
          have q193:a'.tmps.getD 193 undef=Value.slice (some ra) 2 rc:=inv.done 3 _ 193 rfl rfl rfl
          have q194:a'.tmps.getD 194 undef=Value.pointer (some ra):=inv.done 4 _ 194 rfl rfl rfl
          have q195:a'.tmps.getD 195 undef=uv b0:=inv.done 5 _ 195 rfl rfl rfl
          have q196:a'.tmps.getD 196 undef=Value.slice (some ra) 2 rc:=inv.done 6 _ 196 rfl rfl rfl
          have q197:a'.tmps.getD 197 undef=Value.pointer (some ⟨ra.block,ra.off+1,none⟩):=inv.done 7 _ 197 rfl rfl rfl
          have q198:a'.tmps.getD 198 undef=uv b1:=inv.done 8 _ 198 rfl rfl rfl
          have q199:a'.tmps.getD 199 undef=Value.agg #[uv b0,uv b1]:=inv.done 9 _ 199 rfl rfl rfl
          have q200:(fun _=>True) (a'.tmps.getD 200 undef):=inv.done 10 _ 200 rfl rfl rfl
          have q201:(fun _=>True) (a'.tmps.getD 201 undef):=inv.done 11 _ 201 rfl rfl rfl
          have q202:a'.tmps.getD 202 undef=pv qb:=inv.done 12 _ 202 rfl rfl rfl
          have q203:a'.tmps.getD 203 undef=Value.pointer (some ⟨qb,6,none⟩):=inv.done 13 _ 203 rfl rfl rfl
          clear inv
          simp only[List.filterMap_cons,List.filterMap_nil,Par.putAll,Act.put,List.setIfInBounds_toArray,List.set_cons_succ,List.set_cons_zero,q190,q191,q192,q193,q194,q195,q196,q197,q198,q199,q202,q203]
          clear q190 q191 q192 q193 q194 q195 q196 q197 q198 q199 q202 q203
          have hp:=Rg.Ch.fin hR (by decide) 3 rfl;have HP:=hid hp;clear hp hR
          generalize a'.tmps.getD 200 undef=u200 at*
          generalize a'.tmps.getD 201 undef=u201 at*
          try clear a'
          obtain⟨o9,c9,hk2⟩:=HP.out
          have HS5:=hid hk2
          have HF14:Hid (fK 14 (midI l (i+1))=fK 14 (midI l i)):=hid (by rw[HMI.out,fK_snoc,if_neg (fun h=>absurd (show(15:Int)=14 from h) (by decide))])
          have HF15:Hid (fK 15 (midI l (i+1))=fK 15 (midI l i)++[⟨(15:Int),[b0,b1],tx⟩]):=hid (by rw[HMI.out,fK_snoc,if_pos rfl])
          have HF16:Hid (fK 16 (midI l (i+1))=fK 16 (midI l i)):=hid (by rw[HMI.out,fK_snoc,if_neg (fun h=>absurd (show(15:Int)=16 from h) (by decide))])
          have HMAP:Hid ((fK 15 (midI l (i+1))).map deadOf=(fK 15 (midI l i)).map deadOf++[(b0,b1)]):=hid (by rw[HF15.out,List.map_append];show _++[deadOf ⟨(15:Int),[b0,b1],tx⟩]=_;rfl)
          clear hk2 HP
          go_wp2
          go_roundw
          case rel=>exact⟨i+1,uo,un,uc,o9,xn+1,c9,zo,zn,zc,by omega,HIX.out.2.2,by first|rfl|go_num,HOKP,hid (by rw[HF14.out];exact HUN.out),hid (by rw[HF15.out,List.length_append,HXN.out];rfl),hid (by rw[HF16.out];exact HZN.out),hid (by have h:=HS5.out;rw[←HMAP.out,←HF14.out,←HF16.out] at h;exact h)⟩
          case measure=>have:=HIX.out.2.2;simp[intOf];omega
        · have hln:ns.length=1:=right_len hra
          obtain⟨b0,rfl⟩:=len1_ex hln
          clear hln hra q1 q2
          simp only[List.length_cons,List.length_nil,Nat.reduceAdd,Nat.zero_add] at hrle a1
          obtain⟨ra,rfl⟩:=hrnn (by omega)
          clear hrnn
          have n0:=add_0 (HRC.out ra rfl 0 (by simp))
          simp only[List.getElem_cons_zero] at n0
          have HNS:=hid n0
          clear n0
          have HIN:=hid hin2
          have HOKP:=hid (HGOOD.out ⟨(show(14:Int)≤16 by decide),(show(16:Int)≤16 by decide),(show kp≤16 by omega),fun h=>absurd (show(16:Int)=14 from h) (by decide)⟩)
          clear HBAD HGOOD q3
          go_wp2_with fail
          clear a0 a1 z0 d1 d1' d2 d2' d3 d3'
          refine ParE.wp_region_e (l:=[_,_,_,_,_,_,_,_,_,_,_,_,_,_,_,_,_]) rfl (Rg.Ch [12,13,16] [216,217] (LdApQ wr 216 217 2 (cucells (tx,b0)) x5.heap.size 73 (zn+1) (.slice zo zn zc) (((fK 16 (midI l i)).map curOf).flatMap cucells++cucells (tx,b0)) (fun w'=>∃o9 c9,OwS x5 w' qb ⟨a0',a1',a2',a3',a4',(fK 14 (midI l i)).map liveOf,(fK 15 (midI l i)).map deadOf,(fK 16 (midI l i)).map curOf++[(tx,b0)],a5',a6'⟩ (.slice uo un uc) (.slice xo2 xn xc2) (.slice o9 (zn+1) c9)))) (ParC.VC [ParC.EQ (pv qb),ParC.EQ (Value.pointer (some ⟨qb,7,none⟩)),ParC.EQ (Value.slice zo zn zc),ParC.EQ (Value.slice (some g) n cap),ParC.EQ (Value.int IntKind.i64 (i:Int)),ParC.EQ (Value.pointer (some (g.add (i*3)))),ParC.EQ (Value.pointer (some ⟨(g.add (i*3)).block,(g.add (i*3)).off+2,none⟩)),ParC.EQ (Value.string (str tx)),ParC.EQ (Value.slice (some ra) 1 rc),ParC.EQ (Value.pointer (some ra)),ParC.EQ (uv b0),ParC.EQ (Value.agg #[.string (str tx),uv b0]),(fun _=>True),(fun _=>True),ParC.EQ (pv qb),ParC.EQ (Value.pointer (some ⟨qb,7,none⟩)),fun _=>True]) (by kernel_rfl) (by kernel_rfl) (Rg.Ch.start (Ext.draw _)) ?_ ?_
          · refine⟨fun L ρ w' hR hC hL hd hk=> ?_,?_⟩
            · obtain⟨k0,-⟩:=hk
              have e0:ρ (.tmp 7)=pv qb:=k0
              clear k0
              refine Par.val_k fun K hK=> ?_
              unfold Par.val
              (go_simp;exact hK _ _ ⟨hR.other (by decide),rfl⟩)
            refine⟨fun L ρ w' hR hC hL hd hk=> ?_,?_⟩
            · obtain⟨k0,-⟩:=hk
              have e0:ρ (.tmp 204)=pv qb:=k0
              clear k0
              refine Par.val_k fun K hK=> ?_
              unfold Par.val
              (go_simp;exact hK _ _ ⟨hR.other (by decide),rfl⟩)
            refine⟨fun L ρ w' hR hC hL hd hk=> ?_,?_⟩
            · obtain⟨k0,-⟩:=hk
              have e0:ρ (.tmp 205)=Value.pointer (some ⟨qb,7,none⟩):=k0
              clear k0
              refine Par.val_k fun K hK=> ?_
              unfold Par.val
              (obtain⟨i,hi,hq⟩:=hR.some 1 rfl (hC.notyet 13 2 hL (by kernel_rfl));have hx:=hq.ext hi;obtain⟨⟨-,-,-,-,-,-,-,cc,-,-⟩,-⟩:=blk10 (HS.out.ext hx).box;go_simp;exact hK _ _ ⟨hR.other (by decide),rfl⟩)
            refine⟨fun L ρ w' hR hC hL hd hk=> ?_,?_⟩
            · exact Par.val_of_run rfl ⟨hR.other (by decide),hk.1⟩
            refine⟨fun L ρ w' hR hC hL hd hk=> ?_,?_⟩
            · exact Par.val_of_run rfl ⟨hR.other (by decide),hk.1⟩
            refine⟨fun L ρ w' hR hC hL hd hk=> ?_,?_⟩
            · obtain⟨k0,k1,-⟩:=hk
              have e0:ρ (.tmp 207)=Value.slice (some g) n cap:=k0
              have e1:ρ (.tmp 208)=Value.int IntKind.i64 (i:Int):=k1
              clear k0 k1
              refine Par.val_k fun K hK=> ?_
              unfold Par.val
              (have hi9:=HIN.out;go_simp;exact hK _ _ ⟨hR.other (by decide),rfl⟩)
            refine⟨fun L ρ w' hR hC hL hd hk=> ?_,?_⟩
            · obtain⟨k0,-⟩:=hk
              have e0:ρ (.tmp 209)=Value.pointer (some (g.add (i*3))):=k0
              clear k0
              refine Par.val_k fun K hK=> ?_
              unfold Par.val
              (go_simp;exact hK _ _ ⟨hR.other (by decide),rfl⟩)
            refine⟨fun L ρ w' hR hC hL hd hk=> ?_,?_⟩
            · obtain⟨k0,-⟩:=hk
              have e0:ρ (.tmp 210)=Value.pointer (some ⟨(g.add (i*3)).block,(g.add (i*3)).off+2,none⟩):=k0
              clear k0
              refine Par.val_k fun K hK=> ?_
              unfold Par.val
              (obtain⟨i,hi,hq⟩:=hR.some 1 rfl (hC.notyet 13 7 hL (by kernel_rfl));have hx:=hq.ext hi;have cc:=hx.cell HA2.out;go_simp;exact hK _ _ ⟨hR.other (by decide),rfl⟩)
            refine⟨fun L ρ w' hR hC hL hd hk=> ?_,?_⟩
            · exact Par.val_of_run rfl ⟨hR.other (by decide),hk.1⟩
            refine⟨fun L ρ w' hR hC hL hd hk=> ?_,?_⟩
            · obtain⟨k0,k1,-⟩:=hk
              have e0:ρ (.tmp 212)=Value.slice (some ra) 1 rc:=k0
              have e1:ρ (Operand.const (Value.int IntKind.i64 0))=(Value.int IntKind.i64 0):=k1
              clear k0 k1
              refine Par.val_k fun K hK=> ?_
              unfold Par.val
              (go_simp;exact hK _ _ ⟨hR.other (by decide),rfl⟩)
            refine⟨fun L ρ w' hR hC hL hd hk=> ?_,?_⟩
            · obtain⟨k0,-⟩:=hk
              have e0:ρ (.tmp 213)=Value.pointer (some ra):=k0
              clear k0
              refine Par.val_k fun K hK=> ?_
              unfold Par.val
              (obtain⟨i,hi,hq⟩:=hR.some 1 rfl (hC.notyet 13 10 hL (by kernel_rfl));have hx:=hq.ext hi;have cc:=hx.cell HNS.out;go_simp;exact hK _ _ ⟨hR.other (by decide),rfl⟩)
            refine⟨fun L ρ w' hR hC hL hd hk=> ?_,?_⟩
            · obtain⟨k0,k1,-⟩:=hk
              have e0:ρ (.tmp 211)=Value.string (str tx):=k0
              have e1:ρ (.tmp 214)=uv b0:=k1
              clear k0 k1
              refine Par.val_k fun K hK=> ?_
              unfold Par.val
              (go_simp;exact hK _ _ ⟨hR.other (by decide),rfl⟩)
            refine⟨fun L ρ w' hR hC hL hd hk=> ?_,?_⟩
            · obtain⟨k0,-⟩:=hk
              have e0:ρ (.tmp 215)=Value.agg #[.string (str tx),uv b0]:=k0
              clear k0
              refine Par.val_k fun K hK=> ?_
              unfold Par.val
              (obtain⟨hq,hs⟩:=hR.go 0 rfl hL (.inl rfl) (by decide);have hx:Ext wr w':=hq;go_simp;exact hK _ _ ⟨hs _ _ _ ⟨hx.trans (Ext.alloc _ _),one_row _ 73 (cucells (tx,b0)) 2 rfl⟩,trivial⟩)
            refine⟨fun L ρ w' hR hC hL hd hk=> ?_,?_⟩
            · obtain⟨k0,k1,-⟩:=hk
              have e0:ρ (.tmp 206)=Value.slice zo zn zc:=k0
              have e1:(fun _=>True) (ρ (.tmp 216)):=k1
              clear k0 k1
              refine Par.val_k fun K hK=> ?_
              unfold Par.val
              (obtain⟨hq,hs⟩:=hR.go 1 rfl hL (.inr ⟨12,rfl,hC.before 12 (i:=13) rfl hd (by kernel_rfl)⟩) (by decide);obtain⟨hx,hsl⟩:=hq;have hsl2:Sl w' 2 (ρ (.tmp 216)) 1 (cucells (tx,b0)):=hsl;have hown:w'.ownsRow x5.heap.size 73 2 (.slice zo zn zc) ((fK 16 (midI l i)).map curOf).length (((fK 16 (midI l i)).map curOf).flatMap cucells):=(HS.out.ext hx).cu;rw[List.length_map,←HZN.out] at hown;obtain⟨a9,c9,w9,r1,r2,r3,r4⟩:=run_append_sl (P:=Tryd.prog) x5.heap.size 35 35 73 Tryd.underlying35 infoRCu rfl (by decide) hown hsl2 (by intro y hy;simp[itcells,ddcells,cucells] at hy;rcases hy with rfl|rfl<;>rfl) (by have:=HBN.out;simp[maxLen];omega) (by have:=HBN.out;omega) (HS.out.ext hx).low.size;rw[←e0] at r1;exact Par.val_append r1 (hK _ _ ⟨hs _ _ _ ⟨w',hx,⟨a9,c9,rfl⟩,r2,r3,r4⟩,trivial⟩))
            refine⟨fun L ρ w' hR hC hL hd hk=> ?_,?_⟩
            · obtain⟨k0,-⟩:=hk
              have e0:ρ (.tmp 7)=pv qb:=k0
              clear k0
              refine Par.val_k fun K hK=> ?_
              unfold Par.val
              (go_simp;exact hK _ _ ⟨hR.other (by decide),rfl⟩)
            refine⟨fun L ρ w' hR hC hL hd hk=> ?_,?_⟩
            · obtain⟨k0,-⟩:=hk
              have e0:ρ (.tmp 218)=pv qb:=k0
              clear k0
              refine Par.val_k fun K hK=> ?_
              unfold Par.val
              (go_simp;exact hK _ _ ⟨hR.other (by decide),rfl⟩)
            refine⟨fun L ρ w' hR hC hL hd hk=> ?_,?_⟩
            · obtain⟨k0,k1,-⟩:=hk
              have e0:ρ (.tmp 219)=Value.pointer (some ⟨qb,7,none⟩):=k0
              have e1:(fun _=>True) (ρ (.tmp 217)):=k1
              clear k0 k1
              refine Par.val_k fun K hK=> ?_
              unfold Par.val
              (obtain⟨hq,hs⟩:=hR.go 2 rfl hL (.inr ⟨13,rfl,hC.before 13 (i:=16) rfl hd (by kernel_rfl)⟩) (by decide);obtain⟨W2,hx,⟨o9,c9,h33⟩,ho,hg,hb⟩:=hq;have s33:ρ (.tmp 217)= .slice o9 (zn+1) c9:=h33;have ho2:w'.ownsRow x5.heap.size 73 2 (ρ (.tmp 217)) (zn+1) (((fK 16 (midI l i)).map curOf).flatMap cucells++cucells (tx,b0)):=ho;rw[s33] at ho2;obtain⟨hL9,cc,ff⟩:=(HS.out.ext hx).addC (tx,b0) ho2 (by rw[List.length_map,HZN.out]) hg hb;have HL9:=hid hL9;clear h33 ho ho2 hg hb hL9 hx;go_simp;exact hK _ _ ⟨hs none _ _ ⟨o9,c9,HL9.out⟩,trivial⟩)
            trivial
          intro a' w' inv hR
          have q204:a'.tmps.getD 204 undef=pv qb:=inv.done 0 _ 204 rfl rfl rfl
          have q205:a'.tmps.getD 205 undef=Value.pointer (some ⟨qb,7,none⟩):=inv.done 1 _ 205 rfl rfl rfl
          have q206:a'.tmps.getD 206 undef=Value.slice zo zn zc:=inv.done 2 _ 206 rfl rfl rfl
          have q207:a'.tmps.getD 207 undef=Value.slice (some g) n cap:=inv.done 3 _ 207 rfl rfl rfl
          have q208:a'.tmps.getD 208 undef=Value.int IntKind.i64 (i:Int):=inv.done 4 _ 208 rfl rfl rfl
          have q209:a'.tmps.getD 209 undef=Value.pointer (some (g.add (i*3))):=inv.done 5 _ 209 rfl rfl rfl
          have q210:a'.tmps.getD 210 undef=Value.pointer (some ⟨(g.add (i*3)).block,(g.add (i*3)).off+2,none⟩):=inv.done 6 _ 210 rfl rfl rfl
          have q211:a'.tmps.getD 211 undef=Value.string (str tx):=inv.done 7 _ 211 rfl rfl rfl
          have q212:a'.tmps.getD 212 undef=Value.slice (some ra) 1 rc:=inv.done 8 _ 212 rfl rfl rfl
          have q213:a'.tmps.getD 213 undef=Value.pointer (some ra):=inv.done 9 _ 213 rfl rfl rfl
          have q214:a'.tmps.getD 214 undef=uv b0:=inv.done 10 _ 214 rfl rfl rfl
          have q215:a'.tmps.getD 215 undef=Value.agg #[.string (str tx),uv b0]:=inv.done 11 _ 215 rfl rfl rfl
          have q216:(fun _=>True) (a'.tmps.getD 216 undef):=inv.done 12 _ 216 rfl rfl rfl
          have q217:(fun _=>True) (a'.tmps.getD 217 undef):=inv.done 13 _ 217 rfl rfl rfl
          have q218:a'.tmps.getD 218 undef=pv qb:=inv.done 14 _ 218 rfl rfl rfl
          have q219:a'.tmps.getD 219 undef=Value.pointer (some ⟨qb,7,none⟩):=inv.done 15 _ 219 rfl rfl rfl
          clear inv
          simp only[List.filterMap_cons,List.filterMap_nil,Par.putAll,Act.put,List.setIfInBounds_toArray,List.set_cons_succ,List.set_cons_zero,q204,q205,q206,q207,q208,q209,q210,q211,q212,q213,q214,q215,q218,q219]
          clear q204 q205 q206 q207 q208 q209 q210 q211 q212 q213 q214 q215 q218 q219
          have hp:=Rg.Ch.fin hR (by decide) 3 rfl;have HP:=hid hp;clear hp hR
          generalize a'.tmps.getD 216 undef=u216 at*
          generalize a'.tmps.getD 217 undef=u217 at*
          try clear a'
          obtain⟨o9,c9,hk2⟩:=HP.out
          have HS5:=hid hk2
          have HF14:Hid (fK 14 (midI l (i+1))=fK 14 (midI l i)):=hid (by rw[HMI.out,fK_snoc,if_neg (fun h=>absurd (show(16:Int)=14 from h) (by decide))])
          have HF15:Hid (fK 15 (midI l (i+1))=fK 15 (midI l i)):=hid (by rw[HMI.out,fK_snoc,if_neg (fun h=>absurd (show(16:Int)=15 from h) (by decide))])
          have HF16:Hid (fK 16 (midI l (i+1))=fK 16 (midI l i)++[⟨(16:Int),[b0],tx⟩]):=hid (by rw[HMI.out,fK_snoc,if_pos rfl])
          have HMAP:Hid ((fK 16 (midI l (i+1))).map curOf=(fK 16 (midI l i)).map curOf++[(tx,b0)]):=hid (by rw[HF16.out,List.map_append];show _++[curOf ⟨(16:Int),[b0],tx⟩]=_;rfl)
          clear hk2 HP
          go_wp2
          go_roundw
          case rel=>exact⟨i+1,uo,un,uc,xo2,xn,xc2,o9,zn+1,c9,by omega,HIX.out.2.2,by first|rfl|go_num,HOKP,hid (by rw[HF14.out];exact HUN.out),hid (by rw[HF15.out];exact HXN.out),hid (by rw[HF16.out,List.length_append,HZN.out];rfl),hid (by have h:=HS5.out;rw[←HMAP.out,←HF14.out,←HF15.out] at h;exact h)⟩
          case measure=>have:=HIX.out.2.2;simp[intOf];omega
      have hkf:decide ((i:Int)<(n1:Int))=false:=by simp;omega
      have hkf2:(i<n1)=False:=by simp;omega
      obtain rfl:n1=i:=by omega
      have hfin:loadR l=some ⟨a0',a1',a2',a3',a4',(fK 14 (midI l n1)).map liveOf,(fK 15 (midI l n1)).map deadOf,(fK 16 (midI l n1)).map curOf,a5',a6'⟩:=by
        have h:=load_good HALL.out (by rw[HLN.out];have:=H2.out;omega) (by rw[HGA.out]) (by rw[HGB.out]) (by rw[HGB.out,HLN.out,HN1.out,Nat.add_sub_cancel,HKK.out];rfl) (fun j h1 h2=>HOK.out j h1 (by rw[HLN.out] at h2;have:=HN1.out;omega))
        rw[HGA.out,HLN.out,HN1.out] at h
        rw[h]
        rfl
      have HF:=hid hfin
      have HB8:=hid HS.out.box
      have HXS:=hid (HX5.out.trans HS.out.low)
      have HR8:=hid (HXS.out.obj HB0.out)
      have HB9:Hid (wr.heap[qb]? =some (.cells #[uv a0',uv a1',uv a2',uv a3',uv a4',.slice uo un uc,.slice xo2 xn xc2,.slice zo zn zc,uv a5',uv a6'] 39 (0,0))):=hid HB8.out
      clear hfin HB8 hlt
      go_wp2_with (first|(refine wpList_load_row rfl 39 (.tmp 7) rfl qb rfl 39 #[uv a0',uv a1',uv a2',uv a3',uv a4',.slice uo un uc,.slice xo2 xn xc2,.slice zo zn zc,uv a5',uv a6'] (0,0) _ HB9.out Tryd.underlying39 rfl (by kernel_rfl) ?_)|(refine wpList_store_row rfl 39 (.tmp 2) (.tmp 220) rfl w.heap.size #[uv a0',uv a1',uv a2',uv a3',uv a4',.slice uo un uc,.slice xo2 xn xc2,.slice zo zn zc,uv a5',uv a6'] rfl rfl 39 _ HR8.out (by kernel_rfl) rfl (by simp[Value.oneCell']) ?_)|(refine bodyPost_ret (rld_results _ _ w.heap.size _ _ _ _ _ _ _ _ _ _ 0 rfl rfl (setRow_heap _ _ _ _ _ _ HR8.out)) rfl ?_;unfold LdP;rw[HF.out];exact⟨⟨_,_,_,rfl,HS.out.frB (setRow_frS _ _ _) (by simp;exact HLT0.out)⟩,(HE0.out.trans HXS.out).below ((setRow_frS _ _ _).below (by simp) (HE0.out.trans HXS.out).size)⟩))
end Go.Proofs.YtpbmbjdiilnaeaaDoor

set_option linter.unusedSimpArgs false
set_option linter.unusedVariables false
set_option maxRecDepth 100000
namespace Go.Proofs.YtpbmbjdiilnaeaaDoor
open Go Go.RowKit Go.Tum Go.ChangeMaps Go.Sort Go.Tum.Vint Go.Tum.Crc

theorem fld_state (v0 v1 v2 v3 v4 v5 v6 v7 v8 v9:Value) (w:World):(Instr.field 39 (.agg #[v0,v1,v2,v3,v4,v5,v6,v7,v8,v9]) 0).run Tryd.prog w= .ok (.agg #[v0,v1,v2,v3,v4,v5,v6,v7]) w:=by kernel_rfl
theorem snp_shape {w:World} {s:Snp} {vi vd vc:Value} (h:SnpIn w s vi vd vc):∃io ic do_ dc co cc,vi= .slice io s.items.length ic∧vd= .slice do_ s.dead.length dc∧vc= .slice co s.curs.length cc:=by
  obtain⟨io,ic,rfl,-⟩:=h.it.open
  obtain⟨do_,dc,rfl,-⟩:=h.dd.open
  obtain⟨co,cc,rfl,-⟩:=h.cu.open
  exact⟨_,_,_,_,_,_,rfl,rfl,rfl⟩
/-- What both Saves answer,what both Loads answer. -/
def svL (s:Snp):List Rc:=if rightS s=true then saveR s else[]
def svE (s:Snp):Int:=if rightS s=true then 0 else 1
def ldS (l:List Rc):Snp:=(loadR l).getD snp0
def ldE (l:List Rc):Int:=if(loadR l).isSome=true then 0 else 2
theorem rcs_nilT (w:World):Rcs w (.slice none 0 0) []:=⟨[],rfl,⟨fun _ _=>rfl,Sl.nil w 3⟩,fun p hp=>absurd hp (by simp)⟩
theorem snp0_in (w:World):SnpIn w snp0 (.slice none 0 0) (.slice none 0 0) (.slice none 0 0):=⟨⟨fun _ _=>rfl,Sl.nil w 10⟩,⟨fun _ _=>rfl,Sl.nil w 2⟩,⟨fun _ _=>rfl,Sl.nil w 2⟩⟩
theorem save_both (s:Snp) (vi vd vc:Value) (w:World) (h:SnpIn w s vi vd vc) (hl:s.items.length≤100000∧s.dead.length≤100000∧s.curs.length≤100000):
    Calls Tryd.prog 10 #[.agg (snpC s vi vd vc)] w fun e w'=>(∃v,e= .returned (.tuple #[v,.int .i64 (svE s)])∧Rcs w' v (svL s))∧Ext w w':=by
  refine(save_any s vi vd vc w h hl).mono ?_
  rintro e w' ⟨h1,h2⟩
  refine⟨?_,h2⟩
  unfold svE svL
  by_cases hr:rightS s=true
  · rw[if_pos hr] at h1
    rw[if_pos hr,if_pos hr]
    obtain⟨v,e1,e2⟩:=h1
    exact⟨v,e1,e2.rcs⟩
  · rw[if_neg hr] at h1
    rw[if_neg hr,if_neg hr]
    exact⟨_,h1,rcs_nilT _⟩
theorem rsave_both (s:Snp) (vi vd vc:Value) (w:World) (h:SnpIn w s vi vd vc) (hl:s.items.length≤100000∧s.dead.length≤100000∧s.curs.length≤100000):
    Calls Tryd.prog 11 #[.agg (snpC s vi vd vc)] w fun e w'=>(∃v,e= .returned (.tuple #[v,.int .i64 (svE s)])∧Rcs w' v (svL s))∧Ext w w':=by
  refine(rsave_any s vi vd vc w h hl).mono ?_
  rintro e w' ⟨h1,h2⟩
  refine⟨?_,h2⟩
  unfold svE svL
  by_cases hr:rightS s=true
  · rw[if_pos hr] at h1
    rw[if_pos hr,if_pos hr]
    obtain⟨v,e1,e2⟩:=h1
    exact⟨v,e1,e2.rcs⟩
  · rw[if_neg hr] at h1
    rw[if_neg hr,if_neg hr]
    exact⟨_,h1,rcs_nilT _⟩
theorem LdP.both {w w':World} {l:List Rc} {e:Ending} (h:LdP w l e w'):(∃vi vd vc,e= .returned (.tuple #[.agg (snpC (ldS l) vi vd vc),.int .i64 (ldE l)])∧SnpIn w' (ldS l) vi vd vc)∧Ext w w':=by
  unfold LdP at h
  unfold ldS ldE
  refine⟨?_,h.2⟩
  have h1:=h.1
  cases hq:loadR l with
  |none=>
    rw[hq] at h1
    exact⟨_,_,_,h1,snp0_in _⟩
  |some u=>
    rw[hq] at h1
    exact h1
theorem ldS_len {l:List Rc} (h:l.length≤300):(ldS l).items.length≤300∧(ldS l).dead.length≤300∧(ldS l).curs.length≤300:=by
  unfold ldS
  cases hq:loadR l with
  |none=>simp[snp0]
  |some u=>
    have h2:=(load_some hq).2
    have h3:=congrArg List.length h2
    unfold saveR bodyR at h3
    simp only[List.length_append,List.length_map,List.length_cons,List.length_nil] at h3
    show u.items.length≤300∧u.dead.length≤300∧u.curs.length≤300
    omega
theorem rcs_shape {w:World} {v:Value} {l:List Rc} (h:Rcs w v l):∃o n c,v= .slice o n c:=by
  obtain⟨m,_,hr,-⟩:=h
  obtain⟨ao,cap,rfl,-⟩:=hr.open
  exact⟨_,_,_,rfl⟩
set_option maxHeartbeats 4000000 in
theorem snapTells_law (s:Snp) (vi vd vc lv:Value) (l:List Rc) (w:World) (h:SnpIn w s vi vd vc) (hl:Rcs w lv l) (ht:Tab w)
    (hz:s.items.length*80≤140737488355328∧s.dead.length*16≤140737488355328∧s.curs.length*24≤140737488355328):
    Calls Tryd.prog 3 #[.agg (snpC s vi vd vc),lv] w fun e w'=>e= .returned (.bool true)∧Ext w w':=by
  have HS0:=hid h
  have HRL:=hid hl
  have HT:=hid ht
  have HZ:=hid hz
  obtain⟨io,ic,do_,dc,co,cc,rfl,rfl,rfl⟩:=snp_shape h
  obtain⟨lo,lc,nl,rfl⟩:∃lo lc nl,lv= .slice lo nl lc:=by
    obtain⟨ml,hml,hr,-⟩:=hl
    obtain⟨ao,cap,rfl,-⟩:=hr.open
    exact⟨_,_,_,rfl⟩
  obtain⟨n,hn⟩:∃n,s.items.length=n:=⟨_,rfl⟩
  obtain⟨nd,hnd⟩:∃n,s.dead.length=n:=⟨_,rfl⟩
  obtain⟨m,hm⟩:∃n,s.curs.length=n:=⟨_,rfl⟩
  rw[hn,hnd,hm] at HS0⊢
  have HN:=hid hn
  have HND:=hid hnd
  have HM:=hid hm
  obtain⟨now,hnow⟩:∃x,s.now=x:=⟨_,rfl⟩
  obtain⟨next,hnext⟩:∃x,s.next=x:=⟨_,rfl⟩
  obtain⟨lea,hlea⟩:∃x,s.lea=x:=⟨_,rfl⟩
  obtain⟨trn,htrn⟩:∃x,s.trn=x:=⟨_,rfl⟩
  obtain⟨dth,hdth⟩:∃x,s.dth=x:=⟨_,rfl⟩
  obtain⟨sg,hsg⟩:∃x,s.seg=x:=⟨_,rfl⟩
  obtain⟨ps,hps⟩:∃x,s.ps=x:=⟨_,rfl⟩
  have HCE:Hid (∀a b c,snpC s a b c= #[uv now,uv next,uv lea,uv trn,uv dth,a,b,c,uv sg,uv ps]):=hid (fun a b c=>by unfold snpC;rw[hnow,hnext,hlea,htrn,hdth,hsg,hps])
  rw[HCE.out]
  obtain⟨W0,hW0⟩:∃W,w.alloc (.cells #[uv now,uv next,uv lea,uv trn,uv dth,.slice io n ic,.slice do_ nd dc,.slice co m cc,uv sg,uv ps] 29 (0,0))=W:=⟨_,rfl⟩
  have hE0:=Ext.alloc w (.cells #[uv now,uv next,uv lea,uv trn,uv dth,.slice io n ic,.slice do_ nd dc,.slice co m cc,uv sg,uv ps] 29 (0,0))
  have hb0:=heap_alloc_new w (.cells #[uv now,uv next,uv lea,uv trn,uv dth,.slice io n ic,.slice do_ nd dc,.slice co m cc,uv sg,uv ps] 29 (0,0))
  rw[hW0] at hE0 hb0
  have HE0:=hid hE0
  have HB0:=hid hb0
  have HC:=hid (awake13_any W0 (HT.out.ext hE0))
  have hfs:=fld_state
  clear h hl ht hz hn hnd hm hnow hnext hlea htrn hdth hsg hps hE0 hb0
  go_enter Tryd.func3,Tryd.ntmps3
  go_wp2_with (first|rw[hW0]|fail)
  refine HC.out.mono ?_
  rintro e w1 ⟨rfl,hx⟩
  have HE1:=hid (HE0.out.trans hx)
  have HB1:=hid (hx.obj HB0.out)
  obtain⟨p0,hp0⟩:∃p,w.heap.size=p:=⟨_,rfl⟩
  rw[hp0] at HB1
  try rw[hp0]
  clear hx HC hW0 HB0 hp0
  have hc:=own13_any s _ _ _ w1 (HS0.out.ext HE1.out) HZ.out
  rw[HCE.out] at hc
  have HC:=hid hc
  obtain⟨⟨b0,b1,b2,b3,b4,b5,b6,b7,b8,b9⟩,-⟩:=blk10 HB1.out
  clear hc
  go_wp2_with fail
  refine HC.out.mono ?_
  rintro e w2 ⟨⟨ui,ud,uc,rfl,hin⟩,hx⟩
  obtain⟨oi,c1,od,c2,oc,c3,rfl,rfl,rfl⟩:=snp_shape hin
  rw[HCE.out,HN.out,HND.out,HM.out]
  rw[HN.out,HND.out,HM.out] at hin
  have HE2:=hid (HE1.out.trans hx)
  have HB2:=hid (hx.obj HB1.out)
  have HC:=hid (rlarge13_any now next lea trn dth n nd m oi od oc c1 c2 c3 s.curs w2 hin.cu HM.out)
  clear hin hx b0 b1 b2 b3 b4 b5 b6 b7 b8 b9 HB1 HE1
  go_wp2_with (first|rw[hfs]|fail)
  refine HC.out.mono ?_
  rintro e w3 ⟨⟨r,rfl,hr⟩,hx⟩
  have HE3:=hid (HE2.out.trans hx)
  have HB3:=hid (hx.obj HB2.out)
  clear hx HC HB2 HE2
  cases r
  case true=>
    go_wp2
    go_returns
    exact⟨rfl,HE3.out⟩
  have HSM:Hid (n≤220∧nd≤220∧m≤20):=hid (hr.out rfl)
  clear hr
  have HC:=hid (large13_any _ l w3 (HRL.out.ext HE3.out))
  go_wp2_with fail
  refine HC.out.mono ?_
  rintro e w4 ⟨⟨r,rfl,hr⟩,hx⟩
  have HE4:=hid (HE3.out.trans hx)
  have HB4:=hid (hx.obj HB3.out)
  clear hx HC HB3 HE3
  cases r
  case true=>
    go_wp2
    go_returns
    exact⟨rfl,HE4.out⟩
  have HLL:Hid (l.length≤300):=hid (hr.out rfl)
  clear hr
  have HSZ:Hid (s.items.length≤100000∧s.dead.length≤100000∧s.curs.length≤100000):=hid (by have:=HSM.out;rw[HN.out,HND.out,HM.out];omega)
  obtain⟨⟨b0,b1,b2,b3,b4,b5,b6,b7,b8,b9⟩,-⟩:=blk10 HB4.out
  have hsv:=save_both s _ _ _ w4 (HS0.out.ext HE4.out) HSZ.out
  obtain⟨LL,hLL⟩:∃x,svL s=x:=⟨_,rfl⟩
  obtain⟨EE,hEE⟩:∃x,svE s=x:=⟨_,rfl⟩
  have HLLE:=hid (And.intro hLL hEE)
  have HLLn:Hid (LL.length≤1000):=hid (by
    rw[←hLL]
    have h1:=HSM.out
    have h2:=HN.out
    have h3:=HND.out
    have h4:=HM.out
    unfold svL
    split
    · unfold saveR bodyR
      simp only[List.length_append,List.length_map,List.length_cons,List.length_nil]
      omega
    · simp)
  rw[HCE.out,hLL,hEE] at hsv
  have HC:=hid hsv
  clear hsv hLL hEE
  go_wp2_with fail
  refine HC.out.mono ?_
  rintro e w5 ⟨⟨vp,rfl,hp⟩,hx⟩
  obtain⟨po,pn,pc,rfl⟩:=rcs_shape hp
  have HE5:=hid (HE4.out.trans hx)
  have HB5:=hid (hx.obj HB4.out)
  have HP5:=hid hp
  clear hp hx HC b0 b1 b2 b3 b4 b5 b6 b7 b8 b9 HB4
  obtain⟨⟨b0,b1,b2,b3,b4,b5,b6,b7,b8,b9⟩,-⟩:=blk10 HB5.out
  have hc:=own13_any s _ _ _ w5 (HS0.out.ext HE5.out) HZ.out
  rw[HCE.out] at hc
  have HC:=hid hc
  clear hc
  go_wp2_with fail
  refine HC.out.mono ?_
  rintro e w6 ⟨⟨ui2,ud2,uc2,rfl,hin⟩,hx⟩
  obtain⟨oi2,c12,od2,c22,oc2,c32,rfl,rfl,rfl⟩:=snp_shape hin
  have hc:=rsave_both s _ _ _ w6 hin HSZ.out
  rw[HCE.out,HLLE.out.1,HLLE.out.2,HN.out,HND.out,HM.out] at hc
  rw[HCE.out,HN.out,HND.out,HM.out]
  have HE6:=hid (HE5.out.trans hx)
  have HB6:=hid (hx.obj HB5.out)
  have HP6:=hid (HP5.out.ext hx)
  have HC:=hid hc
  clear hc hin hx b0 b1 b2 b3 b4 b5 b6 b7 b8 b9 HB5 HP5
  go_wp2_with fail
  refine HC.out.mono ?_
  rintro e w7 ⟨⟨vq,rfl,hq⟩,hx⟩
  obtain⟨qo,qn,qc,rfl⟩:=rcs_shape hq
  have HE7:=hid (HE6.out.trans hx)
  have HB7:=hid (hx.obj HB6.out)
  have HP7:=hid (HP6.out.ext hx)
  have HQ7:=hid hq
  clear hq hx HC HB6 HP6
  have HC:=hid ((load_any _ l w7 (HRL.out.ext HE7.out) (by have:=HLL.out;omega) (HT.out.ext HE7.out)).mono fun e w' h=>LdP.both h)
  have HUL:=hid (ldS_len HLL.out)
  obtain⟨U,hU⟩:∃u,ldS l=u:=⟨_,rfl⟩
  obtain⟨GG,hG⟩:∃g,ldE l=g:=⟨_,rfl⟩
  have HUG:=hid (And.intro hU hG)
  rw[hU,hG] at HC
  rw[hU] at HUL
  clear hU hG
  go_wp2_with fail
  refine HC.out.mono ?_
  rintro e w8 ⟨⟨xi,xd,xc,rfl,hin⟩,hx⟩
  obtain⟨yi,y1,yd,y2,yc,y3,rfl,rfl,rfl⟩:=snp_shape hin
  obtain⟨u0,hu0⟩:∃x,U.now=x:=⟨_,rfl⟩
  obtain⟨u1,hu1⟩:∃x,U.next=x:=⟨_,rfl⟩
  obtain⟨u2,hu2⟩:∃x,U.lea=x:=⟨_,rfl⟩
  obtain⟨u3,hu3⟩:∃x,U.trn=x:=⟨_,rfl⟩
  obtain⟨u4,hu4⟩:∃x,U.dth=x:=⟨_,rfl⟩
  obtain⟨u5,hu5⟩:∃x,U.seg=x:=⟨_,rfl⟩
  obtain⟨u6,hu6⟩:∃x,U.ps=x:=⟨_,rfl⟩
  obtain⟨j1,hj1⟩:∃x,U.items.length=x:=⟨_,rfl⟩
  obtain⟨j2,hj2⟩:∃x,U.dead.length=x:=⟨_,rfl⟩
  obtain⟨j3,hj3⟩:∃x,U.curs.length=x:=⟨_,rfl⟩
  have HUE:Hid (∀a b c,snpC U a b c= #[uv u0,uv u1,uv u2,uv u3,uv u4,a,b,c,uv u5,uv u6]):=hid (fun a b c=>by unfold snpC;rw[hu0,hu1,hu2,hu3,hu4,hu5,hu6])
  have HK:=hid (And.intro hj1 (And.intro hj2 hj3))
  rw[hj1,hj2,hj3] at hin⊢
  rw[HUE.out]
  clear hu0 hu1 hu2 hu3 hu4 hu5 hu6 hj1 hj2 hj3
  obtain⟨W9,hW9⟩:∃W,w8.alloc (.cells #[uv u0,uv u1,uv u2,uv u3,uv u4,.slice yi j1 y1,.slice yd j2 y2,.slice yc j3 y3,uv u5,uv u6] 29 (0,0))=W:=⟨_,rfl⟩
  have hE9:=Ext.alloc w8 (.cells #[uv u0,uv u1,uv u2,uv u3,uv u4,.slice yi j1 y1,.slice yd j2 y2,.slice yc j3 y3,uv u5,uv u6] 29 (0,0))
  have hb9:=heap_alloc_new w8 (.cells #[uv u0,uv u1,uv u2,uv u3,uv u4,.slice yi j1 y1,.slice yd j2 y2,.slice yc j3 y3,uv u5,uv u6] 29 (0,0))
  rw[hW9] at hE9 hb9
  have HE9:=hid (HE7.out.trans (hx.trans hE9))
  have HB9:=hid ((hx.trans hE9).obj HB7.out)
  have HP9:=hid (HP7.out.ext (hx.trans hE9))
  have HQ9:=hid (HQ7.out.ext (hx.trans hE9))
  have HU9:=hid (hin.ext hE9)
  obtain⟨p9,hp9⟩:∃p,w8.heap.size=p:=⟨_,rfl⟩
  rw[hp9] at hb9
  have HV9:=hid hb9
  have HC:=hid (owns13_any _ l W9 (HRL.out.ext HE9.out) (by have:=HLL.out;omega))
  clear hin hx HC hE9 hb9 HB7 HP7 HQ7
  have HC:=hid (owns13_any _ l W9 (HRL.out.ext HE9.out) (by have:=HLL.out;omega))
  go_wp2_with (first|rw[hW9]|fail)
  clear hW9
  refine HC.out.mono ?_
  rintro e w10 ⟨⟨vo,rfl,ho⟩,hx⟩
  obtain⟨lo2,ln2,lc2,rfl⟩:=rcs_shape ho
  try rw[hp9]
  clear hp9
  have HE10:=hid (HE9.out.trans hx)
  have HB10:=hid (hx.obj HB9.out)
  have HP10:=hid (HP9.out.ext hx)
  have HQ10:=hid (HQ9.out.ext hx)
  have HU10:=hid (HU9.out.ext hx)
  have HV10:=hid (hx.obj HV9.out)
  clear HC
  have HC:=hid ((rload_any _ l w10 ho (by have:=HLL.out;omega)).mono fun e w' h=>LdP.both h)
  rw[HUG.out.1,HUG.out.2] at HC
  clear ho hx HB9 HP9 HQ9 HU9 HV9
  go_wp2_with fail
  refine HC.out.mono ?_
  rintro e w11 ⟨⟨xi2,xd2,xc2,rfl,hin⟩,hx⟩
  obtain⟨zi,z1,zd,z2,zc,z3,rfl,rfl,rfl⟩:=snp_shape hin
  rw[HK.out.1,HK.out.2.1,HK.out.2.2] at hin⊢
  rw[HUE.out]
  obtain⟨W12,hW12⟩:∃W,w11.alloc (.cells #[uv u0,uv u1,uv u2,uv u3,uv u4,.slice zi j1 z1,.slice zd j2 z2,.slice zc j3 z3,uv u5,uv u6] 39 (0,0))=W:=⟨_,rfl⟩
  have hE12:=Ext.alloc w11 (.cells #[uv u0,uv u1,uv u2,uv u3,uv u4,.slice zi j1 z1,.slice zd j2 z2,.slice zc j3 z3,uv u5,uv u6] 39 (0,0))
  have hb12:=heap_alloc_new w11 (.cells #[uv u0,uv u1,uv u2,uv u3,uv u4,.slice zi j1 z1,.slice zd j2 z2,.slice zc j3 z3,uv u5,uv u6] 39 (0,0))
  rw[hW12] at hE12 hb12
  have HE12:=hid (HE10.out.trans (hx.trans hE12))
  have HB12:=hid ((hx.trans hE12).obj HB10.out)
  have HP12:=hid (HP10.out.ext (hx.trans hE12))
  have HQ12:=hid (HQ10.out.ext (hx.trans hE12))
  have HU12:=hid (HU10.out.ext (hx.trans hE12))
  have HV12:=hid ((hx.trans hE12).obj HV10.out)
  have HR12:=hid (hin.ext hE12)
  obtain⟨p12,hp12⟩:∃p,w11.heap.size=p:=⟨_,rfl⟩
  rw[hp12] at hb12
  have HX12:=hid hb12
  clear hin hx HC hE12 hb12 HB10 HP10 HQ10 HU10 HV10
  go_wp2_with (first|rw[hW12]|fail)
  clear hW12
  try rw[hp12]
  clear hp12
  refine Par.wp_region_par (l:=[_,_,_,_,_,_,_,_,_,_,_,_,_,_,_,_,_,_,_,_,_,_,_,_,_,_,_,_,_,_,_,_,_]) rfl Ext (Par.VL [Par.EQ (Value.slice po pn pc),(fun v w'=>Rcs w' v LL),Par.EQ (Value.slice qo qn qc),Par.EQ (Value.bool true),Par.EQ (Value.bool true),Par.EQ (Value.int IntKind.i64 EE),Par.EQ (Value.int IntKind.i64 EE),Par.EQ (Value.bool true),Par.EQ (Value.bool true),Par.EQ (Value.bool true),Par.EQ (Value.agg #[uv u0,uv u1,uv u2,uv u3,uv u4,.slice yi j1 y1,.slice yd j2 y2,.slice yc j3 y3,uv u5,uv u6]),(fun v w'=>∃a b c,v= .agg (snpC U a b c)∧SnpIn w' U a b c),Par.EQ (Value.agg #[uv u0,uv u1,uv u2,uv u3,uv u4,.slice zi j1 z1,.slice zd j2 z2,.slice zc j3 z3,uv u5,uv u6]),Par.EQ (Value.bool true),Par.EQ (Value.bool true),Par.EQ (Value.bool true),Par.EQ (Value.int IntKind.i64 GG),Par.EQ (Value.int IntKind.i64 GG),Par.EQ (Value.bool true),Par.EQ (Value.bool true),Par.EQ (Value.bool true),Par.EQ (pv p0),Par.EQ (Value.pointer (some ⟨p0,5,none⟩)),Par.EQ (Value.slice io n ic),(fun v w'=>Vec uv w' v (segsOf s.items)),Par.EQ (pv p0),Par.EQ (Value.pointer (some ⟨p0,5,none⟩)),Par.EQ (Value.slice io n ic),(fun v w'=>Its w' v s.items),(fun v w'=>Vec uv w' v (segsOf s.items)),Par.EQ (Value.bool true),Par.EQ (Value.bool true),Par.EQ (Value.bool true)]) (by kernel_rfl) Ext.refl (fun _ _ _ h1 h2=>Ext.trans h1 h2) (Ext.draw _) (Par.VL_stab ?_) ?_ ?_
  · simp only[List.forall_mem_cons,List.not_mem_nil,false_implies,implies_true,and_true]
    refine⟨fun _ _ _ _ h=>h,fun _ _ _ k h=>h.ext k,fun _ _ _ _ h=>h,fun _ _ _ _ h=>h,fun _ _ _ _ h=>h,fun _ _ _ _ h=>h,fun _ _ _ _ h=>h,fun _ _ _ _ h=>h,fun _ _ _ _ h=>h,fun _ _ _ _ h=>h,fun _ _ _ _ h=>h,fun _ _ _ k h=>(let ⟨a,b,c,h1,h2⟩:=h;⟨a,b,c,h1,h2.ext k⟩),fun _ _ _ _ h=>h,fun _ _ _ _ h=>h,fun _ _ _ _ h=>h,fun _ _ _ _ h=>h,fun _ _ _ _ h=>h,fun _ _ _ _ h=>h,fun _ _ _ _ h=>h,fun _ _ _ _ h=>h,fun _ _ _ _ h=>h,fun _ _ _ _ h=>h,fun _ _ _ _ h=>h,fun _ _ _ _ h=>h,fun _ _ _ k h=>h.ext k,fun _ _ _ _ h=>h,fun _ _ _ _ h=>h,fun _ _ _ _ h=>h,fun _ _ _ k h=>h.ext k,fun _ _ _ k h=>h.ext k,fun _ _ _ _ h=>h,fun _ _ _ _ h=>h,fun _ _ _ _ h=>h⟩
  · refine⟨⟨fun _ _=>trivial,fun ρ w' hX hG hk=> ?_⟩,?_⟩
    · exact Par.val_of_run rfl ⟨Ext.refl _,hk.1⟩
    refine⟨⟨fun _ _=>trivial,fun ρ w' hX hG hk=> ?_⟩,?_⟩
    · obtain⟨k0,k1,-⟩:=hk
      have e0:=k0
      have e1:ρ (.tmp 45)=Value.slice po pn pc:=k1
      clear k0 k1
      refine Par.val_k fun K hK=> ?_
      unfold Par.val
      (refine Par.val_call Tryd.func14 (by kernel_rfl) rfl e0 ?_;simp only[List.map_toArray,List.map_cons,List.map_nil,e1];refine(owns13_any _ LL w' (HP12.out.ext hX) (by have:=HLLn.out;omega)).mono ?_;rintro e w2 ⟨⟨u,rfl,h2⟩,hx2⟩;exact⟨_,rfl,hK _ _ ⟨hx2,h2⟩⟩)
    refine⟨⟨fun _ _=>trivial,fun ρ w' hX hG hk=> ?_⟩,?_⟩
    · exact Par.val_of_run rfl ⟨Ext.refl _,hk.1⟩
    refine⟨⟨fun _ _=>trivial,fun ρ w' hX hG hk=> ?_⟩,?_⟩
    · obtain⟨k0,k1,k2,-⟩:=hk
      have e0:=k0
      have e1:(fun v w'=>Rcs w' v LL) (ρ (.tmp 46)) w':=k1
      have e2:ρ (.tmp 47)=Value.slice qo qn qc:=k2
      clear k0 k1 k2
      refine Par.val_k fun K hK=> ?_
      unfold Par.val
      (refine Par.val_call Tryd.func15 (by kernel_rfl) rfl e0 ?_;simp only[List.map_toArray,List.map_cons,List.map_nil,e2];have hc:=rsames5_any _ _ LL LL w' e1 (HQ12.out.ext hX) (by have:=HLLn.out;omega) (by have:=HLLn.out;omega);rw[recsame_eq rfl] at hc;refine hc.mono ?_;rintro e w2 ⟨rfl,hx2⟩;exact⟨_,rfl,hK _ _ ⟨hx2,rfl⟩⟩)
    refine⟨⟨fun _ _=>trivial,fun ρ w' hX hG hk=> ?_⟩,?_⟩
    · exact Par.val_of_run rfl ⟨Ext.refl _,hk.1⟩
    refine⟨⟨fun _ _ u hu=> .inl hu,fun ρ w' hX hG hk=> ?_⟩,?_⟩
    · exact Par.val_of_run rfl ⟨Ext.refl _,hk.1⟩
    refine⟨⟨fun _ _ u hu=> .inl hu,fun ρ w' hX hG hk=> ?_⟩,?_⟩
    · exact Par.val_of_run rfl ⟨Ext.refl _,hk.1⟩
    refine⟨⟨fun _ _ u hu=> .inl hu,fun ρ w' hX hG hk=> ?_⟩,?_⟩
    · obtain⟨k0,k1,-⟩:=hk
      have e0:ρ (.tmp 50)=Value.int IntKind.i64 EE:=k0
      have e1:ρ (.tmp 51)=Value.int IntKind.i64 EE:=k1
      clear k0 k1
      refine Par.val_k fun K hK=> ?_
      unfold Par.val
      (go_simp;exact hK _ _ ⟨Ext.refl _,by first|rfl|simp⟩)
    refine⟨⟨fun _ _=>trivial,fun ρ w' hX hG hk=> ?_⟩,?_⟩
    · obtain⟨k0,k1,k2,-⟩:=hk
      have e0:ρ (.tmp 49)=Value.bool true:=k0
      have e1:ρ (.tmp 52)=Value.bool true:=k1
      have e2:ρ (Operand.const (Value.bool false))=(Value.bool false):=k2
      clear k0 k1 k2
      refine Par.val_k fun K hK=> ?_
      unfold Par.val
      (go_simp;exact hK _ _ ⟨Ext.refl _,rfl⟩)
    refine⟨⟨fun _ _=>trivial,fun ρ w' hX hG hk=> ?_⟩,?_⟩
    · exact Par.val_of_run rfl ⟨Ext.refl _,hk.1⟩
    refine⟨⟨fun _ _ u hu=> .inl hu,fun ρ w' hX hG hk=> ?_⟩,?_⟩
    · obtain⟨k0,-⟩:=hk
      have e0:ρ (.tmp 9)=pv p9:=k0
      clear k0
      refine Par.val_k fun K hK=> ?_
      unfold Par.val
      (obtain⟨⟨c0,c1,c2,c3,c4,c5,c6,c7,c8,c9⟩,-⟩:=blk10 (hX.obj HV12.out);go_simp;exact hK _ _ ⟨Ext.refl _,rfl⟩)
    refine⟨⟨fun _ _ u hu=> .inl hu,fun ρ w' hX hG hk=> ?_⟩,?_⟩
    · obtain⟨k0,k1,-⟩:=hk
      have e0:=k0
      have e1:ρ (.tmp 55)=Value.agg #[uv u0,uv u1,uv u2,uv u3,uv u4,.slice yi j1 y1,.slice yd j2 y2,.slice yc j3 y3,uv u5,uv u6]:=k1
      clear k0 k1
      refine Par.val_k fun K hK=> ?_
      unfold Par.val
      (refine Par.val_call Tryd.func8 (by kernel_rfl) rfl e0 ?_;simp only[List.map_toArray,List.map_cons,List.map_nil,e1];have hc:=own13_any U _ _ _ w' (HU12.out.ext hX) (by have:=HUL.out;omega);rw[HUE.out] at hc;refine hc.mono ?_;rintro e w2 ⟨⟨a,b,c,rfl,h2⟩,hx2⟩;exact⟨_,rfl,hK _ _ ⟨hx2,a,b,c,rfl,h2⟩⟩)
    refine⟨⟨fun _ _ u hu=> .inl hu,fun ρ w' hX hG hk=> ?_⟩,?_⟩
    · obtain⟨k0,-⟩:=hk
      have e0:ρ (.tmp 11)=pv p12:=k0
      clear k0
      refine Par.val_k fun K hK=> ?_
      unfold Par.val
      (obtain⟨⟨c0,c1,c2,c3,c4,c5,c6,c7,c8,c9⟩,-⟩:=blk10 (hX.obj HX12.out);go_simp;exact hK _ _ ⟨Ext.refl _,rfl⟩)
    refine⟨⟨fun _ _ u hu=> .inl hu,fun ρ w' hX hG hk=> ?_⟩,?_⟩
    · obtain⟨k0,k1,k2,-⟩:=hk
      have e0:=k0
      have e1:(fun v w'=>∃a b c,v= .agg (snpC U a b c)∧SnpIn w' U a b c) (ρ (.tmp 56)) w':=k1
      have e2:ρ (.tmp 57)=Value.agg #[uv u0,uv u1,uv u2,uv u3,uv u4,.slice zi j1 z1,.slice zd j2 z2,.slice zc j3 z3,uv u5,uv u6]:=k2
      clear k0 k1 k2
      refine Par.val_k fun K hK=> ?_
      unfold Par.val
      (obtain⟨a1,a2,a3,q1,h1⟩:=e1;refine Par.val_call Tryd.func16 (by kernel_rfl) rfl e0 ?_;simp only[List.map_toArray,List.map_cons,List.map_nil,q1,e2];have hc:=rsame13_eq U _ _ _ _ _ _ w' h1 (HR12.out.ext hX) (by have:=HUL.out;omega);rw[HUE.out (.slice zi j1 z1)] at hc;refine hc.mono ?_;rintro e w2 ⟨rfl,hx2⟩;exact⟨_,rfl,hK _ _ ⟨hx2,rfl⟩⟩)
    refine⟨⟨fun _ _=>trivial,fun ρ w' hX hG hk=> ?_⟩,?_⟩
    · obtain⟨k0,k1,k2,-⟩:=hk
      have e0:ρ (.tmp 54)=Value.bool true:=k0
      have e1:ρ (.tmp 58)=Value.bool true:=k1
      have e2:ρ (Operand.const (Value.bool false))=(Value.bool false):=k2
      clear k0 k1 k2
      refine Par.val_k fun K hK=> ?_
      unfold Par.val
      (go_simp;exact hK _ _ ⟨Ext.refl _,rfl⟩)
    refine⟨⟨fun _ _=>trivial,fun ρ w' hX hG hk=> ?_⟩,?_⟩
    · exact Par.val_of_run rfl ⟨Ext.refl _,hk.1⟩
    refine⟨⟨fun _ _ u hu=> .inl hu,fun ρ w' hX hG hk=> ?_⟩,?_⟩
    · exact Par.val_of_run rfl ⟨Ext.refl _,hk.1⟩
    refine⟨⟨fun _ _ u hu=> .inl hu,fun ρ w' hX hG hk=> ?_⟩,?_⟩
    · exact Par.val_of_run rfl ⟨Ext.refl _,hk.1⟩
    refine⟨⟨fun _ _ u hu=> .inl hu,fun ρ w' hX hG hk=> ?_⟩,?_⟩
    · obtain⟨k0,k1,-⟩:=hk
      have e0:ρ (.tmp 61)=Value.int IntKind.i64 GG:=k0
      have e1:ρ (.tmp 62)=Value.int IntKind.i64 GG:=k1
      clear k0 k1
      refine Par.val_k fun K hK=> ?_
      unfold Par.val
      (go_simp;exact hK _ _ ⟨Ext.refl _,by first|rfl|simp⟩)
    refine⟨⟨fun _ _=>trivial,fun ρ w' hX hG hk=> ?_⟩,?_⟩
    · obtain⟨k0,k1,k2,-⟩:=hk
      have e0:ρ (.tmp 60)=Value.bool true:=k0
      have e1:ρ (.tmp 63)=Value.bool true:=k1
      have e2:ρ (Operand.const (Value.bool false))=(Value.bool false):=k2
      clear k0 k1 k2
      refine Par.val_k fun K hK=> ?_
      unfold Par.val
      (go_simp;exact hK _ _ ⟨Ext.refl _,rfl⟩)
    refine⟨⟨fun _ _=>trivial,fun ρ w' hX hG hk=> ?_⟩,?_⟩
    · exact Par.val_of_run rfl ⟨Ext.refl _,hk.1⟩
    refine⟨⟨fun _ _ u hu=> .inl hu,fun ρ w' hX hG hk=> ?_⟩,?_⟩
    · obtain⟨k0,-⟩:=hk
      have e0:ρ (.tmp 2)=pv p0:=k0
      clear k0
      refine Par.val_k fun K hK=> ?_
      unfold Par.val
      (go_simp;exact hK _ _ ⟨Ext.refl _,rfl⟩)
    refine⟨⟨fun _ _ u hu=> .inl hu,fun ρ w' hX hG hk=> ?_⟩,?_⟩
    · obtain⟨k0,-⟩:=hk
      have e0:ρ (.tmp 66)=pv p0:=k0
      clear k0
      refine Par.val_k fun K hK=> ?_
      unfold Par.val
      (go_simp;exact hK _ _ ⟨Ext.refl _,rfl⟩)
    refine⟨⟨fun _ _ u hu=> .inl hu,fun ρ w' hX hG hk=> ?_⟩,?_⟩
    · obtain⟨k0,-⟩:=hk
      have e0:ρ (.tmp 67)=Value.pointer (some ⟨p0,5,none⟩):=k0
      clear k0
      refine Par.val_k fun K hK=> ?_
      unfold Par.val
      (obtain⟨⟨c0,c1,c2,c3,c4,c5,c6,c7,c8,c9⟩,-⟩:=blk10 (hX.obj HB12.out);go_simp;exact hK _ _ ⟨Ext.refl _,rfl⟩)
    refine⟨⟨fun _ _ u hu=> .inl hu,fun ρ w' hX hG hk=> ?_⟩,?_⟩
    · obtain⟨k0,k1,-⟩:=hk
      have e0:=k0
      have e1:ρ (.tmp 68)=Value.slice io n ic:=k1
      clear k0 k1
      refine Par.val_k fun K hK=> ?_
      unfold Par.val
      (refine Par.val_call Tryd.func18 (by kernel_rfl) rfl e0 ?_;simp only[List.map_toArray,List.map_cons,List.map_nil,e1];refine(segs_any _ s.items w' ((HS0.out.ext (HE12.out.trans hX)).it) (by have:=HSZ.out.1;omega)).mono ?_;rintro e w2 ⟨⟨u,rfl,h2⟩,hx2⟩;exact⟨_,rfl,hK _ _ ⟨hx2,h2⟩⟩)
    refine⟨⟨fun _ _ u hu=> .inl hu,fun ρ w' hX hG hk=> ?_⟩,?_⟩
    · obtain⟨k0,-⟩:=hk
      have e0:ρ (.tmp 2)=pv p0:=k0
      clear k0
      refine Par.val_k fun K hK=> ?_
      unfold Par.val
      (go_simp;exact hK _ _ ⟨Ext.refl _,rfl⟩)
    refine⟨⟨fun _ _ u hu=> .inl hu,fun ρ w' hX hG hk=> ?_⟩,?_⟩
    · obtain⟨k0,-⟩:=hk
      have e0:ρ (.tmp 70)=pv p0:=k0
      clear k0
      refine Par.val_k fun K hK=> ?_
      unfold Par.val
      (go_simp;exact hK _ _ ⟨Ext.refl _,rfl⟩)
    refine⟨⟨fun _ _ u hu=> .inl hu,fun ρ w' hX hG hk=> ?_⟩,?_⟩
    · obtain⟨k0,-⟩:=hk
      have e0:ρ (.tmp 71)=Value.pointer (some ⟨p0,5,none⟩):=k0
      clear k0
      refine Par.val_k fun K hK=> ?_
      unfold Par.val
      (obtain⟨⟨c0,c1,c2,c3,c4,c5,c6,c7,c8,c9⟩,-⟩:=blk10 (hX.obj HB12.out);go_simp;exact hK _ _ ⟨Ext.refl _,rfl⟩)
    refine⟨⟨fun _ _ u hu=> .inl hu,fun ρ w' hX hG hk=> ?_⟩,?_⟩
    · obtain⟨k0,k1,-⟩:=hk
      have e0:=k0
      have e1:ρ (.tmp 72)=Value.slice io n ic:=k1
      clear k0 k1
      refine Par.val_k fun K hK=> ?_
      unfold Par.val
      (refine Par.val_call Tryd.func20 (by kernel_rfl) rfl e0 ?_;simp only[List.map_toArray,List.map_cons,List.map_nil,e1];refine(items13_any _ s.items w' ((HS0.out.ext (HE12.out.trans hX)).it) HZ.out.1).mono ?_;rintro e w2 ⟨⟨u,rfl,h2⟩,hx2⟩;exact⟨_,rfl,hK _ _ ⟨hx2,itr_its h2⟩⟩)
    refine⟨⟨fun _ _ u hu=> .inl hu,fun ρ w' hX hG hk=> ?_⟩,?_⟩
    · obtain⟨k0,k1,-⟩:=hk
      have e0:=k0
      have e1:(fun v w'=>Its w' v s.items) (ρ (.tmp 73)) w':=k1
      clear k0 k1
      refine Par.val_k fun K hK=> ?_
      unfold Par.val
      (refine Par.val_call Tryd.func19 (by kernel_rfl) rfl e0 ?_;simp only[List.map_toArray,List.map_cons,List.map_nil];refine(rsegs_any _ s.items w' e1 (by have:=HSM.out.1;rw[HN.out];omega)).mono ?_;rintro e w2 ⟨⟨u,rfl,h2⟩,hx2⟩;exact⟨_,rfl,hK _ _ ⟨hx2,h2⟩⟩)
    refine⟨⟨fun _ _ u hu=> .inl hu,fun ρ w' hX hG hk=> ?_⟩,?_⟩
    · obtain⟨k0,k1,k2,-⟩:=hk
      have e0:=k0
      have e1:(fun v w'=>Vec uv w' v (segsOf s.items)) (ρ (.tmp 69)) w':=k1
      have e2:(fun v w'=>Vec uv w' v (segsOf s.items)) (ρ (.tmp 74)) w':=k2
      clear k0 k1 k2
      refine Par.val_k fun K hK=> ?_
      unfold Par.val
      (refine Par.val_call Tryd.func17 (by kernel_rfl) rfl e0 ?_;simp only[List.map_toArray,List.map_cons,List.map_nil];have hc:=rsame64_any _ _ (segsOf s.items) (segsOf s.items) w' e1 e2;rw[show(segsOf s.items==segsOf s.items)=true from by simp] at hc;refine hc.mono ?_;rintro e w2 ⟨rfl,hx2⟩;exact⟨_,rfl,hK _ _ ⟨hx2,rfl⟩⟩)
    refine⟨⟨fun _ _=>trivial,fun ρ w' hX hG hk=> ?_⟩,?_⟩
    · obtain⟨k0,k1,k2,-⟩:=hk
      have e0:ρ (.tmp 65)=Value.bool true:=k0
      have e1:ρ (.tmp 75)=Value.bool true:=k1
      have e2:ρ (Operand.const (Value.bool false))=(Value.bool false):=k2
      clear k0 k1 k2
      refine Par.val_k fun K hK=> ?_
      unfold Par.val
      (go_simp;exact hK _ _ ⟨Ext.refl _,rfl⟩)
    refine⟨⟨fun _ _=>trivial,fun ρ w' hX hG hk=> ?_⟩,?_⟩
    · exact Par.val_of_run rfl ⟨Ext.refl _,hk.1⟩
    trivial
  intro a' w' inv
  have hX:=inv.ext
  have q45:a'.tmps.getD 45 undef=Value.slice po pn pc:=inv.done 0 _ 45 rfl rfl rfl
  have q46:(fun v w'=>Rcs w' v LL) (a'.tmps.getD 46 undef) w':=inv.done 1 _ 46 rfl rfl rfl
  have q47:a'.tmps.getD 47 undef=Value.slice qo qn qc:=inv.done 2 _ 47 rfl rfl rfl
  have q48:a'.tmps.getD 48 undef=Value.bool true:=inv.done 3 _ 48 rfl rfl rfl
  have q49:a'.tmps.getD 49 undef=Value.bool true:=inv.done 4 _ 49 rfl rfl rfl
  have q50:a'.tmps.getD 50 undef=Value.int IntKind.i64 EE:=inv.done 5 _ 50 rfl rfl rfl
  have q51:a'.tmps.getD 51 undef=Value.int IntKind.i64 EE:=inv.done 6 _ 51 rfl rfl rfl
  have q52:a'.tmps.getD 52 undef=Value.bool true:=inv.done 7 _ 52 rfl rfl rfl
  have q53:a'.tmps.getD 53 undef=Value.bool true:=inv.done 8 _ 53 rfl rfl rfl
  have q54:a'.tmps.getD 54 undef=Value.bool true:=inv.done 9 _ 54 rfl rfl rfl
  have q55:a'.tmps.getD 55 undef=Value.agg #[uv u0,uv u1,uv u2,uv u3,uv u4,.slice yi j1 y1,.slice yd j2 y2,.slice yc j3 y3,uv u5,uv u6]:=inv.done 10 _ 55 rfl rfl rfl
  have q56:(fun v w'=>∃a b c,v= .agg (snpC U a b c)∧SnpIn w' U a b c) (a'.tmps.getD 56 undef) w':=inv.done 11 _ 56 rfl rfl rfl
  have q57:a'.tmps.getD 57 undef=Value.agg #[uv u0,uv u1,uv u2,uv u3,uv u4,.slice zi j1 z1,.slice zd j2 z2,.slice zc j3 z3,uv u5,uv u6]:=inv.done 12 _ 57 rfl rfl rfl
  have q58:a'.tmps.getD 58 undef=Value.bool true:=inv.done 13 _ 58 rfl rfl rfl
  have q59:a'.tmps.getD 59 undef=Value.bool true:=inv.done 14 _ 59 rfl rfl rfl
  have q60:a'.tmps.getD 60 undef=Value.bool true:=inv.done 15 _ 60 rfl rfl rfl
  have q61:a'.tmps.getD 61 undef=Value.int IntKind.i64 GG:=inv.done 16 _ 61 rfl rfl rfl
  have q62:a'.tmps.getD 62 undef=Value.int IntKind.i64 GG:=inv.done 17 _ 62 rfl rfl rfl
  have q63:a'.tmps.getD 63 undef=Value.bool true:=inv.done 18 _ 63 rfl rfl rfl
  have q64:a'.tmps.getD 64 undef=Value.bool true:=inv.done 19 _ 64 rfl rfl rfl
  have q65:a'.tmps.getD 65 undef=Value.bool true:=inv.done 20 _ 65 rfl rfl rfl
  have q66:a'.tmps.getD 66 undef=pv p0:=inv.done 21 _ 66 rfl rfl rfl
  have q67:a'.tmps.getD 67 undef=Value.pointer (some ⟨p0,5,none⟩):=inv.done 22 _ 67 rfl rfl rfl
  have q68:a'.tmps.getD 68 undef=Value.slice io n ic:=inv.done 23 _ 68 rfl rfl rfl
  have q69:(fun v w'=>Vec uv w' v (segsOf s.items)) (a'.tmps.getD 69 undef) w':=inv.done 24 _ 69 rfl rfl rfl
  have q70:a'.tmps.getD 70 undef=pv p0:=inv.done 25 _ 70 rfl rfl rfl
  have q71:a'.tmps.getD 71 undef=Value.pointer (some ⟨p0,5,none⟩):=inv.done 26 _ 71 rfl rfl rfl
  have q72:a'.tmps.getD 72 undef=Value.slice io n ic:=inv.done 27 _ 72 rfl rfl rfl
  have q73:(fun v w'=>Its w' v s.items) (a'.tmps.getD 73 undef) w':=inv.done 28 _ 73 rfl rfl rfl
  have q74:(fun v w'=>Vec uv w' v (segsOf s.items)) (a'.tmps.getD 74 undef) w':=inv.done 29 _ 74 rfl rfl rfl
  have q75:a'.tmps.getD 75 undef=Value.bool true:=inv.done 30 _ 75 rfl rfl rfl
  have q76:a'.tmps.getD 76 undef=Value.bool true:=inv.done 31 _ 76 rfl rfl rfl
  have q4:a'.tmps.getD 4 undef=Value.bool true:=inv.done 32 _ 4 rfl rfl rfl
  clear inv
  simp only[List.filterMap_cons,List.filterMap_nil,Par.putAll,Act.put,List.setIfInBounds_toArray,List.set_cons_succ,List.set_cons_zero,q45,q47,q48,q49,q50,q51,q52,q53,q54,q55,q57,q58,q59,q60,q61,q62,q63,q64,q65,q66,q67,q68,q70,q71,q72,q75,q76,q4]
  clear q45 q47 q48 q49 q50 q51 q52 q53 q54 q55 q57 q58 q59 q60 q61 q62 q63 q64 q65 q66 q67 q68 q70 q71 q72 q75 q76 q4
  generalize a'.tmps.getD 46 undef=u46 at*
  generalize a'.tmps.getD 56 undef=u56 at*
  generalize a'.tmps.getD 69 undef=u69 at*
  generalize a'.tmps.getD 73 undef=u73 at*
  generalize a'.tmps.getD 74 undef=u74 at*
  clear a'
  have HEZ:=hid (HE12.out.trans hX)
  clear hX
  go_wp2
  go_returns
  exact⟨by first|rfl|simp,HEZ.out⟩
end Go.Proofs.YtpbmbjdiilnaeaaDoor

namespace Go.Proofs.YtpbmbjdiilnaeaaDoor.snapTells
open Go.ChangeShapes Go.WideShapes Go.ChangeAt Go.RowKit
set_option linter.unusedVariables false
set_option maxRecDepth 100000

theorem own:ownKnob Tryd.prog.godebug=none:=by kernel_rfl
theorem kid1:laidOutB Tryd.prog=true:=by kernel_rfl
theorem kid2:mapsRowed Tryd.prog=true:=by kernel_rfl
theorem kid3:((List.range Tryd.prog.types.size).all fun t=>match Tryd.prog.underlying t with|some (.slice e)=>decide (0<Tryd.prog.cellsOf e)|_=>true)=true:=by kernel_rfl
theorem kid4:∀t∈Tryd.f3.params.toList,t<Tryd.prog.types.size:=by decide+kernel
theorem gTab : Tryd.prog.globalNamed "tumbrel/record.numbers" = some 0 := by kernel_rfl
theorem gTabType:(Tryd.prog.globals[0]?).map (·.type)=some 97:=by kernel_rfl
theorem cellsT:Tryd.prog.cellsOf 97=18:=by kernel_rfl
theorem cellsE:Tryd.prog.cellsOf 3=1:=by kernel_rfl
theorem table {W:World} (h:laidMetH Tryd.prog Rows.snapTellsRow.laid W):Tab W:=by
  have ht : Lib.TabIs Tryd.prog W "tumbrel/record.numbers" .i64 tabZ :=
    Lib.tabIs_of_head (rest:=[]) gTab gTabType Tryd.underlying97 Tryd.underlying3 cellsE cellsT h
  intro i hi
  rw[←tabZ_at ⟨i,hi⟩]
  exact ht.cell gTab i hi

theorem contract (H:Type) (enc:TypeId×Value→H) (W:World) (base:Nat) (args:Array Value) (ds gs:List (DataW H)) (before:List MemPlace)
    (hval:∀(j:Nat) t v,Tryd.f3.params[j]? =some t→args[j]? =some v→Value.okWide Tryd.prog W .any base t v)
    (hW:DataW.Whole enc Tryd.prog Tryd.f3.params.toList Rows.snapTellsSpec.vars false W args.toList ds gs before) (hL:laidMetH Tryd.prog Rows.snapTellsRow.laid W)
    (hz:(DataW.weightsEach Tryd.prog (Tryd.f3.params.toList++(OpenSpec.ofChange Rows.snapTellsSpec).bare.plain.varTypes Tryd.prog) (ds++gs)).all (· ≤reachBytes)=true):
    Calls Tryd.prog 3 args W fun e W'=>∃v,e= .returned v∧Rows.snapTellsSpec.post enc Tryd.prog Tryd.f3 false true false false W args v W':=by
  have hW':=hW
  obtain⟨p,q,hA0,hV,rfl,hfz,hnd⟩:=hW
  have hA:DataW.TrodAll enc Tryd.prog W 0 (fun _=>true) true Tryd.f3.params.toList args.toList ds p:=hA0
  rw[Tryd.params3] at hA hval
  obtain⟨v0,vs0,d0,ds0,p0,q0,hargs,rfl,rfl,h0,r0⟩:=trodAll_cons hA
  obtain⟨v1,vs1,d1,ds1,p1,q1,rfl,rfl,rfl,h1,r1⟩:=trodAll_cons r0
  obtain⟨rfl,rfl,rfl⟩:=trodAll_nil r1
  obtain rfl:args= #[v0,v1]:=by cases args;simp_all
  obtain⟨rfl,rfl⟩:=trodVars_none hV
  obtain⟨s0,vi0,vd0,vc0,rfl,hs0,hsz⟩:=open_snapZ (hval 0 29 v0 rfl rfl) h0
  obtain⟨m1,hm1⟩:=open_recs (hval 1 30 v1 rfl rfl) h1
  refine(snapTells_law s0 vi0 vd0 vc0 v1 m1 W hs0 hm1 (table hL) (snap_sizes hz (j:=0) rfl rfl hsz)).mono fun e W' ⟨he,hg⟩=> ?_
  subst he
  exact⟨_,rfl,Go.Tum.law_post kid1 kid2 kid3 kid4 rfl Tryd.underlying4 hW' rfl rfl hg⟩

/-- A world for the witness:the settled one,the table laid. -/
noncomputable def laidWorld (os:Os):World:=
  {World.holding Tryd.prog os ⟨#[],#[],[]⟩ with heap:=(World.holding Tryd.prog os ⟨#[],#[],[]⟩).heap.modify 0 fun
      | .cells _ t frozen=> .cells (tabZ.map fun z=>Value.int .i64 z).toArray t frozen
      |o=>o}
theorem laid_met (os:Os):laidMet Tryd.prog Rows.snapTellsRow.laid ((laidWorld os).forCall (fun _ _=>0) ⟨#[],#[.agg #[.int .u64 0,.int .u64 0,.int .u64 0,.int .u64 0,.int .u64 0,.slice none 0 0,.slice none 0 0,.slice none 0 0,.int .u64 0,.int .u64 0],.slice none 0 0],[]⟩).memory:=
  laidMet_of_run' 8 (by kernel_rfl) (by kernel_rfl)
theorem reads (os:Os) {H:Type} (enc:TypeId×Value→H):∃places,DataW.whole enc Tryd.prog ((laidWorld os).forCall (fun _ _=>0) ⟨#[],#[.agg #[.int .u64 0,.int .u64 0,.int .u64 0,.int .u64 0,.int .u64 0,.slice none 0 0,.slice none 0 0,.slice none 0 0,.int .u64 0,.int .u64 0],.slice none 0 0],[]⟩).memory Tryd.f3.params.toList Rows.snapTellsSpec.vars false #[Value.agg #[.int .u64 0,.int .u64 0,.int .u64 0,.int .u64 0,.int .u64 0,.slice none 0 0,.slice none 0 0,.slice none 0 0,.int .u64 0,.int .u64 0],.slice none 0 0].toList 8=some ([.agg [.agg [.lit (.int .u64 0),.lit (.int .u64 0),.lit (.int .u64 0),.lit (.int .u64 0),.lit (.int .u64 0),.nil,.nil,.nil],.lit (.int .u64 0),.lit (.int .u64 0)],.nil],[],places):=
  ⟨[],by kernel_rfl⟩

set_option maxRecDepth 100000 in
theorem lifted (os:Os) (started:os.Started) (H:Type) (enc:TypeId×Value→H) (F:Stop.Interp):
    ReturnsInHanded {} Tryd.checked os 3 .any ((OpenSpec.ofChange Rows.snapTellsSpec).preRow enc Tryd.prog Tryd.f3 Rows.snapTellsRow.domain false Rows.snapTellsRow.laid) (((OpenSpec.ofChange Rows.snapTellsSpec).at F).post enc Tryd.prog Tryd.f3 false true false false):=by
  obtain⟨places,hx⟩:=reads os enc
  refine returnsInHanded_of_row (C:=Tryd.checked) (s:=OpenSpec.ofChange Rows.snapTellsSpec) own started (by kernel_rfl) Tryd.func3
    (witness_row_at (enc:=enc) (C:=Tryd.checked) false (laidWorld os) #[.agg #[.int .u64 0,.int .u64 0,.int .u64 0,.int .u64 0,.int .u64 0,.slice none 0 0,.slice none 0 0,.slice none 0 0,.int .u64 0,.int .u64 0],.slice none 0 0] rfl (by kernel_rfl) (by kernel_rfl) (by kernel_rfl)
      (OpenSpec.preRow_of_cond 8 hx (by kernel_rfl) (fun k hk=>by cases hk) (by kernel_rfl) (laid_met os))) ?_
  intro W base args ds gs before hval hW _ _ hz hL _ _
  exact contract H enc W base args ds gs before hval hW hL hz

theorem said:Rows.SnapTellsSaid:=
  OpenClaim.holds_of_cond 3 Tryd.f3 rfl rfl rfl rfl rfl rfl rfl ⟨rfl,rfl,rfl,rfl,rfl⟩ rfl rfl rfl rfl rfl (by kernel_rfl) Tryd.func3 (by kernel_rfl)
    (of_decide_eq_true (by kernel_rfl)) (by unfold Func.isWrapper;first|(rw[if_pos (by decide+kernel)];kernel_rfl)|(rw[if_neg (by decide+kernel)];exact⟨rfl,rfl⟩))
    (fun os started H enc _ F=>by rw[OpenClaim.pre_eq_preRow];exact lifted os started H enc F)

theorem plain (f : FuncId) (fn : Func) (hf : Tryd.pinned.checked.prog.funcNamed "tumbrel/tumbrellaw13.SnapTells" = some f) (hfn : Tryd.pinned.checked.prog.funcs[f]? = some fn) :
    false=Tryd.pinned.checked.prog.looks []∧∀(j:Nat) t,fn.params[j]? =some t→Tryd.pinned.checked.prog.wantsStandIn t=false:=by
  obtain rfl : f = 3 := Option.some.inj ((show Tryd.prog.funcNamed "tumbrel/tumbrellaw13.SnapTells" = some 3 by kernel_rfl).symm.trans hf) |>.symm
  obtain rfl:fn=Tryd.f3:=(Option.some.inj (Tryd.func3.symm.trans hfn)).symm
  refine⟨by kernel_rfl,fun j t ht=> ?_⟩
  rw[Tryd.params3] at ht
  have hm:=Array.mem_of_getElem? ht
  have hall:∀t∈Tryd.f3.params.toList,Tryd.prog.wantsStandIn t=false:=by decide+kernel
  rw[Tryd.params3] at hall
  exact hall t (by simpa using hm)

theorem proved:Rows.SnapTellsCardSaid:=
  Claim7.holds_tied_plain_at .later [] _ _ _ _ said (fun _ h=>by cases h) (by kernel_rfl) (fun _ h=>by cases h) snapTells_row_tie rfl ⟨rfl,rfl⟩ (by kernel_rfl) rfl plain (by kernel_rfl)
end Go.Proofs.YtpbmbjdiilnaeaaDoor.snapTells

