/- Texts of a claim, side by side. -/
import Derived.Test.YtcfgafododiioaaGreatDoorC5
import Derived.Orders
import Derived.Test.YtcfgafododiioaaGreatDoorC3
import Derived.Test.YtcfgafododiioaaGreatDoorC2
import Derived.Sort.Grow
set_option linter.unusedSimpArgs false
set_option linter.unusedVariables false
namespace Go.ParE
open Go.RowKit Go.Par
open Go.ParB (upd Lof Lof_set)
open Go.ParC (VW CInv cinv_step)
def putS (σ:Nat→Value) (d:Option Nat) (v:Value):Nat→Value:=fun s=>if d=some s then v else σ s
def slots (a:Act):Nat→Value:=fun s=>a.tmps.getD s undef
def Closed (ops:List Oper) (L:Nat→Bool):Prop:=∀i o,ops[i]? =some o→L i=true→∀e∈o.after,Region.binds .any e=true→L e.on=true
def preds (ops:List Oper) (i:Nat):List Nat:=match ops[i]? with
 |some o=>(o.after.toList.filter fun e=>Region.binds .any e).map (·.on)
 |none=>[]
def reach (ops:List Oper):Nat→Nat→Nat→Bool
 |0,i,j=>i==j
 |n+1,i,j=>i==j||(preds ops i).any fun k=>reach ops n k j
theorem Closed.pred {ops:List Oper} {L:Nat→Bool} (h:Closed ops L) {i k:Nat} (hi:L i=true) (hk:k∈preds ops i):L k=true:=by
 unfold preds at hk
 split at hk
 · rename_i o ho
   obtain⟨e,he,rfl⟩:=List.mem_map.1 hk
   obtain⟨h1,h2⟩:=List.mem_filter.1 he
   exact h i o ho hi e (by simpa using h1) h2
 · simp at hk
theorem Closed.ran {ops:List Oper} {L:Nat→Bool} (h:Closed ops L):∀(n i j:Nat),reach ops n i j=true→L i=true→L j=true
 |0,i,j,hr,hi=>by
  have:i=j:=by simpa[reach] using hr
  rw[←this];exact hi
 |n+1,i,j,hr,hi=>by
  simp only[reach,Bool.or_eq_true] at hr
  rcases hr with hr|hr
  · have:i=j:=by simpa using hr
    rw[←this];exact hi
  · obtain⟨k,hk,h2⟩:=List.any_eq_true.1 hr
    exact h.ran n k j h2 (h.pred hi hk)
theorem Closed.notyet {ops:List Oper} {L:Nat→Bool} (h:Closed ops L) (i j:Nat) (hj:L j=false) (hr:reach ops 8 i j=true):L i=false:=by
 cases hi:L i with
 |false=>rfl
 |true=>rw[h.ran 8 i j hr hi] at hj;cases hj
theorem Closed.before {ops:List Oper} {L:Nat→Bool} (h:Closed ops L) {o:Oper} {i:Nat} (j:Nat) (hi:ops[i]? =some o) (hd:(o.after.all fun e=> !Region.binds .any e||L e.on)=true)
 (hr:(preds ops i).any (fun k=>reach ops 8 k j)=true):L j=true:=by
 obtain⟨k,hk,h2⟩:=List.any_eq_true.1 hr
 refine h.ran 8 k j h2 ?_
 unfold preds at hk
 rw[hi] at hk
 simp only at hk
 obtain⟨e,he,rfl⟩:=List.mem_map.1 hk
 obtain⟨h3,h4⟩:=List.mem_filter.1 he
 have:=Array.all_eq_true_iff_forall_mem.1 hd e (by simpa using h3)
 simpa[h4] using this
def slotsR (ρ:Operand→Value):Nat→Value:=fun s=>ρ (.tmp s)
def goals (P:Program) (ops:List Oper) (R:(Nat→Bool)→(Nat→Value)→World→Prop) (V:Nat→Value→Prop) (a0:Act):List Oper→Nat→Prop
 |[],_=>True
 |o::r,i=>
  (∀(L:Nat→Bool) (ρ:Operand→Value) (w:World),R L (slotsR ρ) w→Closed ops L→L i=false→(o.after.all fun e=> !Region.binds .any e||L e.on)=true→knowsAll ops (VW V) a0 ρ w o.op.operands.toList→val P o ρ w fun v w'=>R (upd L i) (putS (slotsR ρ) o.dst v) w'∧V i v)∧
  goals P ops R V a0 r (i+1)
theorem goals_at {P:Program} {ops:List Oper} {R:(Nat→Bool)→(Nat→Value)→World→Prop} {V:Nat→Value→Prop} {a0:Act}:
 ∀(l:List Oper) (k:Nat),goals P ops R V a0 l k→∀i o,l[i]? =some o→
  ∀(L:Nat→Bool) (ρ:Operand→Value) (w:World),R L (slotsR ρ) w→Closed ops L→L (k+i)=false→(o.after.all fun e=> !Region.binds .any e||L e.on)=true→knowsAll ops (VW V) a0 ρ w o.op.operands.toList→val P o ρ w fun v w'=>R (upd L (k+i)) (putS (slotsR ρ) o.dst v) w'∧V (k+i) v
 |[],_,_,i,o,h=>by simp at h
 |o::r,k,h,0,o',ho=>by
  simp at ho;subst ho;exact h.1
 |o::r,k,h,i+1,o',ho=>by
  have:=goals_at r (k+1) h.2 i o' (by simpa using ho)
  rw[show k+1+i=k+(i+1) by omega] at this
  exact this
section
variable {P : Program} {ops : List Oper} {R : (Nat → Bool) → (Nat → Value) → World → Prop} {V : Nat → Value → Prop} {a0 : Act}
theorem slots_put (hB:okB ops a0.tmps.size=true) {a:Act} (hs:a.tmps.size=a0.tmps.size) {i:Nat} {o:Oper} (hi:ops[i]? =some o) (v:Value):slots (a.put o.dst v)=putS (slots a) o.dst v:=by
 simp only[okB,Bool.and_eq_true] at hB
 obtain⟨⟨hb1,-⟩,-⟩:=hB
 funext s
 unfold slots putS
 by_cases h:o.dst=some s
 · rw[if_pos h,h,getD_put_same]
   rw[hs]
   have:=List.all_eq_true.1 hb1 o (List.mem_of_getElem? hi)
   simpa[h] using this
 · rw[if_neg h,getD_put_ne h]
theorem Closed.step {ops:List Oper} {listed:Array Bool} {i:Nat} {o:Oper} (h:Closed ops (Lof listed)) (hi:ops[i]? =some o) (hr:∀e∈o.after,Region.binds .any e=true→listed.getD e.on false=true):Closed ops (upd (Lof listed) i):=by
 intro k o' hk hl e he hb
 unfold upd
 split
 · rfl
 · by_cases hki:k=i
   · subst hki
     rw[hi] at hk;cases hk
     exact hr e he hb
   · unfold upd at hl
     rw[if_neg hki] at hl
     exact h k o' hk hl e he hb
theorem wpAny_e (Q:Exit→Act→World→Prop) (hB:okB ops a0.tmps.size=true) (hng:(ops.all fun o=>o.guard.isNone)=true) (hg:goals P ops R V a0 ops 0)
 (fin:∀a w,CInv ops V a0 (Array.replicate ops.length true) a w→R (Lof (Array.replicate ops.length true)) (slots a) w→Q .normal a w):
 ∀(fuel:Nat) (listed:Array Bool) (a:Act) (w:World),listed.size=ops.length→(listed.toList.filter (· ==false)).length≤fuel→
  CInv ops V a0 listed a w→Closed ops (Lof listed)→R (Lof listed) (slots a) w→wpAny P .any ops.toArray Q fuel listed a w:=by
 have hB':=hB
 simp only[okB,Bool.and_eq_true] at hB'
 have hb3:=hB'.2
 have ended:∀(listed:Array Bool) (a:Act) (w:World),listed.size=ops.length→CInv ops V a0 listed a w→R (Lof listed) (slots a) w→Region.ready .any ops.toArray listed=[]→Q .normal a w:=by
  intro listed a w hls inv hR hnil
  have all:∀n i,i≤n→i<ops.length→listed.getD i false=true:=by
   intro n
   induction n with
   |zero=>
    intro i hi hlt
    obtain rfl:i=0:=by omega
    cases hl:listed.getD 0 false with
    |true=>rfl
    |false=>
     exfalso
     have:0∈Region.ready .any ops.toArray listed:=by
      rw[mem_ready]
      refine⟨by simp[hls▸hlt] at hl⊢;exact hl,ops[0],by simp[hlt],fun e he hb=> ?_⟩
      have h3:=List.all_eq_true.1 hb3 (ops[0],0) (by rw[List.mem_zipIdx_iff_getElem?];simp[hlt])
      simp only[Bool.and_eq_true] at h3
      have:=(Array.all_eq_true_iff_forall_mem.1 h3.1.1.1) e he
      simp[hb] at this
     rw[hnil] at this;cases this
   |succ n ih=>
    intro i hi hlt
    cases hl:listed.getD i false with
    |true=>rfl
    |false=>
     exfalso
     have:i∈Region.ready .any ops.toArray listed:=by
      rw[mem_ready]
      refine⟨by simp[hls▸hlt] at hl⊢;exact hl,ops[i],by simp[hlt],fun e he hb=> ?_⟩
      have h3:=List.all_eq_true.1 hb3 (ops[i],i) (by rw[List.mem_zipIdx_iff_getElem?];simp[hlt])
      simp only[Bool.and_eq_true] at h3
      have:=(Array.all_eq_true_iff_forall_mem.1 h3.1.1.1) e he
      simp[hb] at this
      exact ih e.on (by omega) (by omega)
     rw[hnil] at this;cases this
  have he:listed=Array.replicate ops.length true:=by
   apply Array.ext
   · simp[hls]
   · intro i h1 h2
     have:=all i i (Nat.le_refl _) (by simpa using h2)
     simp[h1] at this
     simp[this]
  subst he
  exact fin a w inv hR
 intro fuel
 induction fuel with
 |zero=>
  intro listed a w hls hf inv hC hR
  have hnil:Region.ready .any ops.toArray listed=[]:=by
   rw[List.eq_nil_iff_forall_not_mem]
   intro i hi
   have h0:=(mem_ready.1 hi).1
   have hlt:i<listed.size:=by
    rcases Nat.lt_or_ge i listed.size with h'|h'
    · exact h'
    · simp[Array.getElem?_eq_none h'] at h0
   simp[hlt] at h0
   have:false∈listed.toList.filter (· ==false):=by
    rw[List.mem_filter]
    exact⟨by rw[←h0];exact Array.mem_toList_iff.2 (Array.getElem_mem hlt),rfl⟩
   have:=List.length_pos_of_mem this
   omega
  exact⟨hnil,ended listed a w hls inv hR hnil⟩
 |succ fuel ih=>
  intro listed a w hls hf inv hC hR
  refine⟨ended listed a w hls inv hR,fun i hi=> ?_⟩
  obtain⟨hun,o,ho,hr⟩:=mem_ready.1 hi
  have ho':ops[i]? =some o:=by simpa using ho
  have hlt:i<listed.size:=by
   rcases Nat.lt_or_ge i listed.size with h'|h'
   · exact h'
   · simp[Array.getElem?_eq_none h'] at hun
  have hcount:((listed.setIfInBounds i true).toList.filter (· ==false)).length≤fuel:=by
   have h1:listed[i]=false:=by simpa[hlt] using hun
   have:∀(l:List Bool) (k:Nat) (hk:k<l.length),l[k]=false→((l.set k true).filter (· ==false)).length+1=(l.filter (· ==false)).length:=by
    intro l
    induction l with
    |nil=>intro k hk;simp at hk
    |cons b l ihl=>
     intro k hk hb
     match k with
     |0=>simp at hb;subst hb;simp
     |k+1=>
      simp at hb
      have:=ihl k (by simpa using hk) hb
      rw[List.set_cons_succ,List.filter_cons,List.filter_cons]
      split
      · rw[List.length_cons,List.length_cons];omega
      · exact this
   have:=this listed.toList i (by simpa using hlt) (by simpa using h1)
   simp only[Array.toList_setIfInBounds]
   omega
  have hg':=goals_at ops 0 hg i o ho'
  simp only[Nat.zero_add] at hg'
  have next:∀v w',R (upd (Lof listed) i) (putS (slots a) o.dst v) w'→V i v→wpAny P .any ops.toArray Q fuel (listed.setIfInBounds i true) (a.put o.dst v) w':=fun v w' hR hv=>
   ih _ _ _ (by simpa using hls) hcount (cinv_step hB hls ho' inv hv) (by rw[Lof_set hlt];exact hC.step ho' hr) (by rw[Lof_set hlt,slots_put hB inv.size ho'];exact hR)
  have hLi:Lof listed i=false:=by unfold Lof;simp[hlt] at hun⊢;exact hun
  have hgn:o.guard=none:=by
   have:=List.all_eq_true.1 hng o (List.mem_of_getElem? ho')
   simpa using this
  unfold wpOp
  simp only[ho]
  split
  · left
    refine wp_of_val (hg' (Lof listed) a.eval w hR hC hLi ?_ (knowsAll_of_inv hB ho' inv hr)) fun v w' h=>next v w' h.1 h.2
    rw[Array.all_eq_true_iff_forall_mem]
    intro e he
    by_cases hb:Region.binds .any e=true
    · have:=hr e he hb
      unfold Lof
      simp[hb,this]
    · simp[hb]
  · rename_i hw
    unfold Region.wanted at hw
    simp[hgn] at hw
theorem wp_region_e {id:Nat} {Q:Exit→Act→World→Prop} {l:List Oper} (hm:P.follows .mixedOrders=true) {a0:Act} {w0:World} (R:(Nat→Bool)→(Nat→Value)→World→Prop) (V:Nat→Value→Prop)
 (hB:okB l a0.tmps.size=true) (hng:(l.all fun o=>o.guard.isNone)=true) (h0:R (fun _=>false) (slots a0) {w0 with drawn:=w0.drawn+1}) (hg:goals P l R V a0 l 0)
 (fin:∀a w,CInv l V a0 (Array.replicate l.length true) a w→R (Lof (Array.replicate l.length true)) (slots a) w→Q .normal (putAll a0 a (l.filterMap (·.dst))) w):
 (Code.region id l.toArray true).wp P Q a0 w0:=by
 refine wp_region_any hm ?_
 refine wpAny_e Q hB hng hg (fun a w inv hR=>by have:=fin a w inv hR;rw[←Par.Inv.act inv] at this;exact this) _ _ _ _ (by simp) (by simp) ⟨rfl,rfl,trivial,?_,fun _ _=>rfl⟩ ?_ ?_
 · intro j o d hj hl
   simp[Array.getElem?_replicate] at hl
   split at hl<;>simp_all
 · intro k o hk hl
   unfold Lof at hl
   simp[Array.getElem?_replicate] at hl
   split at hl<;>simp_all
 · have:Lof (Array.replicate l.length false)=fun _=>false:=by
    funext k;unfold Lof
    simp[Array.getElem?_replicate]
    split<;>simp
   rw[List.size_toArray,this];exact h0
end
end Go.ParE
namespace Go.Par
def look (l:List (Nat×Value)):Operand→Value
 | .tmp n=>(l.lookup n).getD undef
 | .const v=>v
 | .func f=> .func (.func f) #[] #[]
 | .global _=>undef
def agr (ρ:Operand→Value) (l:List (Nat×Value)):List Operand→Prop
 |[]=>True
 |x::r=>ρ x=look l x∧agr ρ l r
theorem agr_at {ρ:Operand→Value} {l:List (Nat×Value)}:∀{os:List Operand},agr ρ l os→∀x∈os,ρ x=look l x
 |[],_,x,h=>by cases h
 |y::r,h,x,hx=>by
  rcases List.mem_cons.1 hx with rfl|hx
  · exact h.1
  · exact agr_at h.2 x hx
def noSel:Op→Bool
 | .select _ _=>false
 |_=>true
theorem pv {P:Program} {o:Oper} {ρ:Operand→Value} {w:World} {K:Value→World→Prop} {v:Value} (l:List (Nat×Value)) (hk:agr ρ l o.op.operands.toList)
 (hr:(execOp (look l) o).run P w= .ok (.value v) w) (hv:K v w) (hs:noSel o.op=true:=by rfl):val P o ρ w K:=by
 refine val_of_run (v:=v) ?_ hv
 rw[execOp_congr (ρ':=look l) o (fun cs b e=>by rw[e] at hs;cases hs) (fun x hx=>agr_at hk x (by simpa using hx))]
 exact hr
def dones (a:Act) (w:World):List (Value→World→Prop)→List Oper→Prop
 |p::L,o::r=>(match o.dst with|some d=>p (a.tmps.getD d undef) w|none=>True)∧dones a w L r
 |_,_=>True
theorem dones_mk {a:Act} {w:World}:∀(L:List (Value→World→Prop)) (l:List Oper),(∀i o d,l[i]? =some o→o.dst=some d→VL L i (a.tmps.getD d undef) w)→dones a w L l
 |[],l,_=>by cases l<;>trivial
 |p::L,[],_=>trivial
 |p::L,o::r,h=>by
  refine⟨?_,dones_mk L r fun i o' d h1 h2=>by have:=h (i+1) o' d (by simpa using h1) h2;simpa[VL] using this⟩
  cases hd:o.dst with
  |none=>trivial
  |some d=>have:=h 0 o d rfl hd;simpa[VL] using this
theorem donesI {L:List (Value→World→Prop)} {l:List Oper} {X:World→World→Prop} {a0 a:Act} {w0 w:World} (inv:Inv l X (VL L) a0 w0 (Array.replicate l.length true) a w):dones a w L l:=
 dones_mk L l fun i o d h1 h2=>inv.done i o d h1 (by rw[Array.getD_eq_getD_getElem?,Array.getElem?_replicate,if_pos (List.getElem?_eq_some_iff.1 h1).1];rfl) h2
def donesV (a:Act):List (Value→Prop)→List Oper→Prop
 |p::L,o::r=>(match o.dst with|some d=>p (a.tmps.getD d undef)|none=>True)∧donesV a L r
 |_,_=>True
theorem donesV_mk {a:Act}:∀(L:List (Value→Prop)) (l:List Oper),(∀i o d,l[i]? =some o→o.dst=some d→ParC.VC L i (a.tmps.getD d undef))→donesV a L l
 |[],l,_=>by cases l<;>trivial
 |p::L,[],_=>trivial
 |p::L,o::r,h=>by
  refine⟨?_,donesV_mk L r fun i o' d h1 h2=>by have:=h (i+1) o' d (by simpa using h1) h2;simpa[ParC.VC] using this⟩
  cases hd:o.dst with
  |none=>trivial
  |some d=>have:=h 0 o d rfl hd;simpa[ParC.VC] using this
theorem donesC {L:List (Value→Prop)} {l:List Oper} {a0 a:Act} {w:World} (inv:ParC.CInv l (ParC.VC L) a0 (Array.replicate l.length true) a w):donesV a L l:=
 donesV_mk L l fun i o d h1 h2=>inv.done i o d h1 (by rw[Array.getD_eq_getD_getElem?,Array.getElem?_replicate,if_pos (List.getElem?_eq_some_iff.1 h1).1];rfl) h2
end Go.Par
namespace Go.Rg
open Go.RowKit Go.Tum
open Go.ParB (upd Lof)
open Go.ParE (putS slotsR slots Closed)
theorem updE {L:Nat→Bool} {i:Nat}:upd L i i=true:=by unfold upd;rw[if_pos rfl]
theorem updN {L:Nat→Bool} {i j:Nat} (h:j≠i):upd L i j=L j:=by unfold upd;rw[if_neg h]
structure R1 (W:World) (k:Nat) (Q:World→Prop) (L:Nat→Bool) (σ:Nat→Value) (w:World):Prop where
 a:L k=false→Ext W w
 z:L k=true→Q w
section
variable {W w w' : World} {k : Nat} {Q : World → Prop} {L : Nat → Bool} {σ σ' : Nat → Value}
end
structure R2 (W:World) (k1 d1 k2:Nat) (Q1:Value→World→Prop) (Q2:World→Prop) (L:Nat→Bool) (σ:Nat→Value) (w:World):Prop where
 a:L k1=false→L k2=false→Ext W w
 b:L k1=true→L k2=false→Q1 (σ d1) w
 z:L k2=true→Q2 w
section
variable {W w w' : World} {k1 d1 k2 : Nat} {Q1 : Value → World → Prop} {Q2 : World → Prop} {L : Nat → Bool} {σ σ' : Nat → Value}
end
structure R3 (W:World) (k0 d0 k1 d1 k2:Nat) (Q0 Q1:Value→World→Prop) (Q2:World→Prop) (L:Nat→Bool) (σ:Nat→Value) (w:World):Prop where
 a:L k1=false→L k2=false→Ext W w
 s:L k0=true→L k1=false→Q0 (σ d0) w
 b:L k1=true→L k2=false→Q1 (σ d1) w
 z:L k2=true→Q2 w
section
variable {W w w' : World} {k0 d0 k1 d1 k2 : Nat} {Q0 Q1 : Value → World → Prop} {Q2 : World → Prop} {L : Nat → Bool} {σ σ' : Nat → Value}
end
section
variable {W w w' : World} {k0 d0 k1 k2 k3 : Nat} {Q0 Q1 : Value → World → Prop} {Q2 Q3 : World → Prop} {L : Nat → Bool} {σ σ' : Nat → Value}
end
end Go.Rg
namespace Go.Rg
open Go.RowKit Go.Tum
open Go.ParB (upd Lof)
open Go.ParE (putS slotsR slots Closed)
def rest (ds:List Nat) (σ:Nat→Value):Nat→Value:=fun d=>if ds.contains d=true then σ d else undef
theorem rest_put {ds:List Nat} {σ:Nat→Value} {d:Option Nat} {v:Value} (h:∀e∈ds,d≠some e):rest ds (putS σ d v)=rest ds σ:=by
 funext e
 unfold rest putS
 by_cases he:ds.contains e=true
 · rw[if_pos he,if_pos he,if_neg (h e (by simpa using he))]
 · rw[if_neg he,if_neg he]
structure Ch (ks ds:List Nat) (Q:Nat→(Nat→Value)→World→Prop) (L:Nat→Bool) (σ:Nat→Value) (w:World):Prop where
 ex:∃i,i≤ks.length∧(∀j k,ks[j]? =some k→L k=decide (j<i))∧Q i (rest ds σ) w
section
variable {W w w' : World} {ks ds : List Nat} {Q : Nat → (Nat → Value) → World → Prop} {L : Nat → Bool} {σ σ' : Nat → Value}
theorem Ch.start (h:Q 0 (rest ds σ) w):Ch ks ds Q (fun _=>false) σ w:=⟨0,Nat.zero_le _,fun j k _=>by simp,h⟩
theorem Ch.other (h:Ch ks ds Q L σ w) {i:Nat} {d:Option Nat} {v:Value} (hi:i∉ks∧∀e∈ds,d≠some e):Ch ks ds Q (upd L i) (putS σ d v) w:=by
 obtain⟨n,h1,h2,h3⟩:=h.ex
 refine⟨n,h1,fun j k hk=> ?_,by rw[rest_put hi.2];exact h3⟩
 rw[updN (fun e=>hi.1 (by rw[←e];exact List.mem_of_getElem? hk))]
 exact h2 j k hk
theorem Ch.go (h:Ch ks ds Q L σ w) (i0:Nat) {k:Nat} (hk:ks[i0]? =some k) (hL:L k=false) (hp:i0=0∨∃k',ks[i0 - 1]? =some k'∧L k'=true) (hn:ks.Nodup):
 Q i0 (rest ds σ) w∧∀(d:Option Nat) (v:Value) (w':World),Q (i0+1) (rest ds (putS σ d v)) w'→Ch ks ds Q (upd L k) (putS σ d v) w':=by
 obtain⟨n,h1,h2,h3⟩:=h.ex
 have a1:=h2 i0 k hk
 rw[hL] at a1
 have a2:¬i0<n:=by simpa using a1.symm
 have a3:n=i0:=by
  rcases hp with rfl|⟨k',hk',hl'⟩
  · omega
  · have:=h2 _ k' hk'
    rw[hl'] at this
    have:i0 - 1<n:=by simpa using this.symm
    omega
 subst a3
 refine⟨h3,fun d v w' hq=>⟨n+1,(List.getElem?_eq_some_iff.1 hk).1,fun j m hm=> ?_,hq⟩⟩
 by_cases hj:j=n
 · subst hj
   rw[hk] at hm;cases hm
   rw[updE];simp
 · have hmk:m≠k:=by
    rintro rfl
    obtain⟨q1,q2⟩:=List.getElem?_eq_some_iff.1 hm
    obtain⟨q3,q4⟩:=List.getElem?_eq_some_iff.1 hk
    exact hj ((List.getElem_inj hn).1 (q2.trans q4.symm))
   rw[updN hmk,h2 j m hm]
   by_cases hjn:j<n
   · simp[hjn];omega
   · simp[hjn];omega
theorem Ch.some (h:Ch ks ds Q L σ w) (n:Nat) {k:Nat} (hk:ks[n]? =some k) (hL:L k=false):∃i,i≤n∧Q i (rest ds σ) w:=by
 obtain⟨i,h1,h2,h3⟩:=h.ex
 refine⟨i,?_,h3⟩
 have:=h2 n k hk
 rw[hL] at this
 have:¬n<i:=by simpa using this.symm
 omega
theorem Ch.fin {m:Nat} (h:Ch ks ds Q (Lof (Array.replicate m true)) σ w) (hm:∀k∈ks,k<m) (n:Nat) (hn:ks.length=n):Q n (rest ds σ) w:=by
 obtain⟨i,h1,h2,h3⟩:=h.ex
 have:i=n:=by
  rcases Nat.lt_or_ge i ks.length with hlt|hge
  · have:=h2 i ks[i] (by simp[hlt])
    unfold Lof at this
    simp[Array.getElem?_replicate,hm _ (List.getElem_mem hlt)] at this
  · omega
 rw[←this];exact h3
end
end Go.Rg
namespace Go.Proofs.YtcfgafododiioaaGreatDoor
open Go Go.RowKit Go.Tum Go.ChangeMaps
open Go.ParB (upd Lof)
open Go.ParE (putS slotsR slots Closed)
theorem lk3D {w:World} {b:Nat} {v0 v1 v2:Value} {ty:TypeId} (h:w.heap[b]? =some (.cells #[v0,v1,v2] ty (0,0))):
 w.cell? ⟨b,0,none⟩=some v0∧w.cell? ⟨b,1,none⟩=some v1∧w.cell? ⟨b,2,none⟩=some v2∧(∀i,w.frozen? ⟨b,i,none⟩=false):=by
 refine⟨by rw[cell_of_row _ _ _ _ _ _ h];rfl,by rw[cell_of_row _ _ _ _ _ _ h];rfl,by rw[cell_of_row _ _ _ _ _ _ h];rfl,fun i=>by simp[World.frozen?,h]⟩
theorem lk2 {w:World} {b:Nat} {v0 v1:Value} {ty:TypeId} (h:w.heap[b]? =some (.cells #[v0,v1] ty (0,0))):
 w.cell? ⟨b,0,none⟩=some v0∧w.cell? ⟨b,1,none⟩=some v1∧(∀i,w.frozen? ⟨b,i,none⟩=false):=by
 refine⟨by rw[cell_of_row _ _ _ _ _ _ h];rfl,by rw[cell_of_row _ _ _ _ _ _ h];rfl,fun i=>by simp[World.frozen?,h]⟩
theorem lk1 {w:World} {b:Nat} {v0:Value} {ty:TypeId} (h:w.heap[b]? =some (.cells #[v0] ty (0,0))):w.cell? ⟨b,0,none⟩=some v0∧w.frozen? ⟨b,0,none⟩=false:=by
 constructor<;>simp[World.cell?,World.frozen?,h]
theorem block_set {w:World} {b:Nat} {cs:Array Value} {ty:TypeId} (h:w.heap[b]? =some (.cells cs ty (0,0))) (i:Nat) (u:Value):(w.setCell ⟨b,i,none⟩ u).heap[b]? =some (.cells (cs.setIfInBounds i u) ty (0,0)):=by
 simpa using Go.Joins.block_setCell (i:=i) h u
structure PD where
 last:UInt64
 rows:List (UInt64×UInt64)
 seen:List (Nm×UInt64)
abbrev deadO (mp ms:Nat) (s:PD):Obj:= .cells #[vU s.last,.map (some mp),.map (some ms)] 186 (0,0)
structure DD (w:World) (p mp ms:Nat) (s:PD):Prop where
 hd:w.heap[p]? =some (deadO mp ms s)
 rm:∃l,PMU w mp l∧l.Perm s.rows
 sm:∃l,PMN w ms l∧l.Perm s.seen
 ne:mp≠ms
 nr:(s.rows.map Prod.fst).Nodup
 ns:(s.seen.map Prod.fst).Nodup
 lr:s.rows.length≤100000
 ls:s.seen.length≤100000
section
variable {w w' : World} {p mp ms : Nat} {s : PD}
theorem DD.pm (h:DD w p mp ms s):p≠mp:=by
 rintro e
 obtain⟨l,hl,-⟩:=h.rm
 obtain⟨es,ck,hb⟩:=hl.block
 rw[←e,h.hd] at hb;cases hb
theorem DD.ps (h:DD w p mp ms s):p≠ms:=by
 rintro e
 obtain⟨l,hl,-⟩:=h.sm
 obtain⟨es,ck,hb⟩:=hl.block
 rw[←e,h.hd] at hb;cases hb
theorem DD.fr (h:DD w p mp ms s) {S:List Nat} (f:Fr S w w') (h1:p∉S) (h2:mp∉S) (h3:ms∉S):DD w' p mp ms s:=by
 obtain⟨l,hl,pl⟩:=h.rm
 obtain⟨k,hk,pk⟩:=h.sm
 exact⟨(f.block p (Array.getElem?_eq_some_iff.1 h.hd).1 h1).trans h.hd,⟨l,hl.fr f h2,pl⟩,⟨k,hk.fr f h3,pk⟩,h.ne,h.nr,h.ns,h.lr,h.ls⟩
theorem DD.ext (h:DD w p mp ms s) (k:Ext w w'):DD w' p mp ms s:=h.fr (S:=[]) (Ext.fr k) (by simp) (by simp) (by simp)
theorem DD.lt (h:DD w p mp ms s):p<w.heap.size∧mp<w.heap.size∧ms<w.heap.size:=by
 obtain⟨l,hl,-⟩:=h.rm
 obtain⟨k,hk,-⟩:=h.sm
 obtain⟨es,ck,hb⟩:=hl.block
 obtain⟨es2,ck2,hb2⟩:=hk.block
 exact⟨(Array.getElem?_eq_some_iff.1 h.hd).1,(Array.getElem?_eq_some_iff.1 hb).1,(Array.getElem?_eq_some_iff.1 hb2).1⟩
end
theorem perm_lookup {α β:Type} [BEq α] [LawfulBEq α] [DecidableEq α] {l m:List (α×β)} (h:l.Perm m) (hn:(m.map Prod.fst).Nodup) (x:α):l.lookup x=m.lookup x:=by
 have hl:(l.map Prod.fst).Nodup:=((h.map Prod.fst).nodup_iff).2 hn
 cases hx:m.lookup x with
 |none=>
  rw[lku_none] at hx⊢
  intro hm
  exact hx ((h.map Prod.fst).mem_iff.1 hm)
 |some b=>exact nodup_lku hl (h.mem_iff.2 (lku_mem hx))
theorem perm_noK {α β:Type} [BEq α] [LawfulBEq α] [DecidableEq α] {l m:List (α×β)} (h:l.Perm m) (x:α):(noK l x).Perm (noK m x):=h.filter _
theorem perm_nodup {α β:Type} {l m:List (α×β)} (h:l.Perm m) (hn:(m.map Prod.fst).Nodup):(l.map Prod.fst).Nodup:=((h.map Prod.fst).nodup_iff).2 hn
theorem noK_nodup {α β:Type} [BEq α] {l:List (α×β)} (hn:(l.map Prod.fst).Nodup) (x:α):((noK l x).map Prod.fst).Nodup:=(List.filter_sublist.map Prod.fst).nodup hn
theorem noK_none {α β:Type} [BEq α] [LawfulBEq α] [DecidableEq α] {l:List (α×β)} {x:α} (h:l.lookup x=none):noK l x=l:=List.filter_eq_self.2 fun z hz=>by
 have:z.1≠x:=fun e=>lku_none.1 h (List.mem_map.2 ⟨z,hz,e⟩)
 simpa using this
theorem noK_len {α β:Type} [BEq α] (l:List (α×β)) (x:α):(noK l x).length≤l.length:=List.length_filter_le _ _
theorem not_mem_noK {α β:Type} [BEq α] [LawfulBEq α] {l:List (α×β)} {x:α}:x∉(noK l x).map Prod.fst:=by
 intro h
 obtain⟨z,hz,e⟩:=List.mem_map.1 h
 have:=(List.mem_filter.1 hz).2
 simp[e] at this
abbrev newD:PD:=⟨0,[],[]⟩
set_option maxHeartbeats 1000000 in
theorem dnew_any (w:World):Calls Tryz.prog 161 #[] w fun e w'=>(∃p mp ms,e= .returned (pv p)∧DD w' p mp ms newD∧w.heap.size≤p∧w.heap.size≤mp∧w.heap.size≤ms)∧Ext w w':=by
 have hmm:= @run_makeMap Tryz.prog
 go_enter Tryz.func161,Tryz.ntmps161
 go_wp2
 go_returns
 refine⟨⟨w.heap.size+1+1,w.heap.size,w.heap.size+1,rfl,?_,by omega,by omega,by omega⟩,((Ext.alloc _ _).trans (Ext.alloc _ _)).trans (Ext.alloc _ _)⟩
 refine⟨?_,⟨[],?_,List.Perm.refl _⟩,⟨[],?_,List.Perm.refl _⟩,by omega,by simp,by simp,by simp,by simp⟩
 · have:=heap_alloc_new ((w.alloc (.map #[] 0)).alloc (.map #[] 0)) (.cells #[.int .u64 0,.map (some w.heap.size),.map (some (w.heap.size+1))] 186 (0,0))
   rw[World.size_alloc,World.size_alloc] at this
   exact this
 · exact((PMU.made w).ext (Ext.alloc _ _)).ext (Ext.alloc _ _)
 · have:=(PMN.made (w.alloc (.map #[] 0))).ext (Ext.alloc _ (.cells #[.int .u64 0,.map (some w.heap.size),.map (some (w.heap.size+1))] 186 (0,0)))
   rw[World.size_alloc] at this
   exact this
theorem dhas_any {w:World} {p mp ms:Nat} {s:PD} (x:UInt64) (h:DD w p mp ms s):
 Calls Tryz.prog 165 #[pv p,vU x] w fun e w'=>e= .returned (.bool (s.rows.lookup x).isSome)∧w=w':=by
 obtain⟨-,c1,-,-⟩:=lk3D h.hd
 obtain⟨l,hl,pl⟩:=h.rm
 have hlk:=hl.look_ok Tryz.underlying133 x
 rw[perm_lookup pl h.nr] at hlk
 clear hl pl h
 go_enter Tryz.func165,Tryz.ntmps165
 go_wp2
 go_ret
 exact⟨rfl,rfl⟩
theorem dlast_any {w:World} {p mp ms:Nat} {s:PD} (h:DD w p mp ms s):
 Calls Tryz.prog 65 #[pv p] w fun e w'=>e= .returned (vU s.last)∧w=w':=by
 obtain⟨c0,-,-,-⟩:=lk3D h.hd
 clear h
 go_enter Tryz.func65,Tryz.ntmps65
 go_wp2
 go_ret
 exact⟨rfl,rfl⟩
def addD (s:PD) (x:UInt64):Bool×PD:=if(s.rows.lookup x).isSome then(false,s) else(true,{s with last:=s.last+1,rows:=s.rows++[(x,s.last+1)]})
def dropD (s:PD) (x:UInt64):Bool×PD:=((s.rows.lookup x).isSome,{s with rows:=noK s.rows x})
def ActD (w:World) (p mp ms:Nat) (b:Bool) (s:PD) (e:Ending) (w':World):Prop:=e= .returned (.bool b)∧DD w' p mp ms s∧Fr [p,mp,ms] w w'
theorem u64_add1 (x:UInt64):IntKind.u64.wrap ((x.toNat:Int)+1)=((x+1).toNat:Int):=by
 have h:=x.toNat_lt
 rw[UInt64.toNat_add]
 simp only[IntKind.wrap,IntKind.signed,IntKind.bits,IntKind.min,IntKind.max]
 simp
set_option maxRecDepth 100000 in
set_option maxHeartbeats 1000000 in
theorem ddrop_any {w:World} {p mp ms:Nat} {s:PD} (x:UInt64) (h:DD w p mp ms s):
 Calls Tryz.prog 170 #[pv p,vU x] w fun e w'=>ActD w p mp ms (dropD s x).1 (dropD s x).2 e w':=by
 have H:=hid h
 obtain⟨-,c1,-,-⟩:=lk3D h.hd
 obtain⟨l,hl,pl⟩:=h.rm
 obtain⟨w2,hrun,hl2,ht⟩:=hl.del Tryz.underlying133 (perm_nodup pl h.nr) x 0
 have hF:=fr_turned (S:=[mp]) ht (by simp)
 have HD:Hid (DD w2 p mp ms (dropD s x).2∧Fr [p,mp,ms] w w2):=hid ⟨⟨(hF.block p h.lt.1 (by simpa using h.pm)).trans h.hd,⟨_,hl2,perm_noK pl x⟩,(by
  obtain⟨k,hk,pk⟩:=h.sm
  exact⟨k,hk.fr hF (by simpa using h.ne.symm),pk⟩),h.ne,noK_nodup h.nr x,h.ns,Nat.le_trans (noK_len _ _) h.lr,h.ls⟩,hF.mono (by simp)⟩
 have HR:=hid hrun
 clear h hl pl hl2 ht hF hrun
 go_enter Tryz.func170,Tryz.ntmps170
 go_wp2_with fail
 refine(dhas_any x H.out).mono ?_
 rintro e w1 ⟨rfl,rfl⟩
 have hr:=HR.out
 go_wp2
 go_ret
 exact⟨rfl,HD.out⟩
end Go.Proofs.YtcfgafododiioaaGreatDoor
namespace Go.Proofs.YtcfgafododiioaaGreatDoor
open Go Go.RowKit Go.Tum Go.ChangeMaps Go.Sort
open Go.ParB (upd Lof)
open Go.ParE (putS slotsR slots Closed)
def OneQ (W:World) (P:World→Prop) (i:Nat) (_:Nat→Value) (w':World):Prop:=(i<1→Ext W w')∧match i with
 |1=>P w'
 |_=>True
set_option maxRecDepth 100000 in
set_option maxHeartbeats 1000000 in
theorem dadd_any {w:World} {p mp ms:Nat} {s:PD} (x:UInt64) (h:DD w p mp ms s) (hlr:s.rows.length≤99999):
 Calls Tryz.prog 168 #[pv p,vU x] w fun e w'=>ActD w p mp ms (addD s x).1 (addD s x).2 e w':=by
 have H:=hid h
 have HLR:=hid hlr
 obtain⟨c0,-,-,ff⟩:=lk3D h.hd
 have f0:=ff 0
 have C0:=hid c0
 have F0:=hid f0
 clear h ff hlr c0 f0
 go_enter Tryz.func168,Tryz.ntmps168
 go_wp2_with fail
 refine(dhas_any x H.out).mono ?_
 rintro e w1 ⟨rfl,rfl⟩
 cases hlk:(s.rows.lookup x).isSome
 case true=>
  have HA:Hid (addD s x=(false,s)):=hid (by unfold addD;rw[if_pos hlk])
  clear hlk
  go_wp2
  go_ret
  unfold ActD
  rw[HA.out]
  exact⟨rfl,H.out,Fr.refl _ _⟩
 have hno:s.rows.lookup x=none:=by
  cases hq:s.rows.lookup x with
  |none=>rfl
  |some b=>rw[hq] at hlk;cases hlk
 have HNO:=hid hno
 have HA:Hid (addD s x=(true,{s with last:=s.last+1,rows:=s.rows++[(x,s.last+1)]})):=hid (by unfold addD;rw[if_neg (by rw[hlk];decide)])
 have c0:=C0.out
 have f0:=F0.out
 clear hlk hno
 go_wp2_with fail
 rw[u64_add1]
 have hF0:Fr [p] w (w.setCell ⟨p,0,none⟩ (vU (s.last+1))):=fr_setCell _ _ _ (by simp)
 have HD1:Hid (DD (w.setCell ⟨p,0,none⟩ (vU (s.last+1))) p mp ms {s with last:=s.last+1}):=hid (by
  obtain⟨l,hl,pl⟩:=H.out.rm
  obtain⟨k,hk,pk⟩:=H.out.sm
  exact⟨block_set H.out.hd 0 _,⟨l,hl.fr hF0 (by simpa using H.out.pm.symm),pl⟩,⟨k,hk.fr hF0 (by simpa using H.out.ps.symm),pk⟩,H.out.ne,H.out.nr,H.out.ns,H.out.lr,H.out.ls⟩)
 have HF0:=hid hF0
 generalize w.setCell ⟨p,0,none⟩ (vU (s.last+1))=W1 at*
 clear hF0 c0 f0
 refine ParE.wp_region_e (l:=[_,_,_,_,_,_,_,_,_,_]) rfl (Rg.Ch [9] [] (OneQ W1 fun w'=>DD w' p mp ms {s with last:=s.last+1,rows:=s.rows++[(x,s.last+1)]}∧Fr [p,mp,ms] W1 w')) (ParC.VC [ParC.EQ (pv p),ParC.EQ (pv p),ParC.EQ (Value.pointer (some ⟨p,1,none⟩)),ParC.EQ (Value.map (some mp)),ParC.EQ (vU x),ParC.EQ (pv p),ParC.EQ (pv p),ParC.EQ (Value.pointer (some ⟨p,0,none⟩)),ParC.EQ (vU (s.last+1)),fun _=>True]) (by kernel_rfl) (by kernel_rfl) (Rg.Ch.start ⟨fun _=>Ext.draw _,trivial⟩) ?_ ?_
 · refine⟨fun L ρ w' hR hC hL hd hk=> ?_,?_⟩
   · exact Par.val_of_run rfl ⟨hR.other (by decide),hk.1⟩
   refine⟨fun L ρ w' hR hC hL hd hk=> ?_,?_⟩
   · obtain⟨(e0:ρ (.tmp 15)=pv p),-⟩:=hk;refine Par.val_k fun K hK=> ?_;unfold Par.val
     (go_simp;exact hK _ _ ⟨hR.other (by decide),rfl⟩)
   refine⟨fun _ _ _ hR _ _ _ hk=>Par.pv [(16,pv p)] hk (by kernel_rfl) ⟨hR.other (by decide),rfl⟩,?_⟩
   refine⟨fun L ρ w' hR hC hL hd hk=> ?_,?_⟩
   · obtain⟨(e0:ρ (.tmp 17)=Value.pointer (some ⟨p,1,none⟩)),-⟩:=hk;refine Par.val_k fun K hK=> ?_;unfold Par.val
     (obtain⟨i,hi,hq⟩:=hR.some 0 rfl (hC.notyet 9 3 hL (by kernel_rfl));have cc:=(lk3D (HD1.out.ext (hq.1 (by omega))).hd).2.1;go_simp;exact hK _ _ ⟨hR.other (by decide),rfl⟩)
   refine⟨fun L ρ w' hR hC hL hd hk=> ?_,?_⟩
   · exact Par.val_of_run rfl ⟨hR.other (by decide),hk.1⟩
   refine⟨fun L ρ w' hR hC hL hd hk=> ?_,?_⟩
   · exact Par.val_of_run rfl ⟨hR.other (by decide),hk.1⟩
   refine⟨fun L ρ w' hR hC hL hd hk=> ?_,?_⟩
   · obtain⟨(e0:ρ (.tmp 20)=pv p),-⟩:=hk;refine Par.val_k fun K hK=> ?_;unfold Par.val
     (go_simp;exact hK _ _ ⟨hR.other (by decide),rfl⟩)
   refine⟨fun _ _ _ hR _ _ _ hk=>Par.pv [(21,pv p)] hk (by kernel_rfl) ⟨hR.other (by decide),rfl⟩,?_⟩
   refine⟨fun L ρ w' hR hC hL hd hk=> ?_,?_⟩
   · obtain⟨(e0:ρ (.tmp 22)=Value.pointer (some ⟨p,0,none⟩)),-⟩:=hk;refine Par.val_k fun K hK=> ?_;unfold Par.val
     (obtain⟨i,hi,hq⟩:=hR.some 0 rfl (hC.notyet 9 8 hL (by kernel_rfl));have cc:=(lk3D (HD1.out.ext (hq.1 (by omega))).hd).1;go_simp;exact hK _ _ ⟨hR.other (by decide),rfl⟩)
   refine⟨fun L ρ w' hR hC hL hd hk=> ?_,?_⟩
   · obtain⟨(e0:ρ (.tmp 18)=Value.map (some mp)),(e1:ρ (.tmp 19)=vU x),(e2:ρ (.tmp 23)=vU (s.last+1)),-⟩:=hk;refine Par.val_k fun K hK=> ?_;unfold Par.val
     (obtain⟨hq,hs⟩:=hR.go 0 rfl hL (.inl rfl) (by decide);have hx:=hq.1 (by decide);have hD:=HD1.out.ext hx;obtain⟨l,hl,pl⟩:=hD.rm;obtain⟨w3,hrun,hl2,ht⟩:=hl.store Tryz.underlying133 (by have:=pl.length_eq;have:=HLR.out;dsimp only at*;omega) (perm_nodup pl hD.nr) x (s.last+1);have hlk:l.lookup x=none:=(perm_lookup pl hD.nr x).trans HNO.out;have hF3:=fr_turned (S:=[mp]) ht (by simp);have hres:Hid (DD w3 p mp ms {s with last:=s.last+1,rows:=s.rows++[(x,s.last+1)]}∧Fr [p,mp,ms] W1 w3):=hid ⟨⟨(hF3.block p hD.lt.1 (by simpa using hD.pm)).trans hD.hd,⟨_,hl2,by rw[noK_none hlk];exact(List.Perm.cons _ pl).trans (List.perm_append_singleton _ _).symm⟩,(by obtain⟨k,hk2,pk⟩:=hD.sm;exact⟨k,hk2.fr hF3 (by simpa using hD.ne.symm),pk⟩),hD.ne,by(have h7:=hD.nr;simp only[List.map_append,List.map_cons,List.map_nil];refine List.nodup_append.2 ⟨h7,by simp,fun a ha b hb=> ?_⟩;simp at hb;subst hb;intro e;exact lku_none.1 HNO.out (e▸ha)),hD.ns,by(have:=HLR.out;simp;omega),hD.ls⟩,(Ext.fr hx).trans (hF3.mono (by simp))⟩;clear hl2 ht hF3 pl hlk hl hD;go_simp;exact hK _ _ ⟨hs none _ _ ⟨fun h=>absurd h (by decide),hres.out⟩,trivial⟩)
   trivial
 intro a' w' inv hR
 have hq:=Par.donesC inv;simp only[Par.donesV,ParC.EQ,true_and,and_true] at hq
 clear inv
 simp only[List.filterMap_cons,List.filterMap_nil,Par.putAll,Act.put,List.setIfInBounds_toArray,List.set_cons_succ,List.set_cons_zero,hq]
 clear hq
 obtain⟨-,hrd,hf⟩:=Rg.Ch.fin hR (by decide) 1 rfl;have HRD:=hid hrd;have HF:=hid hf;clear hrd hf hR
 try clear a'
 go_wp2
 go_ret
 unfold ActD
 rw[HA.out]
 exact⟨rfl,HRD.out,(HF0.out.mono (by simp)).trans HF.out⟩
def Grw (w w':World):Prop:=∃q os,w'=grow (w.drewN q) os
end Go.Proofs.YtcfgafododiioaaGreatDoor
