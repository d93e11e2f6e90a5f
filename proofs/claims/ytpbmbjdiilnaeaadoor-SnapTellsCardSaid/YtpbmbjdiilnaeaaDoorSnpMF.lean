/- The document's Segs.
The document's small.
The rule of ParE for a region in which operations read a slot that a later operation writes:what they read is what it was. 'old' names them:operation and slot.
The document's Save.
SnapSegs.
The document's Segs:its mathematics. -/
import Derived.Test.YtpbmbjdiilnaeaaDoorSnpME
import Derived.Test.YtpbmbjdiilnaeaaDoorParE
import Derived.Test.YtpbmbjdiilnaeaaDoorRgC
import Derived.Laws.Rows
import Derived.Laws.Tables
import Derived.Test.YtpbmbjdiilnaeaaDoorSnpMA
set_option linter.unusedSimpArgs false
set_option linter.unusedVariables false
set_option maxRecDepth 100000
namespace Go.Proofs.YtpbmbjdiilnaeaaDoor
open Go Go.RowKit Go.Tum Go.ChangeMaps Go.Sort Go.Tum.Vint Go.Tum.Crc
theorem rsmall_any (n:Int) (w:World):Calls Tryd.prog 24 #[.int .i64 n] w fun e w'=>e= .returned (.bool (okN n))∧w=w':=by
 obtain⟨R,hR⟩:∃R,okN n=R:=⟨_,rfl⟩
 rw[hR]
 by_cases h1:0≤n
 case neg=>
  have hr:R=false:=by rw[←hR];exact okN_lo (by omega)
  have d1:decide ((0:Int)≤n)=false:=by simp;omega
  subst hr
  clear hR h1
  go_enter Tryd.func24,Tryd.ntmps24
  go_wp2
  go_returns
  exact⟨by first|rfl|simp,rfl⟩
 have d1:decide ((0:Int)≤n)=true:=by simp;omega
 by_cases h2:n≤1000
 case neg=>
  have hr:R=false:=by rw[←hR];exact okN_hi (by omega)
  have d2:decide (n≤1000)=false:=by simp;omega
  subst hr
  clear hR h1 h2
  go_enter Tryd.func24,Tryd.ntmps24
  go_wp2
  go_returns
  exact⟨by first|rfl|simp,rfl⟩
 have d2:decide (n≤1000)=true:=by simp;omega
 have hr:R=true:=by rw[←hR];exact okN_yes (by omega) (by omega)
 subst hr
 clear hR h1 h2
 go_enter Tryd.func24,Tryd.ntmps24
 go_wp2
 go_returns
 exact⟨by first|rfl|simp,rfl⟩
end Go.Proofs.YtpbmbjdiilnaeaaDoor

namespace Go.ParF
open Go.RowKit Go.Par Go.ParE
open Go.ParB (upd Lof Lof_set)
open Go.ParC (VW CInv)

def reads (old:List (Nat×Nat)) (i t:Nat):Bool:=old.any fun p=>p.1==i && p.2==t
def knows (old:List (Nat×Nat)) (ops:List Oper) (V:Nat→Value→World→Prop) (a0:Act) (i:Nat) (ρ:Operand→Value) (w:World):Operand→Prop
 | .tmp t=>match reads old i t with
  |true=>ρ (.tmp t)=a0.tmps.getD t undef
  |false=>match writer ops t with
   |some j=>V j (ρ (.tmp t)) w
   |none=>ρ (.tmp t)=a0.tmps.getD t undef
 |x=>ρ x=a0.eval x
def knowsAll (old:List (Nat×Nat)) (ops:List Oper) (V:Nat→Value→World→Prop) (a0:Act) (i:Nat) (ρ:Operand→Value) (w:World):List Operand→Prop
 |[]=>True
 |x::r=>knows old ops V a0 i ρ w x∧knowsAll old ops V a0 i ρ w r
def okF (old:List (Nat×Nat)) (ops:List Oper) (n:Nat):Bool:=
 (ops.all fun o=>match o.dst with|some d=>decide (d<n)|none=>true) &&
 decide ((ops.filterMap (·.dst)).Nodup) &&
 ops.zipIdx.all fun(o,i)=>
  (o.after.all fun e=> !Region.binds .any e||decide (e.on<i)) &&
  (o.op.operands.all fun x=>match x with
   | .tmp t=>(match writer ops t with
    |some j=>(match reads old i t with
     |true=>(preds ops j).any (fun k=>reach ops 8 k i)
     |false=>o.after.any (fun e=>e.on==j && Region.binds .any e))
    |none=>true)
   |_=>true) &&
  (match o.guard with
   |some (g,_)=>o.after.any (fun e=>e.on==g && Region.binds .any e) && ((ops[g]?).bind (·.dst)).isSome
   |none=>true) &&
  (match o.op with| .select .. =>false|_=>true)
def goals (P:Program) (old:List (Nat×Nat)) (ops:List Oper) (R:(Nat→Bool)→(Nat→Value)→World→Prop) (V:Nat→Value→Prop) (a0:Act):List Oper→Nat→Prop
 |[],_=>True
 |o::r,i=>
  (∀(L:Nat→Bool) (ρ:Operand→Value) (w:World),R L (slotsR ρ) w→Closed ops L→L i=false→(o.after.all fun e=> !Region.binds .any e||L e.on)=true→knowsAll old ops (VW V) a0 i ρ w o.op.operands.toList→val P o ρ w fun v w'=>R (upd L i) (putS (slotsR ρ) o.dst v) w'∧V i v)∧
  goals P old ops R V a0 r (i+1)
theorem goals_at {P:Program} {old:List (Nat×Nat)} {ops:List Oper} {R:(Nat→Bool)→(Nat→Value)→World→Prop} {V:Nat→Value→Prop} {a0:Act}:
 ∀(l:List Oper) (k:Nat),goals P old ops R V a0 l k→∀i o,l[i]? =some o→
  ∀(L:Nat→Bool) (ρ:Operand→Value) (w:World),R L (slotsR ρ) w→Closed ops L→L (k+i)=false→(o.after.all fun e=> !Region.binds .any e||L e.on)=true→knowsAll old ops (VW V) a0 (k+i) ρ w o.op.operands.toList→val P o ρ w fun v w'=>R (upd L (k+i)) (putS (slotsR ρ) o.dst v) w'∧V (k+i) v
 |[],_,_,i,o,h=>by simp at h
 |o::r,k,h,0,o',ho=>by
  simp at ho;subst ho;exact h.1
 |o::r,k,h,i+1,o',ho=>by
  have:=goals_at r (k+1) h.2 i o' (by simpa using ho)
  rw[show k+1+i=k+(i+1) by omega] at this
  exact this
section
variable {P : Program} {ops : List Oper} {R : (Nat → Bool) → (Nat → Value) → World → Prop} {V : Nat → Value → Prop} {a0 : Act} {old : List (Nat × Nat)}
theorem slots_put (hB:okF old ops a0.tmps.size=true) {a:Act} (hs:a.tmps.size=a0.tmps.size) {i:Nat} {o:Oper} (hi:ops[i]? =some o) (v:Value):slots (a.put o.dst v)=putS (slots a) o.dst v:=by
 simp only[okF,Bool.and_eq_true] at hB
 obtain⟨⟨hb1,-⟩,-⟩:=hB
 funext s
 unfold slots putS
 by_cases h:o.dst=some s
 · rw[if_pos h,h,getD_put_same]
   rw[hs]
   have:=List.all_eq_true.1 hb1 o (List.mem_of_getElem? hi)
   simpa[h] using this
 · rw[if_neg h,getD_put_ne h]
theorem step_f {X:World→World→Prop} {V:Nat→Value→World→Prop} {w0:World} {old:List (Nat×Nat)} (hB:okF old ops a0.tmps.size=true) (trans:∀a b c,X a b→X b c→X a c) (stab:∀i v w w',X w w'→V i v w→V i v w')
 {listed:Array Bool} (hls:listed.size=ops.length) {a:Act} {w w':World} {i:Nat} {o:Oper} {v:Value} (hi:ops[i]? =some o)
 (inv:Inv ops X V a0 w0 listed a w) (hX:X w w') (hv:V i v w'):Inv ops X V a0 w0 (listed.setIfInBounds i true) (a.put o.dst v) w':=by
 simp only[okF,Bool.and_eq_true] at hB
 obtain⟨⟨hb1,hb2⟩,hb3⟩:=hB
 have hnd:=of_decide_eq_true hb2
 have hilt:i<listed.size:=by
  have:=(List.getElem?_eq_some_iff.1 hi).1;omega
 refine⟨by rw[size_put];exact inv.size,by rw[defers_put];exact inv.defers,trans _ _ _ inv.ext hX,?_,?_⟩
 · intro j o' d hj hl hd
   by_cases hij:i=j
   · subst hij
     rw[hi] at hj;cases hj
     have hdlt:d<a.tmps.size:=by
      rw[inv.size]
      have:=List.all_eq_true.1 hb1 o (List.mem_of_getElem? hi)
      simpa[hd] using this
     rw[hd,getD_put_same hdlt]
     exact hv
   · have hne:o.dst≠some d:=fun e=>hij (nodup_dst hnd hi hj e hd)
     rw[getD_put_ne hne]
     rw[getD_set_ne false hij] at hl
     exact stab _ _ _ _ hX (inv.done j o' d hj hl hd)
 · intro s hs
   have hne:o.dst≠some s:=fun e=>by
    have:=hs i o hi e
    simp[hilt] at this
   rw[getD_put_ne hne]
   refine inv.old s fun j o' hj hd=> ?_
   have:=hs j o' hj hd
   by_cases hij:i=j
   · subst hij
     rw[hi] at hj;cases hj
     exact absurd hd hne
   · rwa[getD_set_ne false hij] at this

theorem cinv_step (hB:okF old ops a0.tmps.size=true) {listed:Array Bool} (hls:listed.size=ops.length) {a:Act} {w w':World} {i:Nat} {o:Oper} {v:Value} (hi:ops[i]? =some o)
 (inv:CInv ops V a0 listed a w) (hv:V i v):CInv ops V a0 (listed.setIfInBounds i true) (a.put o.dst v) w':=by
 have h:=step_f (X:=fun _ _=>True) (w':=w') hB (fun _ _ _ _ _=>trivial) (fun _ _ _ _ _ h=>h) hls hi inv trivial (show VW V i v w' from hv)
 exact⟨h.size,h.defers,trivial,h.done,h.old⟩
theorem knowsAll_of_inv (hB:okF old ops a0.tmps.size=true) {listed:Array Bool} {a:Act} {w:World} {i:Nat} {o:Oper} (hi:ops[i]? =some o)
 (inv:CInv ops V a0 listed a w) (hC:Closed ops (Lof listed)) (hun:listed.getD i false=false) (hr:∀e∈o.after,Region.binds .any e=true→listed.getD e.on false=true):
 knowsAll old ops (VW V) a0 i a.eval w o.op.operands.toList:=by
 simp only[okF,Bool.and_eq_true] at hB
 obtain⟨⟨hb1,hb2⟩,hb3⟩:=hB
 have hnd:=of_decide_eq_true hb2
 have h3:=List.all_eq_true.1 hb3 (o,i) (by
  rw[List.mem_zipIdx_iff_getElem?];simpa using hi)
 simp only[Bool.and_eq_true] at h3
 obtain⟨⟨⟨_,hop⟩,_⟩,_⟩:=h3
 rw[←Array.all_toList] at hop
 have hop':=List.all_eq_true.1 hop
 generalize o.op.operands.toList=l at hop'
 induction l with
 |nil=>trivial
 |cons x r ih=>
  refine⟨?_,ih fun y hy=>hop' y (List.mem_cons_of_mem _ hy)⟩
  have hx:=hop' x List.mem_cons_self
  cases x with
  |tmp t=>
   simp only[knows]
   cases hw:writer ops t with
   |none=>
    have h9:a.tmps.getD t undef=a0.tmps.getD t undef:=inv.old t fun j o' hj hd=>absurd hd (writer_none hw hj)
    cases reads old i t<;>exact h9
   |some j=>
    obtain⟨o',hj,hd⟩:=writer_some hw
    cases hrd:reads old i t with
    |true=>
     simp only[hw,hrd] at hx⊢
     refine inv.old t fun j' o'' hj' hd'=> ?_
     have e9:=nodup_dst hnd hj' hj hd' hd
     subst e9
     cases hlj:listed.getD j' false with
     |false=>rfl
     |true=>
      exfalso
      obtain⟨k,hk,h2⟩:=List.any_eq_true.1 hx
      have q:Lof listed i=true:=hC.ran 8 k i h2 (hC.pred hlj hk)
      have q2:listed.getD i false=true:=q
      rw[hun] at q2;cases q2
    |false=>
     simp only[hw,hrd] at hx⊢
     obtain⟨e,he,hx⟩:=(any_mem _ _).1 hx
     simp only[Bool.and_eq_true,beq_iff_eq] at hx
     have:=hr e he hx.2
     rw[hx.1] at this
     exact inv.done j o' t hj this hd
  |const v=>rfl
  |global g=>rfl
  |func f=>rfl
theorem wpAny_f (Q:Exit→Act→World→Prop) (hB:okF old ops a0.tmps.size=true) (hng:(ops.all fun o=>o.guard.isNone)=true) (hg:goals P old ops R V a0 ops 0)
 (fin:∀a w,CInv ops V a0 (Array.replicate ops.length true) a w→R (Lof (Array.replicate ops.length true)) (slots a) w→Q .normal a w):
 ∀(fuel:Nat) (listed:Array Bool) (a:Act) (w:World),listed.size=ops.length→(listed.toList.filter (· ==false)).length≤fuel→
  CInv ops V a0 listed a w→Closed ops (Lof listed)→R (Lof listed) (slots a) w→wpAny P .any ops.toArray Q fuel listed a w:=by
 have hB':=hB
 simp only[okF,Bool.and_eq_true] at hB'
 have hb3:=hB'.2
 have ended:∀(listed:Array Bool) (a:Act) (w:World),listed.size=ops.length→CInv ops V a0 listed a w→R (Lof listed) (slots a) w→Region.ready .any ops.toArray listed=[]→Q .normal a w:=by
  intro listed a w hls inv hR hnil
  have all:∀n i,i≤n→i<ops.length→listed.getD i false=true:=by
   intro n
   induction n with
   |zero=>
    intro i hi hlt
    obtain rfl:i=0:=by omega
    cases hl:listed.getD 0 false with
    |true=>rfl
    |false=>
     exfalso
     have:0∈Region.ready .any ops.toArray listed:=by
      rw[mem_ready]
      refine⟨by simp[hls▸hlt] at hl⊢;exact hl,ops[0],by simp[hlt],fun e he hb=> ?_⟩
      have h3:=List.all_eq_true.1 hb3 (ops[0],0) (by rw[List.mem_zipIdx_iff_getElem?];simp[hlt])
      simp only[Bool.and_eq_true] at h3
      have:=(Array.all_eq_true_iff_forall_mem.1 h3.1.1.1) e he
      simp[hb] at this
     rw[hnil] at this;cases this
   |succ n ih=>
    intro i hi hlt
    cases hl:listed.getD i false with
    |true=>rfl
    |false=>
     exfalso
     have:i∈Region.ready .any ops.toArray listed:=by
      rw[mem_ready]
      refine⟨by simp[hls▸hlt] at hl⊢;exact hl,ops[i],by simp[hlt],fun e he hb=> ?_⟩
      have h3:=List.all_eq_true.1 hb3 (ops[i],i) (by rw[List.mem_zipIdx_iff_getElem?];simp[hlt])
      simp only[Bool.and_eq_true] at h3
      have:=(Array.all_eq_true_iff_forall_mem.1 h3.1.1.1) e he
      simp[hb] at this
      exact ih e.on (by omega) (by omega)
     rw[hnil] at this;cases this
  have he:listed=Array.replicate ops.length true:=by
   apply Array.ext
   · simp[hls]
   · intro i h1 h2
     have:=all i i (Nat.le_refl _) (by simpa using h2)
     simp[h1] at this
     simp[this]
  subst he
  exact fin a w inv hR
 intro fuel
 induction fuel with
 |zero=>
  intro listed a w hls hf inv hC hR
  have hnil:Region.ready .any ops.toArray listed=[]:=by
   rw[List.eq_nil_iff_forall_not_mem]
   intro i hi
   have h0:=(mem_ready.1 hi).1
   have hlt:i<listed.size:=by
    rcases Nat.lt_or_ge i listed.size with h'|h'
    · exact h'
    · simp[Array.getElem?_eq_none h'] at h0
   simp[hlt] at h0
   have:false∈listed.toList.filter (· ==false):=by
    rw[List.mem_filter]
    exact⟨by rw[←h0];exact Array.mem_toList_iff.2 (Array.getElem_mem hlt),rfl⟩
   have:=List.length_pos_of_mem this
   omega
  exact⟨hnil,ended listed a w hls inv hR hnil⟩
 |succ fuel ih=>
  intro listed a w hls hf inv hC hR
  refine⟨ended listed a w hls inv hR,fun i hi=> ?_⟩
  obtain⟨hun,o,ho,hr⟩:=mem_ready.1 hi
  have ho':ops[i]? =some o:=by simpa using ho
  have hlt:i<listed.size:=by
   rcases Nat.lt_or_ge i listed.size with h'|h'
   · exact h'
   · simp[Array.getElem?_eq_none h'] at hun
  have hcount:((listed.setIfInBounds i true).toList.filter (· ==false)).length≤fuel:=by
   have h1:listed[i]=false:=by simpa[hlt] using hun
   have:∀(l:List Bool) (k:Nat) (hk:k<l.length),l[k]=false→((l.set k true).filter (· ==false)).length+1=(l.filter (· ==false)).length:=by
    intro l
    induction l with
    |nil=>intro k hk;simp at hk
    |cons b l ihl=>
     intro k hk hb
     match k with
     |0=>simp at hb;subst hb;simp
     |k+1=>
      simp at hb
      have:=ihl k (by simpa using hk) hb
      rw[List.set_cons_succ,List.filter_cons,List.filter_cons]
      split
      · rw[List.length_cons,List.length_cons];omega
      · exact this
   have:=this listed.toList i (by simpa using hlt) (by simpa using h1)
   simp only[Array.toList_setIfInBounds]
   omega
  have hg':=goals_at ops 0 hg i o ho'
  simp only[Nat.zero_add] at hg'
  have next:∀v w',R (upd (Lof listed) i) (putS (slots a) o.dst v) w'→V i v→wpAny P .any ops.toArray Q fuel (listed.setIfInBounds i true) (a.put o.dst v) w':=fun v w' hR hv=>
   ih _ _ _ (by simpa using hls) hcount (cinv_step hB hls ho' inv hv) (by rw[Lof_set hlt];exact hC.step ho' hr) (by rw[Lof_set hlt,slots_put hB inv.size ho'];exact hR)
  have hLi:Lof listed i=false:=by unfold Lof;simp[hlt] at hun⊢;exact hun
  have hgn:o.guard=none:=by
   have:=List.all_eq_true.1 hng o (List.mem_of_getElem? ho')
   simpa using this
  unfold wpOp
  simp only[ho]
  split
  · left
    refine wp_of_val (hg' (Lof listed) a.eval w hR hC hLi ?_ (knowsAll_of_inv hB ho' inv hC hLi hr)) fun v w' h=>next v w' h.1 h.2
    rw[Array.all_eq_true_iff_forall_mem]
    intro e he
    by_cases hb:Region.binds .any e=true
    · have:=hr e he hb
      unfold Lof
      simp[hb,this]
    · simp[hb]
  · rename_i hw
    unfold Region.wanted at hw
    simp[hgn] at hw
theorem wp_region_f {id:Nat} {Q:Exit→Act→World→Prop} {l:List Oper} (hm:P.follows .mixedOrders=true) (old:List (Nat×Nat)) {a0:Act} {w0:World} (R:(Nat→Bool)→(Nat→Value)→World→Prop) (V:Nat→Value→Prop)
 (hB:okF old l a0.tmps.size=true) (hng:(l.all fun o=>o.guard.isNone)=true) (h0:R (fun _=>false) (slots a0) {w0 with drawn:=w0.drawn+1}) (hg:goals P old l R V a0 l 0)
 (fin:∀a w,CInv l V a0 (Array.replicate l.length true) a w→R (Lof (Array.replicate l.length true)) (slots a) w→Q .normal (putAll a0 a (l.filterMap (·.dst))) w):
 (Code.region id l.toArray true).wp P Q a0 w0:=by
 refine wp_region_any hm ?_
 refine wpAny_f Q hB hng hg (fun a w inv hR=>by have:=fin a w inv hR;rw[←Par.Inv.act inv] at this;exact this) _ _ _ _ (by simp) (by simp) ⟨rfl,rfl,trivial,?_,fun _ _=>rfl⟩ ?_ ?_
 · intro j o d hj hl
   simp[Array.getElem?_replicate] at hl
   split at hl<;>simp_all
 · intro k o hk hl
   unfold Lof at hl
   simp[Array.getElem?_replicate] at hl
   split at hl<;>simp_all
 · have:Lof (Array.replicate l.length false)=fun _=>false:=by
    funext k;unfold Lof
    simp[Array.getElem?_replicate]
    split<;>simp
   rw[List.size_toArray,this];exact h0
end
end Go.ParF

set_option linter.unusedSimpArgs false
set_option linter.unusedVariables false
set_option maxRecDepth 100000
namespace Go.Proofs.YtpbmbjdiilnaeaaDoor
open Go Go.RowKit Go.Tum Go.ChangeMaps Go.Sort Go.Tum.Vint Go.Tum.Crc
open Go.ParB (upd Lof)
open Go.ParE (putS slotsR slots Closed)

/-- What the document's Save answers. -/
def SvP (w:World) (s:Snp) (e:Ending) (w':World):Prop:=
 (if rightS s=true then∃v,e= .returned (.tuple #[v,.int .i64 0])∧RcsO w' w.heap.size 71 v (saveR s) else e= .returned (.tuple #[.slice none 0 0,.int .i64 1]))∧Ext w w'
theorem SvP.no {w w':World} {s:Snp} {e:Ending} (h:rightS s=false) (he:e= .returned (.tuple #[.slice none 0 0,.int .i64 1])) (hx:Ext w w'):SvP w s e w':=by
 unfold SvP
 rw[h,if_neg (by decide)]
 exact⟨he,hx⟩
theorem SvP.yes {w w':World} {s:Snp} {v:Value} (h:rightS s=true) (ho:RcsO w' w.heap.size 71 v (saveR s)) (hx:Ext w w'):SvP w s (.returned (.tuple #[v,.int .i64 0])) w':=by
 unfold SvP
 rw[if_pos h]
 exact⟨⟨v,rfl,ho⟩,hx⟩
theorem rsm_is {n:Int} {b:Bool} (h:okN n=b) (w:World):Calls Tryd.prog 24 #[.int .i64 n] w fun e w'=>e= .returned (.bool b)∧w=w':=by
 subst h
 exact rsmall_any n w
theorem RcsO.lit1 {w:World} {B g:Nat} {y:Rc} {r:Value} (hb:w.heap[g]? =some (.cells #[.int .i64 y.kind,r,.string (str y.text)] 71 (0,0))) (hr:OwV uv w B 22 r y.n) (hB:B≤g):RcsO w B 71 (.slice (some ⟨g,0,none⟩) 1 1) [y]:=by
 refine⟨[(y,r)],rfl,⟨rfl,.inr ⟨g,1,_,rfl,hB,hb,Nat.le_refl _,by simp[maxLen],rfl,rfl⟩⟩,fun p hp=> ?_⟩
 rw[List.mem_singleton] at hp
 subst hp
 exact hr
/-- What Save holds:its row v of records,the state's box. -/
structure RvS (w0 w:World) (st:Nat) (D:Array Value) (v:Value) (l:List Rc):Prop where
 own:RcsO w w0.heap.size 71 v l
 stt:w.heap[st]? =some (.cells D 37 (0,0))
 low:Ext w0 w
theorem RvS.ext {w0 w w':World} {st:Nat} {D:Array Value} {v:Value} {l:List Rc} (h:RvS w0 w st D v l) (k:Ext w w'):RvS w0 w' st D v l:=⟨h.own.ext k,k.obj h.stt,h.low.trans k⟩
theorem RvS.app {w0 w w':World} {st:Nat} {D:Array Value} {v v':Value} {l:List Rc} {y:Rc} (h:RvS w0 w st D v l) (ho:RcsO w' w0.heap.size 71 v' (l++[y])) (hg:w.grownBy w' v.ownBlock) (hb:Below w0.heap.size w w'):RvS w0 w' st D v' (l++[y]):=
 ⟨ho,((fr_grown hg hb).block st (Array.getElem?_eq_some_iff.1 h.stt).1 (RcsO.notIn h.own h.stt (by decide))).trans h.stt,h.low.below hb⟩
theorem run_append_rc {P:Program} (t:Nat) (base T:Nat) (ht:P.underlying t=some (.slice T))
 (hi:(P.info? T).map (fun i=>(i.zero,i.size,i.bytes))=some (some (.agg #[.int .i64 0,.slice none 0 0,.string ⟨#[]⟩]),3,48)) (hT:22≠T)
 {w:World} {v:Value} {l:List Rc} (hown:RcsO w base T v l) {g:Nat} {y:Rc} {r:Value}
 {ty:TypeId} {fr:Nat×Nat} (hblk:w.heap[g]? =some (.cells #[.int .i64 y.kind,r,.string (str y.text)] ty fr)) (hr:OwV uv w base 22 r y.n)
 (N:Nat) (hN:N=l.length+1) (hb:N*48≤140737488355328) (hbase:base≤w.heap.size) (ty2:Nat):
 ∃ao cap w',(Builtin.append_ #[t,t] ty2 #[v,.slice (some ⟨g,0,none⟩) 1 1]).run P w= .ok (.slice ao N cap) w'∧RcsO w' base T (.slice ao N cap) (l++[y])∧w.grownBy w' v.ownBlock∧Below base w w':=by
 subst hN
 obtain⟨m,rfl,h2,h3⟩:=hown
 have hone:r.oneCell'=true:=by
  obtain⟨ao,cap,rfl,_⟩:=hr.vec.open
  rfl
 have hsl:Sl w 3 (.slice (some ⟨g,0,none⟩) 1 1) 1 [.int .i64 y.kind,r,.string (str y.text)]:=by
  refine⟨rfl,some ⟨g,0,none⟩,1,rfl,Nat.le_refl _,by simp[maxLen],(fun h=>by cases h),fun a ha j u hu=> ?_⟩
  cases ha
  have e1:(⟨g,0,none⟩:Addr).add j=⟨g,j,none⟩:=by unfold Addr.add;split<;>simp_all
  rw[e1,cell_of_row _ _ _ _ _ _ hblk]
  simpa using hu
 have hlen:(m.map (·.1)).length=m.length:=by simp
 rw[hlen] at hb⊢
 obtain⟨ao,cap,w',r1,k1,k2,k3⟩:=run_append_sl (P:=P) base t ty2 T ht hi rfl (by decide) h2 hsl (by
  intro y' hy'
  simp at hy'
  rcases hy' with rfl|rfl|rfl
  · rfl
  · exact hone
  · rfl) (by simp[maxLen];omega) (by omega) hbase
 refine⟨ao,cap,w',r1,⟨m++[(y,r)],by simp,by simpa using k1,?_⟩,k2,k3⟩
 intro p hp
 rcases List.mem_append.1 hp with hp|hp
 · exact rows_far (h3 p hp) h2 hT k2
 · simp at hp;subst hp
   exact rows_far hr h2 hT k2
theorem nn_cell {w:World} {g:Nat} {cs:Array Value} {ty:TypeId} (h:w.heap[g]? =some (.cells cs ty (0,0))) (B:Nat) (hB:B≤g) (ns:List UInt64) (hl:cs.toList=ns.map uv) (n:Nat) (hn:n=ns.length) (hm:ns.length≤maxLen):OwV uv w B ty (.slice (some ⟨g,0,none⟩) n n) ns:=owv_of_heap h B hB ns hl n hn hm
def RvD (w0 W:World) (st:Nat) (D:Array Value) (l:List Rc) (ns:List UInt64) (tx:List UInt8) (i:Nat) (σ:Nat→Value) (w':World):Prop:=(i<4→Ext W w')∧match i with
 |1=>∃g,σ 122= .slice (some ⟨g,0,none⟩) 2 2∧OwV uv w' w0.heap.size 22 (.slice (some ⟨g,0,none⟩) 2 2) ns
 |2=>∃g,σ 123= .agg #[.int .i64 15,.slice (some ⟨g,0,none⟩) 2 2,.string (str tx)]∧OwV uv w' w0.heap.size 22 (.slice (some ⟨g,0,none⟩) 2 2) ns
 |3=>∃g q,σ 124= .slice (some ⟨q,0,none⟩) 1 1∧w'.heap[q]? =some (.cells #[.int .i64 15,.slice (some ⟨g,0,none⟩) 2 2,.string (str tx)] 71 (0,0))∧OwV uv w' w0.heap.size 22 (.slice (some ⟨g,0,none⟩) 2 2) ns
 |4=>RvS w0 w' st D (σ 125) (l++[⟨15,ns,tx⟩])
 |5=>RvS w0 w' st D (σ 5) (l++[⟨15,ns,tx⟩])
 |_=>True
def RvC (w0 W:World) (st:Nat) (D:Array Value) (l:List Rc) (ns:List UInt64) (tx:List UInt8) (i:Nat) (σ:Nat→Value) (w':World):Prop:=(i<4→Ext W w')∧match i with
 |1=>∃g,σ 148= .slice (some ⟨g,0,none⟩) 1 1∧OwV uv w' w0.heap.size 22 (.slice (some ⟨g,0,none⟩) 1 1) ns
 |2=>∃g,σ 155= .agg #[.int .i64 16,.slice (some ⟨g,0,none⟩) 1 1,.string (str tx)]∧OwV uv w' w0.heap.size 22 (.slice (some ⟨g,0,none⟩) 1 1) ns
 |3=>∃g q,σ 156= .slice (some ⟨q,0,none⟩) 1 1∧w'.heap[q]? =some (.cells #[.int .i64 16,.slice (some ⟨g,0,none⟩) 1 1,.string (str tx)] 71 (0,0))∧OwV uv w' w0.heap.size 22 (.slice (some ⟨g,0,none⟩) 1 1) ns
 |4=>RvS w0 w' st D (σ 157) (l++[⟨16,ns,tx⟩])
 |5=>RvS w0 w' st D (σ 5) (l++[⟨16,ns,tx⟩])
 |_=>True
set_option maxHeartbeats 4000000 in
theorem rsave_any (s:Snp) (vi vd vc:Value) (w:World) (h:SnpIn w s vi vd vc) (hl:s.items.length≤100000∧s.dead.length≤100000∧s.curs.length≤100000):
 Calls Tryd.prog 11 #[.agg (snpC s vi vd vc)] w fun e w'=>SvP w s e w':=by
 obtain⟨io,ic,rfl,hile,himx,hinn,hicell⟩:=h.it.open
 obtain⟨do_,dc,rfl,hdle,hdmx,hdnn,hdcell⟩:=h.dd.open
 obtain⟨co,cc,rfl,hcle,hcmx,hcnn,hccell⟩:=h.cu.open
 have HIC:=hid hicell
 have HINN:=hid hinn
 have HDC:=hid hdcell
 have HDNN:=hid hdnn
 have HCC:=hid hccell
 have HCNN:=hid hcnn
 obtain⟨S,hS⟩:∃S,s=S:=⟨_,rfl⟩
 have HSS:=hid hS
 have HRT:Hid (rightS S=(s.items.all okIt && s.curs.all fun c=>decide (c.1.length≤64))):=hid (by rw[←hS];rfl)
 obtain⟨now,next,lea,trn,dth,items,dead,curs,sg,ps⟩:=s
 obtain⟨n,hn⟩:∃n,items.length=n:=⟨_,rfl⟩
 obtain⟨nd,hnd⟩:∃n,dead.length=n:=⟨_,rfl⟩
 obtain⟨m,hm⟩:∃n,curs.length=n:=⟨_,rfl⟩
 unfold snpC
 dsimp only at hile hdle hcle hl HIC HDC HCC HRT⊢
 rw[hn] at hile hl⊢
 rw[hnd] at hdle hl⊢
 rw[hm] at hcle hl⊢
 have HN:=hid hn
 have HND:=hid hnd
 have HM:=hid hm
 rw[hS]
 have HL:=hid hl
 obtain⟨W0,hW0⟩:∃W,w.alloc (.cells #[uv now,uv next,uv lea,uv trn,uv dth,.slice io n ic,.slice do_ nd dc,.slice co m cc,uv sg,uv ps] 39 (0,0))=W:=⟨_,rfl⟩
 have hE0:=Ext.alloc w (.cells #[uv now,uv next,uv lea,uv trn,uv dth,.slice io n ic,.slice do_ nd dc,.slice co m cc,uv sg,uv ps] 39 (0,0))
 have hb0:=heap_alloc_new w (.cells #[uv now,uv next,uv lea,uv trn,uv dth,.slice io n ic,.slice do_ nd dc,.slice co m cc,uv sg,uv ps] 39 (0,0))
 rw[hW0] at hE0 hb0
 obtain⟨⟨b0,b1,b2,b3,b4,b5,b6,b7,b8,b9⟩,bf⟩:=blk10 hb0
 obtain⟨W1,hW1⟩:∃W,W0.alloc (.cells #[uv now,uv next,uv lea,uv trn,uv dth,.slice io n ic,.slice do_ nd dc,.slice co m cc] 37 (0,0))=W:=⟨_,rfl⟩
 have hE1:=Ext.alloc W0 (.cells #[uv now,uv next,uv lea,uv trn,uv dth,.slice io n ic,.slice do_ nd dc,.slice co m cc] 37 (0,0))
 have hb1:=heap_alloc_new W0 (.cells #[uv now,uv next,uv lea,uv trn,uv dth,.slice io n ic,.slice do_ nd dc,.slice co m cc] 37 (0,0))
 rw[hW1] at hE1 hb1
 obtain⟨⟨x0,x1,x2,x3,x4,x5,x6,x7,x8,x9⟩,xf⟩:=blk10 (hE1.obj hb0)
 obtain⟨st,hst⟩:∃q,W0.heap.size=q:=⟨_,rfl⟩
 rw[hst] at hb1
 obtain⟨⟨d0,d1,d2,d3,d4,d5,d6,d7⟩,df⟩:=blk8s hb1
 obtain⟨W2,hW2⟩:∃W,W1.alloc (.cells #[uv now,uv next,uv lea,uv trn,uv dth,uv sg,uv ps] 22)=W:=⟨_,rfl⟩
 have hE2:=Ext.alloc W1 (.cells #[uv now,uv next,uv lea,uv trn,uv dth,uv sg,uv ps] 22)
 have hb2:=owv_lit W1 w.heap.size 22 [now,next,lea,trn,dth,sg,ps] #[uv now,uv next,uv lea,uv trn,uv dth,uv sg,uv ps] rfl 7 rfl (hE0.trans hE1).size (by simp[maxLen])
 rw[hW2] at hE2 hb2
 obtain⟨W3,hW3⟩:∃W,W2.alloc (.cells #[.int .i64 13,.slice (some ⟨W1.heap.size,0,none⟩) 7 7,.string ⟨#[]⟩] 71)=W:=⟨_,rfl⟩
 have hE3:=Ext.alloc W2 (.cells #[.int .i64 13,.slice (some ⟨W1.heap.size,0,none⟩) 7 7,.string ⟨#[]⟩] 71)
 have hb3:=heap_alloc_new W2 (.cells #[.int .i64 13,.slice (some ⟨W1.heap.size,0,none⟩) 7 7,.string ⟨#[]⟩] 71)
 rw[hW3] at hE3 hb3
 obtain⟨LB,hLB⟩:∃l:List Rc,[⟨13,[now,next,lea,trn,dth,sg,ps],[]⟩]=l:=⟨_,rfl⟩
 have HLB:=hid hLB
 have HLBn:Hid (LB.length=1):=hid (by rw[←hLB];rfl)
 obtain⟨q2,hq2⟩:∃q,W2.heap.size=q:=⟨_,rfl⟩
 have HS3:Hid (RvS w W3 st #[uv now,uv next,uv lea,uv trn,uv dth,.slice io n ic,.slice do_ nd dc,.slice co m cc] (.slice (some ⟨q2,0,none⟩) 1 1) LB):=hid ⟨by rw[←hLB,←hq2];exact RcsO.lit1 (y:=⟨13,[now,next,lea,trn,dth,sg,ps],[]⟩) hb3 (hb2.ext hE3) (hE0.trans (hE1.trans hE2)).size,(hE2.trans hE3).obj hb1,hE0.trans (hE1.trans (hE2.trans hE3))⟩
 obtain⟨⟨y0,y1,y2,y3,y4,y5,y6,y7⟩,yf⟩:=blk8s HS3.out.stt
 clear h hinn hicell hdnn hdcell hcnn hccell hn hnd hm hS hl hE0 hb0 hE1 hb1 hE2 hb2 hE3 hb3 hLB
 go_enter Tryd.func11,Tryd.ntmps11
 go_wp2_with (first|rw[hW0]|rw[hW1]|rw[hW2]|rw[hW3])
 clear b0 b1 b2 b3 b4 b5 b6 b7 b8 b9 bf x0 x1 x2 x3 x4 x5 x6 x7 x8 x9 xf d0 d1 d2 d3 d4 d5 d6 d7 df y0 y1 y2 y3 y4 y5 y6 y7 yf hW0 hW1 hW2 hW3
 try rw[hst]
 try rw[hq2]
 clear hst hq2
 go_loopw [5,6] (fun ov iv wr=>∃(k:Nat) (vo:Option Addr) (vc:Nat),k≤n∧iv= .int .i64 (k:Int)∧ov= .slice vo (k+1) vc∧Hid ((items.take k).all okIt=true)∧Hid (RvS w wr st #[uv now,uv next,uv lea,uv trn,uv dth,.slice io n ic,.slice do_ nd dc,.slice co m cc] (.slice vo (k+1) vc) (LB++(items.take k).map liveRc))) (fun _ iv _=>n - (intOf iv).toNat)
 case atStart=>exact⟨0,_,_,Nat.zero_le _,rfl,rfl,hid rfl,hid (by simpa using HS3.out)⟩
 case round=>
  clear HS3
  obtain⟨k,vo,vc,hk,rfl,rfl,HOK,HS⟩:=hrel
  obtain⟨⟨d0,d1,d2,d3,d4,d5,d6,d7⟩,df⟩:=blk8s HS.out.stt
  by_cases hlt:k<n
  · have hkj:decide ((k:Int)<(n:Int))=true:=by simp;omega
    have hkj2:(k:Int)<(n:Int):=by omega
    obtain⟨g,rfl⟩:=HINN.out (by omega)
    have hltL:k<items.length:=by rw[HN.out];exact hlt
    have hc:=fun j u h=>HS.out.low.cell (HIC.out g rfl k hltL j u h)
    have HNO:Hid (okIt (items[k]'hltL)=false→rightS S=false):=hid (fun h=>by rw[HRT.out,all_no okIt items k hltL h];rfl)
    have HYES:Hid (okIt (items[k]'hltL)=true→(items.take (k+1)).all okIt=true):=hid (fun h=>by rw[all_succ okIt items k hltL,HOK.out,h];rfl)
    have HTK:Hid (LB++(items.take (k+1)).map liveRc=(LB++(items.take k).map liveRc)++[liveRc (items[k]'hltL)]):=hid (by rw[List.take_succ_eq_append_getElem hltL,List.map_append,List.append_assoc];rfl)
    have hTL:(LB++(items.take k).map liveRc).length=k+1:=by rw[List.length_append,List.length_map,List.length_take,HLBn.out];omega
    obtain⟨T,hT⟩:∃T,LB++(items.take k).map liveRc=T:=⟨_,rfl⟩
    rw[hT] at HS HTK hTL
    have HTL:=hid hTL
    obtain⟨o,ho⟩:∃o,items[k]'hltL=o:=⟨_,rfl⟩
    rw[ho] at hc HTK HNO HYES
    obtain⟨id,lane,st',cnt,due,tok,turn,seg,ps',size⟩:=o
    have k0:=cell_first (hc 0 _ rfl)
    have k1:=cell_next (hc 1 _ rfl) (by decide)
    have k2:=cell_next (hc 2 _ rfl) (by decide)
    have k3:=cell_next (hc 3 _ rfl) (by decide)
    have k4:=cell_next (hc 4 _ rfl) (by decide)
    have k5:=cell_next (hc 5 _ rfl) (by decide)
    have k6:=cell_next (hc 6 _ rfl) (by decide)
    have k7:=cell_next (hc 7 _ rfl) (by decide)
    have k8:=cell_next (hc 8 _ rfl) (by decide)
    have k9:=cell_next (hc 9 _ rfl) (by decide)
    obtain⟨V1,hV1⟩:∃W,wr.alloc (.cells #[uv id,.int .i64 lane,.int .i64 st',.int .i64 cnt,uv due,uv tok,uv turn,uv seg,uv ps',.int .i64 size] 87 (0,0))=W:=⟨_,rfl⟩
    have hE1:=Ext.alloc wr (.cells #[uv id,.int .i64 lane,.int .i64 st',.int .i64 cnt,uv due,uv tok,uv turn,uv seg,uv ps',.int .i64 size] 87 (0,0))
    have hn1:=heap_alloc_new wr (.cells #[uv id,.int .i64 lane,.int .i64 st',.int .i64 cnt,uv due,uv tok,uv turn,uv seg,uv ps',.int .i64 size] 87 (0,0))
    rw[hV1] at hE1 hn1
    obtain⟨⟨m0,m1,m2,m3,m4,m5,m6,m7,m8,m9⟩,mf⟩:=blk10 hn1
    have HS1:=hid (HS.out.ext hE1)
    have HLK:=hid hlt
    have hwk:IntKind.i64.wrap ((k:Int)+1)=((k+1:Nat):Int):=i64v _ (by omega) (by have:=HL.out;omega)
    clear hc ho hE1 hn1 hltL hlt HS hT hTL HOK
    by_cases q0:okN lane=true
    case neg=>
     replace q0:okN lane=false:=by simpa using q0
     have HF:Hid (rightS S=false):=hid (HNO.out (by unfold okIt;simp only[q0,Bool.true_and,Bool.false_and,Bool.and_false]))
     clear HNO HYES
     go_wp2_with (first|rw[hV1]|fail)
     refine(rsm_is q0 V1).mono ?_
     rintro e V9 ⟨rfl,rfl⟩
     go_wp2_with (first|rw[hV1]|fail)
     go_returns
     exact SvP.no HF.out rfl HS1.out.low
    by_cases q1:okN st'=true
    case neg=>
     replace q1:okN st'=false:=by simpa using q1
     have HF:Hid (rightS S=false):=hid (HNO.out (by unfold okIt;simp only[q0,q1,Bool.true_and,Bool.false_and,Bool.and_false]))
     clear HNO HYES
     go_wp2_with (first|rw[hV1]|fail)
     refine(rsm_is q0 V1).mono ?_
     rintro e V9 ⟨rfl,rfl⟩
     go_wp2_with (first|rw[hV1]|fail)
     refine(rsm_is q1 V1).mono ?_
     rintro e V9 ⟨rfl,rfl⟩
     go_wp2_with (first|rw[hV1]|fail)
     go_returns
     exact SvP.no HF.out rfl HS1.out.low
    by_cases q2:okN cnt=true
    case neg=>
     replace q2:okN cnt=false:=by simpa using q2
     have HF:Hid (rightS S=false):=hid (HNO.out (by unfold okIt;simp only[q0,q1,q2,Bool.true_and,Bool.false_and,Bool.and_false]))
     clear HNO HYES
     go_wp2_with (first|rw[hV1]|fail)
     refine(rsm_is q0 V1).mono ?_
     rintro e V9 ⟨rfl,rfl⟩
     go_wp2_with (first|rw[hV1]|fail)
     refine(rsm_is q1 V1).mono ?_
     rintro e V9 ⟨rfl,rfl⟩
     go_wp2_with (first|rw[hV1]|fail)
     refine(rsm_is q2 V1).mono ?_
     rintro e V9 ⟨rfl,rfl⟩
     go_wp2_with (first|rw[hV1]|fail)
     go_returns
     exact SvP.no HF.out rfl HS1.out.low
    by_cases q3:okN size=true
    case neg=>
     replace q3:okN size=false:=by simpa using q3
     have HF:Hid (rightS S=false):=hid (HNO.out (by unfold okIt;simp only[q0,q1,q2,q3,Bool.true_and,Bool.false_and,Bool.and_false]))
     clear HNO HYES
     go_wp2_with (first|rw[hV1]|fail)
     refine(rsm_is q0 V1).mono ?_
     rintro e V9 ⟨rfl,rfl⟩
     go_wp2_with (first|rw[hV1]|fail)
     refine(rsm_is q1 V1).mono ?_
     rintro e V9 ⟨rfl,rfl⟩
     go_wp2_with (first|rw[hV1]|fail)
     refine(rsm_is q2 V1).mono ?_
     rintro e V9 ⟨rfl,rfl⟩
     go_wp2_with (first|rw[hV1]|fail)
     refine(rsm_is q3 V1).mono ?_
     rintro e V9 ⟨rfl,rfl⟩
     go_wp2_with (first|rw[hV1]|fail)
     go_returns
     exact SvP.no HF.out rfl HS1.out.low
    have HOK2:=hid (HYES.out (by unfold okIt;simp only[q0,q1,q2,q3,Bool.true_and,Bool.and_true]))
    have Q0:=hid q0
    have Q1:=hid q1
    have Q2:=hid q2
    have Q3:=hid q3
    clear HNO HYES q0 q1 q2 q3
    obtain⟨a1,ha1,hu1,hb1⟩:=okN_u Q0.out
    obtain⟨a2,ha2,hu2,hb2⟩:=okN_u Q1.out
    obtain⟨a3,ha3,hu3,hb3⟩:=okN_u Q2.out
    obtain⟨a4,ha4,hu4,hb4⟩:=okN_u Q3.out
    subst ha1 ha2 ha3 ha4
    have HLV:Hid (liveRc ⟨id,(a1.toNat:Int),(a2.toNat:Int),(a3.toNat:Int),due,tok,turn,seg,ps',(a4.toNat:Int)⟩=⟨14,[id,a1,a2,a3,due,tok,turn,seg,ps',a4],[]⟩):=hid (by unfold liveRc;rw[hu1,hu2,hu3,hu4])
    have wr1:=wrapU_u a1
    have wr2:=wrapU_u a2
    have wr3:=wrapU_u a3
    have wr4:=wrapU_u a4
    clear hb1 hb2 hb3 hb4 hu1 hu2 hu3 hu4
    obtain⟨V2,hV2⟩:∃W,V1.alloc (.cells #[uv id,uv a1,uv a2,uv a3,uv due,uv tok,uv turn,uv seg,uv ps',uv a4] 22)=W:=⟨_,rfl⟩
    have hE2:=Ext.alloc V1 (.cells #[uv id,uv a1,uv a2,uv a3,uv due,uv tok,uv turn,uv seg,uv ps',uv a4] 22)
    have hb2:=owv_lit V1 w.heap.size 22 [id,a1,a2,a3,due,tok,turn,seg,ps',a4] #[uv id,uv a1,uv a2,uv a3,uv due,uv tok,uv turn,uv seg,uv ps',uv a4] rfl 10 rfl HS1.out.low.size (by simp[maxLen])
    rw[hV2] at hE2 hb2
    obtain⟨V3,hV3⟩:∃W,V2.alloc (.cells #[.int .i64 14,.slice (some ⟨V1.heap.size,0,none⟩) 10 10,.string ⟨#[]⟩] 71)=W:=⟨_,rfl⟩
    have hE3:=Ext.alloc V2 (.cells #[.int .i64 14,.slice (some ⟨V1.heap.size,0,none⟩) 10 10,.string ⟨#[]⟩] 71)
    have hb3:=heap_alloc_new V2 (.cells #[.int .i64 14,.slice (some ⟨V1.heap.size,0,none⟩) 10 10,.string ⟨#[]⟩] 71)
    rw[hV3] at hE3 hb3
    have HS4:=hid (HS1.out.ext (hE2.trans hE3))
    have HB3:=hid hb3
    have HN3:=hid (hb2.ext hE3)
    clear hE2 hb2 hE3 hb3
    go_wp2_with (first|rw[hV1]|fail)
    refine(rsm_is Q0.out V1).mono ?_
    rintro e V9 ⟨rfl,rfl⟩
    go_wp2_with (first|rw[hV1]|fail)
    refine(rsm_is Q1.out V1).mono ?_
    rintro e V9 ⟨rfl,rfl⟩
    go_wp2_with (first|rw[hV1]|fail)
    refine(rsm_is Q2.out V1).mono ?_
    rintro e V9 ⟨rfl,rfl⟩
    go_wp2_with (first|rw[hV1]|fail)
    refine(rsm_is Q3.out V1).mono ?_
    rintro e V9 ⟨rfl,rfl⟩
    go_wp2_with (first|rw[hV2]|rw[hV3]|(at_builtin;go_loud (refine wpList_append_rc rfl (.tmp 66) (.tmp 100) 45 rfl w.heap.size 71 Tryd.underlying45 infoRRc (by decide) rfl HS4.out.own (y:=⟨14,[id,a1,a2,a3,due,tok,turn,seg,ps',a4],[]⟩) rfl HB3.out HN3.out (k+1+1) (by rw[HTL.out]) (by have:=HL.out;have:=HLK.out;omega) HS4.out.low.size ?_;intro ao3 cap3 w3 hO3 hg3 hb3;have HL9:=hid (HS4.out.app hO3 hg3 hb3);clear hO3 hg3 hb3)))
    clear hV1 hV2 hV3
    go_roundw
    case rel=>exact⟨k+1,ao3,cap3,HLK.out,by first|rfl|go_num,rfl,HOK2,hid (by rw[HTK.out,HLV.out];exact HL9.out)⟩
    case measure=>have:=HLK.out;simp[intOf];omega
  have hkf:decide ((k:Int)<(n:Int))=false:=by simp;omega
  have hkf2:(k<n)=False:=by simp;omega
  obtain rfl:n=k:=by omega
  have htk:items.take n=items:=List.take_of_length_le (by rw[HN.out];omega)
  rw[htk] at HS HOK
  have hL1n:(LB++items.map liveRc).length=n+1:=by rw[List.length_append,List.length_map,HLBn.out,HN.out];omega
  obtain⟨L1,hL1⟩:∃l,LB++items.map liveRc=l:=⟨_,rfl⟩
  rw[hL1] at HS hL1n
  have HL1:=hid hL1
  have HL1n:=hid hL1n
  have HS0:=hid HS.out
  clear hlt hk htk hL1 hL1n HS
  go_wp2
  clear d0 d1 d2 d3 d4 d5 d6 d7 df hkf hkf2
  go_loopw [5,8] (fun ov iv wr=>∃(k:Nat) (vo:Option Addr) (vc:Nat),k≤nd∧iv= .int .i64 (k:Int)∧ov= .slice vo (n+1+k) vc∧Hid (RvS w wr st #[uv now,uv next,uv lea,uv trn,uv dth,.slice io n ic,.slice do_ nd dc,.slice co m cc] (.slice vo (n+1+k) vc) (L1++(dead.take k).map deadRc))) (fun _ iv _=>nd - (intOf iv).toNat)
  case atStart=>exact⟨0,_,_,Nat.zero_le _,rfl,rfl,hid (by simpa using HS0.out)⟩
  case round=>
   clear HS0
   obtain⟨k,vo,vc,hk,rfl,rfl,HS⟩:=hrel
   by_cases hlt:k<nd
   · have hkj:decide ((k:Int)<(nd:Int))=true:=by simp;omega
     have hkj2:(k:Int)<(nd:Int):=by omega
     obtain⟨g,rfl⟩:=HDNN.out (by omega)
     have hltL:k<dead.length:=by rw[HND.out];exact hlt
     have hc:=fun j u h=>HS.out.low.cell (HDC.out g rfl k hltL j u h)
     have HTK:Hid (L1++(dead.take (k+1)).map deadRc=(L1++(dead.take k).map deadRc)++[deadRc (dead[k]'hltL)]):=hid (by rw[List.take_succ_eq_append_getElem hltL,List.map_append,List.append_assoc];rfl)
     have hTL:(L1++(dead.take k).map deadRc).length=n+1+k:=by rw[List.length_append,List.length_map,List.length_take,HL1n.out];omega
     obtain⟨T,hT⟩:∃T,L1++(dead.take k).map deadRc=T:=⟨_,rfl⟩
     rw[hT] at HS HTK hTL
     have HTL:=hid hTL
     obtain⟨o,ho⟩:∃o,dead[k]'hltL=o:=⟨_,rfl⟩
     rw[ho] at hc HTK
     obtain⟨id,pl⟩:=o
     have K0:=hid (cell_first (hc 0 _ rfl))
     have K1:=hid (cell_next (hc 1 _ rfl) (by decide))
     have HLK:=hid hlt
     have hwk:IntKind.i64.wrap ((k:Int)+1)=((k+1:Nat):Int):=i64v _ (by omega) (by have:=HL.out;omega)
     have HSQ:=hid HS.out
     obtain⟨⟨d0,d1,d2,d3,d4,d5,d6,d7⟩,df⟩:=blk8s HS.out.stt
     clear hc ho hltL hlt HS hT hTL
     go_wp2_with fail
     clear d0 d1 d2 d3 d4 d5 d6 d7 df
     refine ParF.wp_region_f (l:=[_,_,_,_,_,_,_,_,_,_,_,_,_,_,_,_,_,_]) rfl [(0,5)] (Rg.Ch [13,14,15,16,17] [122,123,124,125,5] (RvD w wr st #[uv now,uv next,uv lea,uv trn,uv dth,.slice io n ic,.slice (some g) nd dc,.slice co m cc] T [id,pl] [])) (ParC.VC [ParC.EQ (Value.slice vo (n+1+k) vc),ParC.EQ (Value.pointer (some ⟨st,6,none⟩)),ParC.EQ (Value.slice (some g) nd dc),ParC.EQ (Value.int IntKind.i64 (k:Int)),ParC.EQ (Value.pointer (some (g.add (k*2)))),ParC.EQ (Value.pointer (some (g.add (k*2)))),ParC.EQ (uv id),ParC.EQ (Value.pointer (some ⟨st,6,none⟩)),ParC.EQ (Value.slice (some g) nd dc),ParC.EQ (Value.int IntKind.i64 (k:Int)),ParC.EQ (Value.pointer (some (g.add (k*2)))),ParC.EQ (Value.pointer (some ⟨(g.add (k*2)).block,(g.add (k*2)).off+1,none⟩)),ParC.EQ (uv pl),(fun _=>True),(fun _=>True),(fun _=>True),(fun _=>True),(fun _=>True)]) (by kernel_rfl) (by kernel_rfl) (Rg.Ch.start ⟨fun _=>Ext.draw _,trivial⟩) ?_ ?_
     · refine⟨fun L ρ w' hR hC hL hd hk=> ?_,?_⟩
       · obtain⟨(e0:ρ (.tmp 5)=Value.slice vo (n+1+k) vc),-⟩:=hk;refine Par.val_k fun K hK=> ?_;unfold Par.val
         (go_simp;exact hK _ _ ⟨hR.other (by decide),rfl⟩)
       refine⟨fun L ρ w' hR hC hL hd hk=> ?_,?_⟩
       · obtain⟨(e0:ρ (.tmp 4)=pv st),-⟩:=hk;refine Par.val_k fun K hK=> ?_;unfold Par.val
         (go_simp;exact hK _ _ ⟨hR.other (by decide),rfl⟩)
       refine⟨fun L ρ w' hR hC hL hd hk=> ?_,?_⟩
       · obtain⟨(e0:ρ (.tmp 110)=Value.pointer (some ⟨st,6,none⟩)),-⟩:=hk;refine Par.val_k fun K hK=> ?_;unfold Par.val
         (obtain⟨i,hi,hq⟩:=hR.some 0 rfl (hC.notyet 13 2 hL (by kernel_rfl));have hx:=hq.1 (by omega);obtain⟨⟨-,-,-,-,-,-,e6,e7⟩,-⟩:=blk8s (hx.obj HSQ.out.stt);go_simp;exact hK _ _ ⟨hR.other (by decide),rfl⟩)
       refine⟨fun L ρ w' hR hC hL hd hk=> ?_,?_⟩
       · exact Par.val_of_run rfl ⟨hR.other (by decide),hk.1⟩
       refine⟨fun L ρ w' hR hC hL hd hk=> ?_,?_⟩
       · obtain⟨(e0:ρ (.tmp 111)=Value.slice (some g) nd dc),(e1:ρ (.tmp 112)=Value.int IntKind.i64 (k:Int)),-⟩:=hk;refine Par.val_k fun K hK=> ?_;unfold Par.val
         (go_simp;exact hK _ _ ⟨hR.other (by decide),rfl⟩)
       refine⟨fun L ρ w' hR hC hL hd hk=> ?_,?_⟩
       · obtain⟨(e0:ρ (.tmp 113)=Value.pointer (some (g.add (k*2)))),-⟩:=hk;refine Par.val_k fun K hK=> ?_;unfold Par.val
         (go_simp;exact hK _ _ ⟨hR.other (by decide),rfl⟩)
       refine⟨fun L ρ w' hR hC hL hd hk=> ?_,?_⟩
       · obtain⟨(e0:ρ (.tmp 114)=Value.pointer (some (g.add (k*2)))),-⟩:=hk;refine Par.val_k fun K hK=> ?_;unfold Par.val
         (obtain⟨i,hi,hq⟩:=hR.some 0 rfl (hC.notyet 13 6 hL (by kernel_rfl));have hx:=hq.1 (by omega);have cc:=hx.cell K0.out;go_simp;exact hK _ _ ⟨hR.other (by decide),rfl⟩)
       refine⟨fun L ρ w' hR hC hL hd hk=> ?_,?_⟩
       · obtain⟨(e0:ρ (.tmp 4)=pv st),-⟩:=hk;refine Par.val_k fun K hK=> ?_;unfold Par.val
         (go_simp;exact hK _ _ ⟨hR.other (by decide),rfl⟩)
       refine⟨fun L ρ w' hR hC hL hd hk=> ?_,?_⟩
       · obtain⟨(e0:ρ (.tmp 116)=Value.pointer (some ⟨st,6,none⟩)),-⟩:=hk;refine Par.val_k fun K hK=> ?_;unfold Par.val
         (obtain⟨i,hi,hq⟩:=hR.some 0 rfl (hC.notyet 13 8 hL (by kernel_rfl));have hx:=hq.1 (by omega);obtain⟨⟨-,-,-,-,-,-,e6,e7⟩,-⟩:=blk8s (hx.obj HSQ.out.stt);go_simp;exact hK _ _ ⟨hR.other (by decide),rfl⟩)
       refine⟨fun L ρ w' hR hC hL hd hk=> ?_,?_⟩
       · exact Par.val_of_run rfl ⟨hR.other (by decide),hk.1⟩
       refine⟨fun L ρ w' hR hC hL hd hk=> ?_,?_⟩
       · obtain⟨(e0:ρ (.tmp 117)=Value.slice (some g) nd dc),(e1:ρ (.tmp 118)=Value.int IntKind.i64 (k:Int)),-⟩:=hk;refine Par.val_k fun K hK=> ?_;unfold Par.val
         (go_simp;exact hK _ _ ⟨hR.other (by decide),rfl⟩)
       refine⟨fun L ρ w' hR hC hL hd hk=> ?_,?_⟩
       · obtain⟨(e0:ρ (.tmp 119)=Value.pointer (some (g.add (k*2)))),-⟩:=hk;refine Par.val_k fun K hK=> ?_;unfold Par.val
         (go_simp;exact hK _ _ ⟨hR.other (by decide),rfl⟩)
       refine⟨fun L ρ w' hR hC hL hd hk=> ?_,?_⟩
       · obtain⟨(e0:ρ (.tmp 120)=Value.pointer (some ⟨(g.add (k*2)).block,(g.add (k*2)).off+1,none⟩)),-⟩:=hk;refine Par.val_k fun K hK=> ?_;unfold Par.val
         (obtain⟨i,hi,hq⟩:=hR.some 0 rfl (hC.notyet 13 12 hL (by kernel_rfl));have hx:=hq.1 (by omega);have cc:=hx.cell K1.out;go_simp;exact hK _ _ ⟨hR.other (by decide),rfl⟩)
       refine⟨fun L ρ w' hR hC hL hd hk=> ?_,?_⟩
       · obtain⟨(e0:ρ (.tmp 115)=uv id),(e1:ρ (.tmp 121)=uv pl),-⟩:=hk;refine Par.val_k fun K hK=> ?_;unfold Par.val
         (obtain⟨hq,hs⟩:=hR.go 0 rfl hL (.inl rfl) (by decide);have hx:=hq.1 (by decide);go_simp;exact hK _ _ ⟨hs _ _ _ ⟨fun _=>hx.trans (Ext.alloc _ _),w'.heap.size,rfl,nn_cell (heap_alloc_new w' _) w.heap.size (HSQ.out.low.trans hx).size [id,pl] rfl 2 rfl (by simp[maxLen])⟩,trivial⟩)
       refine⟨fun L ρ w' hR hC hL hd hk=> ?_,?_⟩
       · obtain⟨(e0:ρ (Operand.const (Value.int IntKind.i64 15))=(Value.int IntKind.i64 15)),(e1:(fun _=>True) (ρ (.tmp 122))),-⟩:=hk;refine Par.val_k fun K hK=> ?_;unfold Par.val
         (obtain⟨hq,hs⟩:=hR.go 1 rfl hL (.inr ⟨13,rfl,hC.before 13 (i:=14) rfl hd (by kernel_rfl)⟩) (by decide);have hx:=hq.1 (by decide);obtain⟨g9,e9,h9⟩:=hq.2;have e8:ρ (.tmp 122)= .slice (some ⟨g9,0,none⟩) 2 2:=e9;clear e9;have h9:=hid h9;go_simp;exact hK _ _ ⟨hs _ _ _ ⟨fun _=>hx,g9,rfl,h9.out⟩,trivial⟩)
       refine⟨fun L ρ w' hR hC hL hd hk=> ?_,?_⟩
       · obtain⟨(e0:(fun _=>True) (ρ (.tmp 123))),-⟩:=hk;refine Par.val_k fun K hK=> ?_;unfold Par.val
         (obtain⟨hq,hs⟩:=hR.go 2 rfl hL (.inr ⟨14,rfl,hC.before 14 (i:=15) rfl hd (by kernel_rfl)⟩) (by decide);have hx:=hq.1 (by decide);obtain⟨g9,e9,h9⟩:=hq.2;have e8:ρ (.tmp 123)= .agg #[.int .i64 15,.slice (some ⟨g9,0,none⟩) 2 2,.string (str [])]:=e9;clear e9;have h9:=hid h9;go_simp;exact hK _ _ ⟨hs _ _ _ ⟨fun _=>hx.trans (Ext.alloc _ _),g9,w'.heap.size,rfl,heap_alloc_new w' _,h9.out.ext (Ext.alloc _ _)⟩,trivial⟩)
       refine⟨fun L ρ w' hR hC hL hd hk=> ?_,?_⟩
       · obtain⟨(e0:ρ (.tmp 109)=Value.slice vo (n+1+k) vc),(e1:(fun _=>True) (ρ (.tmp 124))),-⟩:=hk;refine Par.val_k fun K hK=> ?_;unfold Par.val
         (obtain⟨hq,hs⟩:=hR.go 3 rfl hL (.inr ⟨15,rfl,hC.before 15 (i:=16) rfl hd (by kernel_rfl)⟩) (by decide);have hx:=hq.1 (by decide);obtain⟨g9,q9,e9,h9,h8⟩:=hq.2;have e8:ρ (.tmp 124)= .slice (some ⟨q9,0,none⟩) 1 1:=e9;obtain⟨a9,c9,w9,r1,r2,r3,r4⟩:=run_append_rc (P:=Tryd.prog) 45 w.heap.size 71 Tryd.underlying45 infoRRc (by decide) (HSQ.out.own.ext hx) (y:=⟨15,[id,pl],[]⟩) h9 h8 ((n+1+k)+1) (by rw[HTL.out]) (by have:=HL.out;have:=HLK.out;omega) (HSQ.out.low.trans hx).size 45;rw[←e0,←e8] at r1;exact Par.val_append r1 (hK _ _ ⟨hs _ _ _ ⟨fun h=>absurd h (by decide),(HSQ.out.ext hx).app r2 r3 r4⟩,trivial⟩))
       refine⟨fun L ρ w' hR hC hL hd hk=> ?_,?_⟩
       · obtain⟨(e0:(fun _=>True) (ρ (.tmp 125))),-⟩:=hk;refine Par.val_k fun K hK=> ?_;unfold Par.val
         (obtain⟨hq,hs⟩:=hR.go 4 rfl hL (.inr ⟨16,rfl,hC.before 16 (i:=17) rfl hd (by kernel_rfl)⟩) (by decide);go_simp;exact hK _ _ ⟨hs _ _ _ ⟨fun h=>absurd h (by decide),hq.2⟩,trivial⟩)
       trivial
     intro a' w' inv hR
     have q109:a'.tmps.getD 109 undef=Value.slice vo (n+1+k) vc:=inv.done 0 _ 109 rfl rfl rfl
     have q110:a'.tmps.getD 110 undef=Value.pointer (some ⟨st,6,none⟩):=inv.done 1 _ 110 rfl rfl rfl
     have q111:a'.tmps.getD 111 undef=Value.slice (some g) nd dc:=inv.done 2 _ 111 rfl rfl rfl
     have q112:a'.tmps.getD 112 undef=Value.int IntKind.i64 (k:Int):=inv.done 3 _ 112 rfl rfl rfl
     have q113:a'.tmps.getD 113 undef=Value.pointer (some (g.add (k*2))):=inv.done 4 _ 113 rfl rfl rfl
     have q114:a'.tmps.getD 114 undef=Value.pointer (some (g.add (k*2))):=inv.done 5 _ 114 rfl rfl rfl
     have q115:a'.tmps.getD 115 undef=uv id:=inv.done 6 _ 115 rfl rfl rfl
     have q116:a'.tmps.getD 116 undef=Value.pointer (some ⟨st,6,none⟩):=inv.done 7 _ 116 rfl rfl rfl
     have q117:a'.tmps.getD 117 undef=Value.slice (some g) nd dc:=inv.done 8 _ 117 rfl rfl rfl
     have q118:a'.tmps.getD 118 undef=Value.int IntKind.i64 (k:Int):=inv.done 9 _ 118 rfl rfl rfl
     have q119:a'.tmps.getD 119 undef=Value.pointer (some (g.add (k*2))):=inv.done 10 _ 119 rfl rfl rfl
     have q120:a'.tmps.getD 120 undef=Value.pointer (some ⟨(g.add (k*2)).block,(g.add (k*2)).off+1,none⟩):=inv.done 11 _ 120 rfl rfl rfl
     have q121:a'.tmps.getD 121 undef=uv pl:=inv.done 12 _ 121 rfl rfl rfl
     have q122:(fun _=>True) (a'.tmps.getD 122 undef):=inv.done 13 _ 122 rfl rfl rfl
     have q123:(fun _=>True) (a'.tmps.getD 123 undef):=inv.done 14 _ 123 rfl rfl rfl
     have q124:(fun _=>True) (a'.tmps.getD 124 undef):=inv.done 15 _ 124 rfl rfl rfl
     have q125:(fun _=>True) (a'.tmps.getD 125 undef):=inv.done 16 _ 125 rfl rfl rfl
     have q5:(fun _=>True) (a'.tmps.getD 5 undef):=inv.done 17 _ 5 rfl rfl rfl
     clear inv
     simp only[List.filterMap_cons,List.filterMap_nil,Par.putAll,Act.put,List.setIfInBounds_toArray,List.set_cons_succ,List.set_cons_zero,q109,q110,q111,q112,q113,q114,q115,q116,q117,q118,q119,q120,q121]
     clear q109 q110 q111 q112 q113 q114 q115 q116 q117 q118 q119 q120 q121
     have h5:RvS w w' st #[uv now,uv next,uv lea,uv trn,uv dth,.slice io n ic,.slice (some g) nd dc,.slice co m cc] (a'.tmps.getD 5 undef) (T++[⟨15,[id,pl],[]⟩]):=(Rg.Ch.fin hR (by decide) 5 rfl).2;have H5:=hid h5;clear h5 hR
     generalize a'.tmps.getD 122 undef=u122 at*
     generalize a'.tmps.getD 123 undef=u123 at*
     generalize a'.tmps.getD 124 undef=u124 at*
     generalize a'.tmps.getD 125 undef=u125 at*
     generalize a'.tmps.getD 5 undef=u5 at*
     try clear a'
     obtain⟨o6,c6,e6⟩:∃o c,u5= .slice o (n+1+k+1) c:=by
      obtain⟨o,c,e⟩:=H5.out.own.open
      rw[List.length_append,HTL.out] at e
      exact⟨o,c,e⟩
     subst e6
     go_wp2
     go_roundw
     case rel=>exact⟨k+1,o6,c6,HLK.out,by first|rfl|go_num,rfl,hid (by rw[HTK.out];exact H5.out)⟩
     case measure=>have:=HLK.out;simp[intOf];omega
   have hkf:decide ((k:Int)<(nd:Int))=false:=by simp;omega
   have hkf2:(k<nd)=False:=by simp;omega
   obtain rfl:nd=k:=by omega
   have htk:dead.take nd=dead:=List.take_of_length_le (by rw[HND.out];omega)
   rw[htk] at HS
   have hL2n:(L1++dead.map deadRc).length=n+1+nd:=by rw[List.length_append,List.length_map,HL1n.out,HND.out]
   obtain⟨L2,hL2⟩:∃l,L1++dead.map deadRc=l:=⟨_,rfl⟩
   rw[hL2] at HS hL2n
   have HL2:=hid hL2
   have HL2n:=hid hL2n
   have HS0:=hid HS.out
   obtain⟨⟨d0,d1,d2,d3,d4,d5,d6,d7⟩,df⟩:=blk8s HS0.out.stt
   clear hlt hk htk hL2 hL2n HS
   go_wp2
   clear d0 d1 d2 d3 d4 d5 d6 d7 df hkf hkf2
   go_loopw [5,9] (fun ov iv wr=>∃(k:Nat) (vo:Option Addr) (vc:Nat),k≤m∧iv= .int .i64 (k:Int)∧ov= .slice vo (n+1+nd+k) vc∧Hid ((curs.take k).all (fun c=>decide (c.1.length≤64))=true)∧Hid (RvS w wr st #[uv now,uv next,uv lea,uv trn,uv dth,.slice io n ic,.slice do_ nd dc,.slice co m cc] (.slice vo (n+1+nd+k) vc) (L2++(curs.take k).map curRc))) (fun _ iv _=>m - (intOf iv).toNat)
   case atStart=>exact⟨0,_,_,Nat.zero_le _,rfl,rfl,hid rfl,hid (by simpa using HS0.out)⟩
   case round=>
    clear HS0
    obtain⟨k,vo,vc,hk,rfl,rfl,HOC,HS⟩:=hrel
    by_cases hlt:k<m
    · have hkj:decide ((k:Int)<(m:Int))=true:=by simp;omega
      have hkj2:(k:Int)<(m:Int):=by omega
      obtain⟨g,rfl⟩:=HCNN.out (by omega)
      have hltL:k<curs.length:=by rw[HM.out];exact hlt
      have hc:=fun j u h=>HS.out.low.cell (HCC.out g rfl k hltL j u h)
      have HNO:Hid (decide ((curs[k]'hltL).1.length≤64)=false→rightS S=false):=hid (fun h=>by rw[HRT.out,all_no _ curs k hltL h,Bool.and_false])
      have HYES:Hid (decide ((curs[k]'hltL).1.length≤64)=true→(curs.take (k+1)).all (fun c=>decide (c.1.length≤64))=true):=hid (fun h=>by rw[all_succ _ curs k hltL,HOC.out,h];rfl)
      have HTK:Hid (L2++(curs.take (k+1)).map curRc=(L2++(curs.take k).map curRc)++[curRc (curs[k]'hltL)]):=hid (by rw[List.take_succ_eq_append_getElem hltL,List.map_append,List.append_assoc];rfl)
      have hTL:(L2++(curs.take k).map curRc).length=n+1+nd+k:=by rw[List.length_append,List.length_map,List.length_take,HL2n.out];omega
      obtain⟨T,hT⟩:∃T,L2++(curs.take k).map curRc=T:=⟨_,rfl⟩
      rw[hT] at HS HTK hTL
      have HTL:=hid hTL
      obtain⟨o,ho⟩:∃o,curs[k]'hltL=o:=⟨_,rfl⟩
      rw[ho] at hc HTK HNO HYES
      obtain⟨nm,pl⟩:=o
      dsimp only at HNO HYES
      have k0:=cell_first (hc 0 _ rfl)
      have K0:=hid (cell_first (hc 0 _ rfl))
      have K1:=hid (cell_next (hc 1 _ rfl) (by decide))
      have HLK:=hid hlt
      have hwk:IntKind.i64.wrap ((k:Int)+1)=((k+1:Nat):Int):=i64v _ (by omega) (by have:=HL.out;omega)
      have HSQ:=hid HS.out
      obtain⟨⟨d0,d1,d2,d3,d4,d5,d6,d7⟩,df⟩:=blk8s HS.out.stt
      have hsz:=str_size nm
      obtain⟨ln,hln⟩:∃x,nm.length=x:=⟨_,rfl⟩
      rw[hln] at hsz HNO HYES
      have HLN:=hid hln
      clear hc ho hltL hlt HS hT hTL hln HOC
      by_cases q0:ln≤64
      case neg=>
       have hgt:decide ((64:Int)<(ln:Int))=true:=by simp;omega
       have HF:Hid (rightS S=false):=hid (HNO.out (by simp;omega))
       clear HNO HYES q0
       go_wp2
       go_returns
       exact SvP.no HF.out rfl HSQ.out.low
      have hgt:decide ((64:Int)<(ln:Int))=false:=by simp;omega
      have hgt2:(64<ln)=False:=by simp;omega
      have HOC2:=hid (HYES.out (by simp;omega))
      clear HNO HYES q0
      go_wp2_with fail
      clear d0 d1 d2 d3 d4 d5 d6 d7 df k0
      refine ParF.wp_region_f (l:=[_,_,_,_,_,_,_,_,_,_,_,_,_,_,_,_,_,_]) rfl [(0,5)] (Rg.Ch [7,14,15,16,17] [148,155,156,157,5] (RvC w wr st #[uv now,uv next,uv lea,uv trn,uv dth,.slice io n ic,.slice do_ nd dc,.slice (some g) m cc] T [pl] nm)) (ParC.VC [ParC.EQ (Value.slice vo (n+1+nd+k) vc),ParC.EQ (Value.pointer (some ⟨st,7,none⟩)),ParC.EQ (Value.slice (some g) m cc),ParC.EQ (Value.int IntKind.i64 (k:Int)),ParC.EQ (Value.pointer (some (g.add (k*2)))),ParC.EQ (Value.pointer (some ⟨(g.add (k*2)).block,(g.add (k*2)).off+1,none⟩)),ParC.EQ (uv pl),(fun _=>True),ParC.EQ (Value.pointer (some ⟨st,7,none⟩)),ParC.EQ (Value.slice (some g) m cc),ParC.EQ (Value.int IntKind.i64 (k:Int)),ParC.EQ (Value.pointer (some (g.add (k*2)))),ParC.EQ (Value.pointer (some (g.add (k*2)))),ParC.EQ (Value.string (str nm)),(fun _=>True),(fun _=>True),(fun _=>True),(fun _=>True)]) (by kernel_rfl) (by kernel_rfl) (Rg.Ch.start ⟨fun _=>Ext.draw _,trivial⟩) ?_ ?_
      · refine⟨fun L ρ w' hR hC hL hd hk=> ?_,?_⟩
        · obtain⟨(e0:ρ (.tmp 5)=Value.slice vo (n+1+nd+k) vc),-⟩:=hk;refine Par.val_k fun K hK=> ?_;unfold Par.val
          (go_simp;exact hK _ _ ⟨hR.other (by decide),rfl⟩)
        refine⟨fun L ρ w' hR hC hL hd hk=> ?_,?_⟩
        · obtain⟨(e0:ρ (.tmp 4)=pv st),-⟩:=hk;refine Par.val_k fun K hK=> ?_;unfold Par.val
          (go_simp;exact hK _ _ ⟨hR.other (by decide),rfl⟩)
        refine⟨fun L ρ w' hR hC hL hd hk=> ?_,?_⟩
        · obtain⟨(e0:ρ (.tmp 142)=Value.pointer (some ⟨st,7,none⟩)),-⟩:=hk;refine Par.val_k fun K hK=> ?_;unfold Par.val
          (obtain⟨i,hi,hq⟩:=hR.some 0 rfl (hC.notyet 7 2 hL (by kernel_rfl));have hx:=hq.1 (by omega);obtain⟨⟨-,-,-,-,-,-,e6,e7⟩,-⟩:=blk8s (hx.obj HSQ.out.stt);go_simp;exact hK _ _ ⟨hR.other (by decide),rfl⟩)
        refine⟨fun L ρ w' hR hC hL hd hk=> ?_,?_⟩
        · exact Par.val_of_run rfl ⟨hR.other (by decide),hk.1⟩
        refine⟨fun L ρ w' hR hC hL hd hk=> ?_,?_⟩
        · obtain⟨(e0:ρ (.tmp 143)=Value.slice (some g) m cc),(e1:ρ (.tmp 144)=Value.int IntKind.i64 (k:Int)),-⟩:=hk;refine Par.val_k fun K hK=> ?_;unfold Par.val
          (go_simp;exact hK _ _ ⟨hR.other (by decide),rfl⟩)
        refine⟨fun L ρ w' hR hC hL hd hk=> ?_,?_⟩
        · obtain⟨(e0:ρ (.tmp 145)=Value.pointer (some (g.add (k*2)))),-⟩:=hk;refine Par.val_k fun K hK=> ?_;unfold Par.val
          (go_simp;exact hK _ _ ⟨hR.other (by decide),rfl⟩)
        refine⟨fun L ρ w' hR hC hL hd hk=> ?_,?_⟩
        · obtain⟨(e0:ρ (.tmp 146)=Value.pointer (some ⟨(g.add (k*2)).block,(g.add (k*2)).off+1,none⟩)),-⟩:=hk;refine Par.val_k fun K hK=> ?_;unfold Par.val
          (obtain⟨i,hi,hq⟩:=hR.some 0 rfl (hC.notyet 7 6 hL (by kernel_rfl));have hx:=hq.1 (by omega);have cc:=hx.cell K1.out;go_simp;exact hK _ _ ⟨hR.other (by decide),rfl⟩)
        refine⟨fun L ρ w' hR hC hL hd hk=> ?_,?_⟩
        · obtain⟨(e0:ρ (.tmp 147)=uv pl),-⟩:=hk;refine Par.val_k fun K hK=> ?_;unfold Par.val
          (obtain⟨hq,hs⟩:=hR.go 0 rfl hL (.inl rfl) (by decide);have hx:=hq.1 (by decide);go_simp;exact hK _ _ ⟨hs _ _ _ ⟨fun _=>hx.trans (Ext.alloc _ _),w'.heap.size,rfl,nn_cell (heap_alloc_new w' _) w.heap.size (HSQ.out.low.trans hx).size [pl] rfl 1 rfl (by simp[maxLen])⟩,trivial⟩)
        refine⟨fun L ρ w' hR hC hL hd hk=> ?_,?_⟩
        · obtain⟨(e0:ρ (.tmp 4)=pv st),-⟩:=hk;refine Par.val_k fun K hK=> ?_;unfold Par.val
          (go_simp;exact hK _ _ ⟨hR.other (by decide),rfl⟩)
        refine⟨fun L ρ w' hR hC hL hd hk=> ?_,?_⟩
        · obtain⟨(e0:ρ (.tmp 149)=Value.pointer (some ⟨st,7,none⟩)),-⟩:=hk;refine Par.val_k fun K hK=> ?_;unfold Par.val
          (obtain⟨i,hi,hq⟩:=hR.some 1 rfl (hC.notyet 14 9 hL (by kernel_rfl));have hx:=hq.1 (by omega);obtain⟨⟨-,-,-,-,-,-,e6,e7⟩,-⟩:=blk8s (hx.obj HSQ.out.stt);go_simp;exact hK _ _ ⟨hR.other (by decide),rfl⟩)
        refine⟨fun L ρ w' hR hC hL hd hk=> ?_,?_⟩
        · exact Par.val_of_run rfl ⟨hR.other (by decide),hk.1⟩
        refine⟨fun L ρ w' hR hC hL hd hk=> ?_,?_⟩
        · obtain⟨(e0:ρ (.tmp 150)=Value.slice (some g) m cc),(e1:ρ (.tmp 151)=Value.int IntKind.i64 (k:Int)),-⟩:=hk;refine Par.val_k fun K hK=> ?_;unfold Par.val
          (go_simp;exact hK _ _ ⟨hR.other (by decide),rfl⟩)
        refine⟨fun L ρ w' hR hC hL hd hk=> ?_,?_⟩
        · obtain⟨(e0:ρ (.tmp 152)=Value.pointer (some (g.add (k*2)))),-⟩:=hk;refine Par.val_k fun K hK=> ?_;unfold Par.val
          (go_simp;exact hK _ _ ⟨hR.other (by decide),rfl⟩)
        refine⟨fun L ρ w' hR hC hL hd hk=> ?_,?_⟩
        · obtain⟨(e0:ρ (.tmp 153)=Value.pointer (some (g.add (k*2)))),-⟩:=hk;refine Par.val_k fun K hK=> ?_;unfold Par.val
          (obtain⟨i,hi,hq⟩:=hR.some 1 rfl (hC.notyet 14 13 hL (by kernel_rfl));have hx:=hq.1 (by omega);have cc:=hx.cell K0.out;go_simp;exact hK _ _ ⟨hR.other (by decide),rfl⟩)
        refine⟨fun L ρ w' hR hC hL hd hk=> ?_,?_⟩
        · obtain⟨(e0:ρ (Operand.const (Value.int IntKind.i64 16))=(Value.int IntKind.i64 16)),(e1:(fun _=>True) (ρ (.tmp 148))),(e2:ρ (.tmp 154)=Value.string (str nm)),-⟩:=hk;refine Par.val_k fun K hK=> ?_;unfold Par.val
          (obtain⟨hq,hs⟩:=hR.go 1 rfl hL (.inr ⟨7,rfl,hC.before 7 (i:=14) rfl hd (by kernel_rfl)⟩) (by decide);have hx:=hq.1 (by decide);obtain⟨g9,e9,h9⟩:=hq.2;have e8:ρ (.tmp 148)= .slice (some ⟨g9,0,none⟩) 1 1:=e9;clear e9;have h9:=hid h9;go_simp;exact hK _ _ ⟨hs _ _ _ ⟨fun _=>hx,g9,rfl,h9.out⟩,trivial⟩)
        refine⟨fun L ρ w' hR hC hL hd hk=> ?_,?_⟩
        · obtain⟨(e0:(fun _=>True) (ρ (.tmp 155))),-⟩:=hk;refine Par.val_k fun K hK=> ?_;unfold Par.val
          (obtain⟨hq,hs⟩:=hR.go 2 rfl hL (.inr ⟨14,rfl,hC.before 14 (i:=15) rfl hd (by kernel_rfl)⟩) (by decide);have hx:=hq.1 (by decide);obtain⟨g9,e9,h9⟩:=hq.2;have e8:ρ (.tmp 155)= .agg #[.int .i64 16,.slice (some ⟨g9,0,none⟩) 1 1,.string (str nm)]:=e9;clear e9;have h9:=hid h9;go_simp;exact hK _ _ ⟨hs _ _ _ ⟨fun _=>hx.trans (Ext.alloc _ _),g9,w'.heap.size,rfl,heap_alloc_new w' _,h9.out.ext (Ext.alloc _ _)⟩,trivial⟩)
        refine⟨fun L ρ w' hR hC hL hd hk=> ?_,?_⟩
        · obtain⟨(e0:ρ (.tmp 141)=Value.slice vo (n+1+nd+k) vc),(e1:(fun _=>True) (ρ (.tmp 156))),-⟩:=hk;refine Par.val_k fun K hK=> ?_;unfold Par.val
          (obtain⟨hq,hs⟩:=hR.go 3 rfl hL (.inr ⟨15,rfl,hC.before 15 (i:=16) rfl hd (by kernel_rfl)⟩) (by decide);have hx:=hq.1 (by decide);obtain⟨g9,q9,e9,h9,h8⟩:=hq.2;have e8:ρ (.tmp 156)= .slice (some ⟨q9,0,none⟩) 1 1:=e9;obtain⟨a9,c9,w9,r1,r2,r3,r4⟩:=run_append_rc (P:=Tryd.prog) 45 w.heap.size 71 Tryd.underlying45 infoRRc (by decide) (HSQ.out.own.ext hx) (y:=⟨16,[pl],nm⟩) h9 h8 ((n+1+nd+k)+1) (by rw[HTL.out]) (by have:=HL.out;have:=HLK.out;omega) (HSQ.out.low.trans hx).size 45;rw[←e0,←e8] at r1;exact Par.val_append r1 (hK _ _ ⟨hs _ _ _ ⟨fun h=>absurd h (by decide),(HSQ.out.ext hx).app r2 r3 r4⟩,trivial⟩))
        refine⟨fun L ρ w' hR hC hL hd hk=> ?_,?_⟩
        · obtain⟨(e0:(fun _=>True) (ρ (.tmp 157))),-⟩:=hk;refine Par.val_k fun K hK=> ?_;unfold Par.val
          (obtain⟨hq,hs⟩:=hR.go 4 rfl hL (.inr ⟨16,rfl,hC.before 16 (i:=17) rfl hd (by kernel_rfl)⟩) (by decide);go_simp;exact hK _ _ ⟨hs _ _ _ ⟨fun h=>absurd h (by decide),hq.2⟩,trivial⟩)
        trivial
      intro a' w' inv hR
      have q141:a'.tmps.getD 141 undef=Value.slice vo (n+1+nd+k) vc:=inv.done 0 _ 141 rfl rfl rfl
      have q142:a'.tmps.getD 142 undef=Value.pointer (some ⟨st,7,none⟩):=inv.done 1 _ 142 rfl rfl rfl
      have q143:a'.tmps.getD 143 undef=Value.slice (some g) m cc:=inv.done 2 _ 143 rfl rfl rfl
      have q144:a'.tmps.getD 144 undef=Value.int IntKind.i64 (k:Int):=inv.done 3 _ 144 rfl rfl rfl
      have q145:a'.tmps.getD 145 undef=Value.pointer (some (g.add (k*2))):=inv.done 4 _ 145 rfl rfl rfl
      have q146:a'.tmps.getD 146 undef=Value.pointer (some ⟨(g.add (k*2)).block,(g.add (k*2)).off+1,none⟩):=inv.done 5 _ 146 rfl rfl rfl
      have q147:a'.tmps.getD 147 undef=uv pl:=inv.done 6 _ 147 rfl rfl rfl
      have q148:(fun _=>True) (a'.tmps.getD 148 undef):=inv.done 7 _ 148 rfl rfl rfl
      have q149:a'.tmps.getD 149 undef=Value.pointer (some ⟨st,7,none⟩):=inv.done 8 _ 149 rfl rfl rfl
      have q150:a'.tmps.getD 150 undef=Value.slice (some g) m cc:=inv.done 9 _ 150 rfl rfl rfl
      have q151:a'.tmps.getD 151 undef=Value.int IntKind.i64 (k:Int):=inv.done 10 _ 151 rfl rfl rfl
      have q152:a'.tmps.getD 152 undef=Value.pointer (some (g.add (k*2))):=inv.done 11 _ 152 rfl rfl rfl
      have q153:a'.tmps.getD 153 undef=Value.pointer (some (g.add (k*2))):=inv.done 12 _ 153 rfl rfl rfl
      have q154:a'.tmps.getD 154 undef=Value.string (str nm):=inv.done 13 _ 154 rfl rfl rfl
      have q155:(fun _=>True) (a'.tmps.getD 155 undef):=inv.done 14 _ 155 rfl rfl rfl
      have q156:(fun _=>True) (a'.tmps.getD 156 undef):=inv.done 15 _ 156 rfl rfl rfl
      have q157:(fun _=>True) (a'.tmps.getD 157 undef):=inv.done 16 _ 157 rfl rfl rfl
      have q5:(fun _=>True) (a'.tmps.getD 5 undef):=inv.done 17 _ 5 rfl rfl rfl
      clear inv
      simp only[List.filterMap_cons,List.filterMap_nil,Par.putAll,Act.put,List.setIfInBounds_toArray,List.set_cons_succ,List.set_cons_zero,q141,q142,q143,q144,q145,q146,q147,q149,q150,q151,q152,q153,q154]
      clear q141 q142 q143 q144 q145 q146 q147 q149 q150 q151 q152 q153 q154
      have h5:RvS w w' st #[uv now,uv next,uv lea,uv trn,uv dth,.slice io n ic,.slice do_ nd dc,.slice (some g) m cc] (a'.tmps.getD 5 undef) (T++[⟨16,[pl],nm⟩]):=(Rg.Ch.fin hR (by decide) 5 rfl).2;have H5:=hid h5;clear h5 hR
      generalize a'.tmps.getD 148 undef=u148 at*
      generalize a'.tmps.getD 155 undef=u155 at*
      generalize a'.tmps.getD 156 undef=u156 at*
      generalize a'.tmps.getD 157 undef=u157 at*
      generalize a'.tmps.getD 5 undef=u5 at*
      try clear a'
      obtain⟨o6,c6,e6⟩:∃o c,u5= .slice o (n+1+nd+k+1) c:=by
       obtain⟨o,c,e⟩:=H5.out.own.open
       rw[List.length_append,HTL.out] at e
       exact⟨o,c,e⟩
      subst e6
      go_wp2
      go_roundw
      case rel=>exact⟨k+1,o6,c6,HLK.out,by first|rfl|go_num,rfl,HOC2,hid (by rw[HTK.out];exact H5.out)⟩
      case measure=>have:=HLK.out;simp[intOf];omega
    have hkf:decide ((k:Int)<(m:Int))=false:=by simp;omega
    have hkf2:(k<m)=False:=by simp;omega
    obtain rfl:m=k:=by omega
    have htk:curs.take m=curs:=List.take_of_length_le (by rw[HM.out];omega)
    rw[htk] at HS HOC
    have HRY:Hid (rightS S=true):=hid (by rw[HRT.out,HOK.out,HOC.out];rfl)
    have hL3n:(L2++curs.map curRc).length=n+1+nd+m:=by rw[List.length_append,List.length_map,HL2n.out,HM.out]
    have hbd:bodyR S=L2++curs.map curRc:=by rw[←HSS.out,←HL2.out,←HL1.out,←HLB.out];rfl
    have HSV2:Hid (saveR S=(L2++curs.map curRc)++[⟨17,[UInt64.ofNat (L2++curs.map curRc).length],[]⟩]):=hid (by unfold saveR;rw[hbd])
    obtain⟨L3,hL3⟩:∃l,L2++curs.map curRc=l:=⟨_,rfl⟩
    rw[hL3] at HS hL3n HSV2
    rw[hL3n] at HSV2
    have HL3n:=hid hL3n
    obtain⟨N,hN⟩:∃N,n+1+nd+m=N:=⟨_,rfl⟩
    rw[hN] at HSV2 HS HL3n
    rw[hN]
    have HNB:Hid (N≤300001):=hid (by rw[←hN];have:=HL.out;omega)
    obtain⟨K,hK⟩:∃a:UInt64,UInt64.ofNat N=a:=⟨_,rfl⟩
    rw[hK] at HSV2
    have hKn:(K.toNat:Int)=(N:Int):=by
     rw[←hK,UInt64.toNat_ofNat',Nat.mod_eq_of_lt (by have:=HNB.out;omega)]
    have hwK:IntKind.u64.wrap (N:Int)=(K.toNat:Int):=by rw[←hKn];exact wrapU_u K
    obtain⟨V2,hV2⟩:∃W,wr.alloc (.cells #[uv K] 22)=W:=⟨_,rfl⟩
    have hE2:=Ext.alloc wr (.cells #[uv K] 22)
    have hb2:=owv_lit wr w.heap.size 22 [K] #[uv K] rfl 1 rfl HS.out.low.size (by simp[maxLen])
    rw[hV2] at hE2 hb2
    obtain⟨V3,hV3⟩:∃W,V2.alloc (.cells #[.int .i64 17,.slice (some ⟨wr.heap.size,0,none⟩) 1 1,.string ⟨#[]⟩] 71)=W:=⟨_,rfl⟩
    have hE3:=Ext.alloc V2 (.cells #[.int .i64 17,.slice (some ⟨wr.heap.size,0,none⟩) 1 1,.string ⟨#[]⟩] 71)
    have hb3:=heap_alloc_new V2 (.cells #[.int .i64 17,.slice (some ⟨wr.heap.size,0,none⟩) 1 1,.string ⟨#[]⟩] 71)
    rw[hV3] at hE3 hb3
    have HS4:=hid (HS.out.ext (hE2.trans hE3))
    have HB3:=hid hb3
    have HN3:=hid (hb2.ext hE3)
    obtain⟨⟨d0,d1,d2,d3,d4,d5,d6,d7⟩,df⟩:=blk8s HS.out.stt
    clear hlt hk htk hE2 hb2 hE3 hb3 hbd hL3 hL3n hK hKn HS hN
    go_wp2_with (first|rw[hV2]|rw[hV3]|(at_builtin;go_loud (refine wpList_append_rc rfl (.tmp 158) (.tmp 164) 45 rfl w.heap.size 71 Tryd.underlying45 infoRRc (by decide) rfl HS4.out.own (y:=⟨17,[K],[]⟩) rfl HB3.out HN3.out (N+1) (by rw[HL3n.out]) (by have:=HNB.out;omega) HS4.out.low.size ?_;intro ao3 cap3 w3 hO3 hg3 hb3;have HL9:=hid (HS4.out.app hO3 hg3 hb3);clear hO3 hg3 hb3)))
    go_returns
    exact SvP.yes HRY.out (by rw[HSV2.out];exact HL9.out.own) HL9.out.low
end Go.Proofs.YtpbmbjdiilnaeaaDoor

set_option linter.unusedSimpArgs false
set_option linter.unusedVariables false
set_option maxRecDepth 100000
namespace Go.Proofs.YtpbmbjdiilnaeaaDoor
open Go Go.RowKit Go.Tum Go.ChangeMaps Go.Sort

theorem ddU_mem {x:UInt64}:∀l:List UInt64,x∈ddU l↔x∈l
 |[]=>Iff.rfl
 |[a]=>Iff.rfl
 |a::b::r=>by
  have ih:=ddU_mem (x:=x) (b::r)
  simp only[ddU]
  by_cases h:a=b
  · rw[if_pos h,ih,h];simp
  · rw[if_neg h,List.mem_cons,ih,List.mem_cons (a:=x) (b:=a)]
theorem ddU_lt:∀l:List UInt64,l.Pairwise (· ≤·)→(ddU l).Pairwise (· < ·)
 |[],_=>List.Pairwise.nil
 |[a],_=>by simp[ddU]
 |a::b::r,h=>by
  have h2:=List.pairwise_cons.1 h
  have ih:=ddU_lt (b::r) h2.2
  simp only[ddU]
  by_cases e:a=b
  · rw[if_pos e];exact ih
  · rw[if_neg e]
    refine List.pairwise_cons.2 ⟨fun x hx=> ?_,ih⟩
    rw[ddU_mem] at hx
    have h3:=h2.1 b (by simp)
    have h5:b≤x:=by
     rcases List.mem_cons.1 hx with rfl|hx
     · exact UInt64.le_refl _
     · exact(List.pairwise_cons.1 h2.2).1 x hx
    have h6:a.toNat≠b.toNat:=fun k=>e (UInt64.toNat_inj.1 k)
    rw[UInt64.lt_iff_toNat_lt]
    rw[UInt64.le_iff_toNat_le] at h3 h5
    omega
end Go.Proofs.YtpbmbjdiilnaeaaDoor

set_option linter.unusedSimpArgs false
set_option linter.unusedVariables false
namespace Go.Proofs.YtpbmbjdiilnaeaaDoor
open Go Go.RowKit Go.Tum Go.ChangeMaps Go.Sort

theorem segsOf_pair (l:List Itm):(segsOf l).Pairwise (· < ·):=ddU_lt _ (by
 have:=List.pairwise_mergeSort (le:=fun x y:UInt64=>decide (x≤y)) (fun a b c h1 h2=>by simp only[decide_eq_true_eq] at*;exact UInt64.le_trans h1 h2) (fun a b=>by simp only[Bool.or_eq_true,decide_eq_true_eq];exact UInt64.le_total a b) (l.map (·.seg))
 exact this.imp (fun h=>by simpa using h))
theorem segsOf_mem (l:List Itm) (x:UInt64):x∈segsOf l↔∃o∈l,o.seg=x:=by
 unfold segsOf
 rw[ddU_mem,List.mem_mergeSort,List.mem_map]
theorem lt_nodup {a:List UInt64} (h:a.Pairwise (· < ·)):a.Nodup:=h.imp fun{x y} h e=>by
 subst e
 rw[UInt64.lt_iff_toNat_lt] at h
 omega
theorem lt_uniq {a b:List UInt64} (ha:a.Pairwise (· < ·)) (hb:b.Pairwise (· < ·)) (h:∀x,x∈a↔x∈b):a=b:=
 List.Perm.eq_of_pairwise (le:=fun x y=>x<y) (fun x y _ _ h1 h2=>by
  rw[UInt64.lt_iff_toNat_lt] at h1 h2
  omega) ha hb ((List.perm_ext_iff_of_nodup (lt_nodup ha) (lt_nodup hb)).2 h)
theorem segs_old {l:List Itm} {o:Itm} {at':Nat} (h:at'<(segsOf l).length) (he:(segsOf l)[at']=o.seg):segsOf (l++[o])=segsOf l:=by
 refine lt_uniq (segsOf_pair _) (segsOf_pair _) fun x=> ?_
 rw[segsOf_mem,segsOf_mem]
 have hm:o.seg∈segsOf l:=by rw[←he];exact List.getElem_mem h
 rw[segsOf_mem] at hm
 constructor
 · rintro⟨p,hp,rfl⟩
   rcases List.mem_append.1 hp with q|q
   · exact⟨p,q,rfl⟩
   · rw[List.mem_singleton.1 q];exact hm
 · rintro⟨p,hp,rfl⟩
   exact⟨p,List.mem_append_left _ hp,rfl⟩
theorem segs_new {l:List Itm} {o:Itm} {at':Nat} (hat:at'≤(segsOf l).length) (h1:∀j (h:j<(segsOf l).length),j<at'→(segsOf l)[j]<o.seg)
 (h2:∀h:at'<(segsOf l).length,o.seg<(segsOf l)[at']):segsOf (l++[o])=(segsOf l).take at'++[o.seg]++(segsOf l).drop at':=by
 have hs:=segsOf_pair l
 refine lt_uniq (segsOf_pair _) ?_ fun x=> ?_
 · rw[List.append_assoc,List.pairwise_append,List.pairwise_append]
   refine⟨hs.sublist (List.take_sublist _ _),⟨List.pairwise_singleton _ _,hs.sublist (List.drop_sublist _ _),fun x hx y hy=> ?_⟩,fun x hx y hy=> ?_⟩
   · rw[List.mem_singleton] at hx
     subst hx
     obtain⟨j,hj,rfl⟩:=List.mem_iff_getElem.1 hy
     rw[List.length_drop] at hj
     rw[List.getElem_drop]
     have h3:=h2 (by omega)
     rcases Nat.eq_zero_or_pos j with rfl|hj0
     · simpa using h3
     · have h4:=List.pairwise_iff_getElem.1 hs at' (at'+j) (by omega) (by omega) (by omega)
       rw[UInt64.lt_iff_toNat_lt] at h3 h4⊢
       omega
   · obtain⟨i,hi,rfl⟩:=List.mem_iff_getElem.1 hx
     rw[List.length_take] at hi
     rw[List.getElem_take]
     have h3:=h1 i (by omega) (by omega)
     rcases List.mem_append.1 hy with q|q
     · rw[List.mem_singleton.1 q];exact h3
     · obtain⟨j,hj,rfl⟩:=List.mem_iff_getElem.1 q
       rw[List.length_drop] at hj
       rw[List.getElem_drop]
       exact List.pairwise_iff_getElem.1 hs i (at'+j) (by omega) (by omega) (by omega)
 · rw[segsOf_mem]
   constructor
   · rintro⟨p,hp,rfl⟩
     rcases List.mem_append.1 hp with q|q
     · have:p.seg∈segsOf l:=(segsOf_mem l p.seg).2 ⟨p,q,rfl⟩
       rw[←List.take_append_drop at' (segsOf l)] at this
       rcases List.mem_append.1 this with k|k
       · exact List.mem_append_left _ (List.mem_append_left _ k)
       · exact List.mem_append_right _ k
     · rw[List.mem_singleton.1 q];simp
   · intro hx
     rcases List.mem_append.1 hx with k|k
     · rcases List.mem_append.1 k with k|k
       · obtain⟨p,hp,e⟩:=(segsOf_mem l x).1 (List.mem_of_mem_take k)
         exact⟨p,List.mem_append_left _ hp,e⟩
       · exact⟨o,by simp,(List.mem_singleton.1 k).symm⟩
     · obtain⟨p,hp,e⟩:=(segsOf_mem l x).1 (List.mem_of_mem_drop k)
       exact⟨p,List.mem_append_left _ hp,e⟩
theorem segs_step (l:List Itm) (k:Nat) (h:k<l.length):l.take (k+1)=l.take k++[l[k]]:=List.take_succ_eq_append_getElem h
end Go.Proofs.YtpbmbjdiilnaeaaDoor

set_option linter.unusedSimpArgs false
set_option linter.unusedVariables false
set_option maxRecDepth 100000
namespace Go.Proofs.YtpbmbjdiilnaeaaDoor
open Go Go.RowKit Go.Tum Go.ChangeMaps Go.Sort
open Go.ParB (upd Lof)
open Go.ParE (putS slotsR slots Closed)

theorem vecU_take {w:World} {ao:Option Addr} {N cap:Nat} {L:List UInt64} (h:Vec uv w (.slice ao N cap) L) (hN:L.length=N) (hi:Nat) (h2:hi≤N):Vec uv w (.slice ao hi cap) (L.take hi):=by
 have e:=Vec.take h hi (by omega)
 exact e
theorem vecU_drop {w:World} {ao:Option Addr} {N cap:Nat} {L:List UInt64} (h:Vec uv w (.slice ao N cap) L) (hN:L.length=N) (lo:Nat) (h1:lo≤N) (ao':Option Addr) (hao:ao'=if cap=lo then ao else ao.map (·.add lo)) (k c:Nat) (hk:k=N - lo) (hc:c=cap - lo):
 Vec uv w (.slice ao' k c) (L.drop lo):=Vec.drop h lo (by omega) ao' hao k c (by omega) hc
theorem emp_ownS {w:World} {g e size B:Nat} (h:w.heap[g]? =some (.cells #[] e (0,0))) (hB:B≤g):w.ownsRow B e size (.slice (some ⟨g,0,none⟩) 0 0) 0 []:=
 ⟨by simp,.inr ⟨g,0,#[],rfl,hB,h,Nat.le_refl _,by simp[maxLen],by simp,by simp⟩⟩
theorem fr_atS {w w':World} {S:List Nat} (f:Fr S w w') {b:Nat} {o:Obj} (h:w.heap[b]? =some o) (hs:b∉S):w'.heap[b]? =some o:=(f.block b (Array.getElem?_eq_some_iff.1 h).1 hs).trans h
theorem v1_atS {w:World} {g e:Nat} {x:UInt64} (h:w.heap[g]? =some (.cells #[uv x] e (0,0))):Vec uv w (.slice (some ⟨g,0,none⟩) 1 1) [x]:=by
 refine⟨rfl,some ⟨g,0,none⟩,1,rfl,Nat.le_refl _,by simp[maxLen],(fun h=>by cases h),fun a ha j u hu=> ?_⟩
 cases ha
 have e1:(⟨g,0,none⟩:Addr).add j=⟨g,j,none⟩:=by unfold Addr.add;split<;>simp_all
 rw[e1,cell_of_row _ _ _ _ _ _ h]
 simpa using hu
/-- What lives where a segment is put between others. -/
def SgQ (W:World) (x:UInt64) (A C:List UInt64) (d:Nat) (v:Value) (w:World):Prop:=match d with
 |49=>∃g,v= .slice (some ⟨g,0,none⟩) 0 0∧w.heap[g]? =some (.cells #[] 22 (0,0))∧W.heap.size≤g
 |53=>OwV uv w W.heap.size 22 v A
 |60=>∃g,v= .slice (some ⟨g,0,none⟩) 1 1∧w.heap[g]? =some (.cells #[uv x] 22 (0,0))
 |61=>OwV uv w W.heap.size 22 v (A++[x])
 |65=>OwV uv w W.heap.size 22 v (A++[x]++C)
 |3=>OwV uv w W.heap.size 22 v (A++[x]++C)∧Ext W w
 |_=>True
theorem SgQ.st {W:World} {x:UInt64} {A C:List UInt64} (d:Nat) (v:Value) (w w':World) (h:SgQ W x A C d v w) (k:Ext w w'):SgQ W x A C d v w':=by
 unfold SgQ at*
 split at h
 · obtain⟨g,e,hg,hl⟩:=h;exact⟨g,e,k.obj hg,hl⟩
 · exact OwV.ext h k
 · obtain⟨g,e,hg⟩:=h;exact⟨g,e,k.obj hg⟩
 · exact OwV.ext h k
 · exact OwV.ext h k
 · exact⟨OwV.ext h.1 k,h.2.trans k⟩
 · trivial
theorem val_lt_iff (a b:UInt64):decide ((a.toNat:Int)<(b.toNat:Int))=decide (a<b):=by
 rw[Bool.eq_iff_iff]
 simp only[decide_eq_true_eq,UInt64.lt_iff_toNat_lt]
 omega
set_option maxHeartbeats 4000000 in
theorem rsegs_any (v:Value) (l:List Itm) (w:World) (hr:Its w v l) (hl:l.length≤1000):
 Calls Tryd.prog 19 #[v] w fun e w'=>(∃u,e= .returned u∧Vec uv w' u (segsOf l))∧Ext w w':=by
 obtain⟨ao,cap,rfl,hle,hmx,hnn,hcell⟩:=hr.open
 have HIC:=hid hcell
 have HNN:=hid hnn
 obtain⟨n,hn⟩:∃n,l.length=n:=⟨_,rfl⟩
 rw[hn] at hl hle
 rw[hn]
 have HN:=hid hn
 have HL:=hid hl
 have HB0:Hid (OwV uv (w.alloc (.cells #[] 22)) w.heap.size 22 (.slice (some ⟨w.heap.size,0,none⟩) 0 0) []):=hid (emp_ownS (heap_alloc_new w _) (Nat.le_refl _))
 have HE0:Hid (Ext w (w.alloc (.cells #[] 22))):=hid (Ext.alloc _ _)
 obtain⟨B,hB⟩:∃B,w.heap.size=B:=⟨_,rfl⟩
 rw[hB] at HB0
 have HB:=hid hB
 clear hr hnn hcell hn hl
 go_enter Tryd.func19,Tryd.ntmps19
 go_wp2_with fail
 try rw[hB]
 clear hB
 generalize w.alloc (.cells #[] 22)=w0 at*
 go_loopw [3,4] (fun ov iv wr=>∃(i N:Nat) (oo:Option Addr) (oc:Nat),i≤n∧N≤i∧iv= .int .i64 (i:Int)∧ov= .slice oo N oc∧Hid ((segsOf (l.take i)).length=N)∧Hid (OwV uv wr B 22 (.slice oo N oc) (segsOf (l.take i)))∧Hid (Ext w wr)) (fun _ iv _=>n - (intOf iv).toNat)
 case atStart=>exact⟨0,0,some ⟨B,0,none⟩,0,by omega,by omega,rfl,rfl,hid (by simp[segsOf,ddU]),hid (by simpa[segsOf,ddU] using HB0.out),HE0⟩
 case round=>
  clear HB0 HE0
  obtain⟨i,N,oo,oc,hi,hNi,rfl,rfl,HLN,HO,HE⟩:=hrel
  by_cases hlt:i<n
  · have hij:decide ((i:Int)<(n:Int))=true:=by simp;omega
    have hij2:(i:Int)<(n:Int):=by omega
    obtain⟨a,rfl⟩:=HNN.out (by omega)
    have hltL:i<l.length:=by rw[HN.out];exact hlt
    have hc7:=HE.out.cell (HIC.out a rfl i hltL 7 _ rfl)
    have hsu:=segs_step l i hltL
    obtain⟨s,hs⟩:∃s,l[i]'hltL=s:=⟨_,rfl⟩
    rw[hs] at hc7 hsu
    obtain⟨x,hx⟩:∃x,s.seg=x:=⟨_,rfl⟩
    rw[hx] at hc7
    have K7:=hid (cell_next hc7 (by decide))
    have HSU:=hid hsu
    have HXS:=hid hx
    have HLT:=hid hlt
    have hwi:IntKind.i64.wrap ((i:Int)+1)=((i+1:Nat):Int):=i64v _ (by omega) (by have:=HL.out;omega)
    obtain⟨L,hL⟩:∃L,segsOf (l.take i)=L:=⟨_,rfl⟩
    rw[hL] at HLN HO
    have HLL:=hid hL
    have HNb:Hid (N≤1000):=hid (by have:=HL.out;omega)
    clear hs hsu hc7 hx hL hltL hlt
    go_upto_block 2 with fail
    go_cut [5] from 13 to 31 (fun jv wx=>∃at':Nat,at'≤N∧jv= .int .i64 (at':Int)∧Hid (Ext wr wx)∧Hid (∀j (h:j<L.length),j<at'→L[j]<x)∧Hid (∀h:at'<L.length,¬L[at']<x))
    case first=>
     go_wp2_with fail
     go_loopw [5] (fun jv wx=>∃at':Nat,at'≤N∧jv= .int .i64 (at':Int)∧Hid (Ext wr wx)∧Hid (∀j (h:j<L.length),j<at'→L[j]<x)) (fun jv _=>N - (intOf jv).toNat)
     case atStart=>exact⟨0,by omega,rfl,hid (Ext.refl _),hid (fun j h h2=>absurd h2 (by omega))⟩
     case round=>
      obtain⟨at',hat,rfl,HX,HA⟩:=hrel
      rcases Nat.lt_or_ge at' N with haN|haN
      · obtain⟨g,rfl⟩:=HO.out.addr (by omega)
        have hatL:at'<L.length:=by rw[HLN.out];exact haN
        have cc:=HX.out.cell (HO.out.cell at' hatL)
        obtain⟨y,hy⟩:∃y,L[at']=y:=⟨_,rfl⟩
        rw[hy] at cc
        have HY:=hid hy
        have CC:=hid cc
        have haN2:(at':Int)<N:=by omega
        have hoc:=HO.out.vec.opens.2.1
        have haC:(at':Int)<(oc:Int):=by omega
        have hwa:IntKind.i64.wrap ((at':Int)+1)=((at'+1:Nat):Int):=i64v _ (by omega) (by have:=HNb.out;omega)
        have HAN:=hid haN
        clear hy cc
        obtain⟨bq,hbq⟩:∃b,decide (y<x)=b:=⟨_,rfl⟩
        have HBQ:=hid hbq
        have hdy:decide ((y.toNat:Int)<(x.toNat:Int))=bq:=by rw[val_lt_iff];exact hbq
        have HDY:=hid hdy
        clear hbq hdy
        go_wp2_with fail
        refine Par.wp_region_par (l:=[_,_,_,_,_,_,_,_,_,_,_,_,_,_,_,_,_]) rfl Ext (Par.VL [Par.EQ (Value.int IntKind.i64 (at':Int)),Par.EQ (Value.slice (some ⟨g,0,none⟩) N oc),Par.EQ (Value.int IntKind.i64 (N:Int)),Par.EQ (Value.bool true),Par.EQ (Value.bool true),Par.EQ (Value.slice (some ⟨g,0,none⟩) N oc),Par.EQ (Value.int IntKind.i64 (at':Int)),Par.EQ (Value.pointer (some ⟨g,at',none⟩)),Par.EQ (uv y),Par.EQ (Value.slice (some a) n cap),Par.EQ (Value.int IntKind.i64 (i:Int)),Par.EQ (Value.pointer (some (a.add (i*10)))),Par.EQ (Value.pointer (some ⟨(a.add (i*10)).block,(a.add (i*10)).off+7,none⟩)),Par.EQ (Value.pointer (some ⟨(a.add (i*10)).block,(a.add (i*10)).off+7,none⟩)),Par.EQ (uv x),Par.EQ (Value.bool bq),Par.EQ (Value.bool bq)]) (by kernel_rfl) Ext.refl (fun _ _ _ h1 h2=>Ext.trans h1 h2) (Ext.draw _) (Par.VL_stab ?_) ?_ ?_
        · simp only[List.forall_mem_cons,List.not_mem_nil,false_implies,implies_true,and_true]
          refine⟨fun _ _ _ _ h=>h,fun _ _ _ _ h=>h,fun _ _ _ _ h=>h,fun _ _ _ _ h=>h,fun _ _ _ _ h=>h,fun _ _ _ _ h=>h,fun _ _ _ _ h=>h,fun _ _ _ _ h=>h,fun _ _ _ _ h=>h,fun _ _ _ _ h=>h,fun _ _ _ _ h=>h,fun _ _ _ _ h=>h,fun _ _ _ _ h=>h,fun _ _ _ _ h=>h,fun _ _ _ _ h=>h,fun _ _ _ _ h=>h,fun _ _ _ _ h=>h⟩
        · refine⟨⟨fun _ _=>trivial,fun ρ w' hX hG hk=> ?_⟩,?_⟩
          · exact Par.val_of_run rfl ⟨Ext.refl _,hk.1⟩
          refine⟨⟨fun _ _=>trivial,fun ρ w' hX hG hk=> ?_⟩,?_⟩
          · exact Par.val_of_run rfl ⟨Ext.refl _,hk.1⟩
          refine⟨⟨fun _ _=>trivial,fun ρ w' hX hG hk=> ?_⟩,?_⟩
          · obtain⟨(e0:ρ (.tmp 14)=Value.slice (some ⟨g,0,none⟩) N oc),-⟩:=hk;refine Par.val_k fun K hK=> ?_;unfold Par.val
            (go_simp;exact hK _ _ ⟨Ext.refl _,rfl⟩)
          refine⟨⟨fun _ _=>trivial,fun ρ w' hX hG hk=> ?_⟩,?_⟩
          · obtain⟨(e0:ρ (.tmp 13)=Value.int IntKind.i64 (at':Int)),(e1:ρ (.tmp 15)=Value.int IntKind.i64 (N:Int)),-⟩:=hk;refine Par.val_k fun K hK=> ?_;unfold Par.val
            (have hd9:decide ((at':Int)<(N:Int))=true:=(by simp;omega);go_simp;exact hK _ _ ⟨Ext.refl _,rfl⟩)
          refine⟨⟨fun _ _=>trivial,fun ρ w' hX hG hk=> ?_⟩,?_⟩
          · obtain⟨(e0:ρ (.tmp 16)=Value.bool true),-⟩:=hk;refine Par.val_k fun K hK=> ?_;unfold Par.val
            (go_simp;exact hK _ _ ⟨Ext.refl _,rfl⟩)
          refine⟨⟨fun _ _ u hu=> .inl hu,fun ρ w' hX hG hk=> ?_⟩,?_⟩
          · exact Par.val_of_run rfl ⟨Ext.refl _,hk.1⟩
          refine⟨⟨fun _ _ u hu=> .inl hu,fun ρ w' hX hG hk=> ?_⟩,?_⟩
          · exact Par.val_of_run rfl ⟨Ext.refl _,hk.1⟩
          refine⟨⟨fun _ _ u hu=> .inl hu,fun ρ w' hX hG hk=> ?_⟩,?_⟩
          · obtain⟨(e0:ρ (.tmp 18)=Value.slice (some ⟨g,0,none⟩) N oc),(e1:ρ (.tmp 19)=Value.int IntKind.i64 (at':Int)),-⟩:=hk;refine Par.val_k fun K hK=> ?_;unfold Par.val
            (go_simp;exact hK _ _ ⟨Ext.refl _,rfl⟩)
          refine⟨⟨fun _ _ u hu=> .inl hu,fun ρ w' hX hG hk=> ?_⟩,?_⟩
          · obtain⟨(e0:ρ (.tmp 20)=Value.pointer (some ⟨g,at',none⟩)),-⟩:=hk;refine Par.val_k fun K hK=> ?_;unfold Par.val
            (have c:=hX.cell CC.out;go_simp;exact hK _ _ ⟨Ext.refl _,rfl⟩)
          refine⟨⟨fun _ _ u hu=> .inl hu,fun ρ w' hX hG hk=> ?_⟩,?_⟩
          · exact Par.val_of_run rfl ⟨Ext.refl _,hk.1⟩
          refine⟨⟨fun _ _ u hu=> .inl hu,fun ρ w' hX hG hk=> ?_⟩,?_⟩
          · exact Par.val_of_run rfl ⟨Ext.refl _,hk.1⟩
          refine⟨⟨fun _ _ u hu=> .inl hu,fun ρ w' hX hG hk=> ?_⟩,?_⟩
          · obtain⟨(e0:ρ (.tmp 22)=Value.slice (some a) n cap),(e1:ρ (.tmp 23)=Value.int IntKind.i64 (i:Int)),-⟩:=hk;refine Par.val_k fun K hK=> ?_;unfold Par.val
            (go_simp;exact hK _ _ ⟨Ext.refl _,rfl⟩)
          refine⟨⟨fun _ _ u hu=> .inl hu,fun ρ w' hX hG hk=> ?_⟩,?_⟩
          · obtain⟨(e0:ρ (.tmp 24)=Value.pointer (some (a.add (i*10)))),-⟩:=hk;refine Par.val_k fun K hK=> ?_;unfold Par.val
            (go_simp;exact hK _ _ ⟨Ext.refl _,rfl⟩)
          refine⟨⟨fun _ _ u hu=> .inl hu,fun ρ w' hX hG hk=> ?_⟩,?_⟩
          · obtain⟨(e0:ρ (.tmp 25)=Value.pointer (some ⟨(a.add (i*10)).block,(a.add (i*10)).off+7,none⟩)),-⟩:=hk;refine Par.val_k fun K hK=> ?_;unfold Par.val
            (go_simp;exact hK _ _ ⟨Ext.refl _,rfl⟩)
          refine⟨⟨fun _ _ u hu=> .inl hu,fun ρ w' hX hG hk=> ?_⟩,?_⟩
          · obtain⟨(e0:ρ (.tmp 26)=Value.pointer (some ⟨(a.add (i*10)).block,(a.add (i*10)).off+7,none⟩)),-⟩:=hk;refine Par.val_k fun K hK=> ?_;unfold Par.val
            (have c:=(HX.out.trans hX).cell K7.out;go_simp;exact hK _ _ ⟨Ext.refl _,rfl⟩)
          refine⟨⟨fun _ _ u hu=> .inl hu,fun ρ w' hX hG hk=> ?_⟩,?_⟩
          · obtain⟨(e0:ρ (.tmp 21)=uv y),(e1:ρ (.tmp 27)=uv x),-⟩:=hk;refine Par.val_k fun K hK=> ?_;unfold Par.val
            (have h9:=HDY.out;go_simp;exact hK _ _ ⟨Ext.refl _,by first|rfl|exact congrArg Value.bool h9|exact congrArg Value.bool (by rw[←h9];congr 1;simp)⟩)
          refine⟨⟨fun _ _=>trivial,fun ρ w' hX hG hk=> ?_⟩,?_⟩
          · obtain⟨(e0:ρ (.tmp 17)=Value.bool true),(e1:ρ (.tmp 28)=Value.bool bq),(e2:ρ (Operand.const (Value.bool false))=(Value.bool false)),-⟩:=hk;refine Par.val_k fun K hK=> ?_;unfold Par.val
            (go_simp;exact hK _ _ ⟨Ext.refl _,rfl⟩)
          trivial
        intro a' w' inv
        have hX:=inv.ext
        have q13:a'.tmps.getD 13 undef=Value.int IntKind.i64 (at':Int):=inv.done 0 _ 13 rfl rfl rfl
        have q14:a'.tmps.getD 14 undef=Value.slice (some ⟨g,0,none⟩) N oc:=inv.done 1 _ 14 rfl rfl rfl
        have q15:a'.tmps.getD 15 undef=Value.int IntKind.i64 (N:Int):=inv.done 2 _ 15 rfl rfl rfl
        have q16:a'.tmps.getD 16 undef=Value.bool true:=inv.done 3 _ 16 rfl rfl rfl
        have q17:a'.tmps.getD 17 undef=Value.bool true:=inv.done 4 _ 17 rfl rfl rfl
        have q18:a'.tmps.getD 18 undef=Value.slice (some ⟨g,0,none⟩) N oc:=inv.done 5 _ 18 rfl rfl rfl
        have q19:a'.tmps.getD 19 undef=Value.int IntKind.i64 (at':Int):=inv.done 6 _ 19 rfl rfl rfl
        have q20:a'.tmps.getD 20 undef=Value.pointer (some ⟨g,at',none⟩):=inv.done 7 _ 20 rfl rfl rfl
        have q21:a'.tmps.getD 21 undef=uv y:=inv.done 8 _ 21 rfl rfl rfl
        have q22:a'.tmps.getD 22 undef=Value.slice (some a) n cap:=inv.done 9 _ 22 rfl rfl rfl
        have q23:a'.tmps.getD 23 undef=Value.int IntKind.i64 (i:Int):=inv.done 10 _ 23 rfl rfl rfl
        have q24:a'.tmps.getD 24 undef=Value.pointer (some (a.add (i*10))):=inv.done 11 _ 24 rfl rfl rfl
        have q25:a'.tmps.getD 25 undef=Value.pointer (some ⟨(a.add (i*10)).block,(a.add (i*10)).off+7,none⟩):=inv.done 12 _ 25 rfl rfl rfl
        have q26:a'.tmps.getD 26 undef=Value.pointer (some ⟨(a.add (i*10)).block,(a.add (i*10)).off+7,none⟩):=inv.done 13 _ 26 rfl rfl rfl
        have q27:a'.tmps.getD 27 undef=uv x:=inv.done 14 _ 27 rfl rfl rfl
        have q28:a'.tmps.getD 28 undef=Value.bool bq:=inv.done 15 _ 28 rfl rfl rfl
        have q29:a'.tmps.getD 29 undef=Value.bool bq:=inv.done 16 _ 29 rfl rfl rfl
        clear inv
        simp only[List.filterMap_cons,List.filterMap_nil,Par.putAll,Act.put,List.setIfInBounds_toArray,List.set_cons_succ,List.set_cons_zero,q13,q14,q15,q16,q17,q18,q19,q20,q21,q22,q23,q24,q25,q26,q27,q28,q29]
        clear q13 q14 q15 q16 q17 q18 q19 q20 q21 q22 q23 q24 q25 q26 q27 q28 q29
        clear a'
        have HX2:=hid (HX.out.trans hX)
        clear hX
        cases bq with
        |true=>
         have HA2:Hid (∀j (h:j<L.length),j<at'+1→L[j]<x):=hid (fun j h h2=>by
          rcases Nat.lt_or_eq_of_le (Nat.le_of_lt_succ h2) with h3|h3
          · exact HA.out j h h3
          · subst h3;rw[HY.out];exact of_decide_eq_true HBQ.out)
         go_wp2
         go_roundw
         case rel=>exact⟨at'+1,HAN.out,by first|rfl|go_num,HX2,HA2⟩
         case measure=>have:=HAN.out;simp[intOf];omega
        |false=>
         have HA2:Hid (∀h:at'<L.length,¬L[at']<x):=hid (fun h=>by rw[HY.out];exact of_decide_eq_false HBQ.out)
         go_wp2
         go_meet
         case rel=>exact⟨at',hat,rfl,HX2,HA,HA2⟩
      · have HA2:Hid (∀h:at'<L.length,¬L[at']<x):=hid (fun h=>by have:=HLN.out;omega)
        have HGE:=hid haN
        clear haN
        go_wp2_with fail
        refine Par.wp_region_par (l:=[_,_,_,_,_,_,_,_,_,_,_,_,_,_,_,_,_]) rfl Ext (Par.VL [Par.EQ (Value.int IntKind.i64 (at':Int)),Par.EQ (Value.slice oo N oc),Par.EQ (Value.int IntKind.i64 (N:Int)),Par.EQ (Value.bool false),Par.EQ (Value.bool false),Par.EQ (undef),Par.EQ (undef),Par.EQ (undef),Par.EQ (undef),Par.EQ (undef),Par.EQ (undef),Par.EQ (undef),Par.EQ (undef),Par.EQ (undef),Par.EQ (undef),Par.EQ (undef),Par.EQ (Value.bool false)]) (by kernel_rfl) Ext.refl (fun _ _ _ h1 h2=>Ext.trans h1 h2) (Ext.draw _) (Par.VL_stab ?_) ?_ ?_
        · simp only[List.forall_mem_cons,List.not_mem_nil,false_implies,implies_true,and_true]
          refine⟨fun _ _ _ _ h=>h,fun _ _ _ _ h=>h,fun _ _ _ _ h=>h,fun _ _ _ _ h=>h,fun _ _ _ _ h=>h,fun _ _ _ _ h=>h,fun _ _ _ _ h=>h,fun _ _ _ _ h=>h,fun _ _ _ _ h=>h,fun _ _ _ _ h=>h,fun _ _ _ _ h=>h,fun _ _ _ _ h=>h,fun _ _ _ _ h=>h,fun _ _ _ _ h=>h,fun _ _ _ _ h=>h,fun _ _ _ _ h=>h,fun _ _ _ _ h=>h⟩
        · refine⟨⟨fun _ _=>trivial,fun ρ w' hX hG hk=> ?_⟩,?_⟩
          · exact Par.val_of_run rfl ⟨Ext.refl _,hk.1⟩
          refine⟨⟨fun _ _=>trivial,fun ρ w' hX hG hk=> ?_⟩,?_⟩
          · exact Par.val_of_run rfl ⟨Ext.refl _,hk.1⟩
          refine⟨⟨fun _ _=>trivial,fun ρ w' hX hG hk=> ?_⟩,?_⟩
          · obtain⟨(e0:ρ (.tmp 14)=Value.slice oo N oc),-⟩:=hk;refine Par.val_k fun K hK=> ?_;unfold Par.val
            (go_simp;exact hK _ _ ⟨Ext.refl _,rfl⟩)
          refine⟨⟨fun _ _=>trivial,fun ρ w' hX hG hk=> ?_⟩,?_⟩
          · obtain⟨(e0:ρ (.tmp 13)=Value.int IntKind.i64 (at':Int)),(e1:ρ (.tmp 15)=Value.int IntKind.i64 (N:Int)),-⟩:=hk;refine Par.val_k fun K hK=> ?_;unfold Par.val
            (have hd9:decide ((at':Int)<(N:Int))=false:=(by have:=HGE.out;simp;omega);have hd8:(at'<N)=False:=(by have:=HGE.out;simp;omega);go_simp;exact hK _ _ ⟨Ext.refl _,rfl⟩)
          refine⟨⟨fun _ _=>trivial,fun ρ w' hX hG hk=> ?_⟩,?_⟩
          · obtain⟨(e0:ρ (.tmp 16)=Value.bool false),-⟩:=hk;refine Par.val_k fun K hK=> ?_;unfold Par.val
            (go_simp;exact hK _ _ ⟨Ext.refl _,rfl⟩)
          refine⟨⟨fun _ _ u hu=> .inr rfl,fun ρ w' hX hG hk=> ?_⟩,?_⟩
          · cases hG
          refine⟨⟨fun _ _ u hu=> .inr rfl,fun ρ w' hX hG hk=> ?_⟩,?_⟩
          · cases hG
          refine⟨⟨fun _ _ u hu=> .inr rfl,fun ρ w' hX hG hk=> ?_⟩,?_⟩
          · cases hG
          refine⟨⟨fun _ _ u hu=> .inr rfl,fun ρ w' hX hG hk=> ?_⟩,?_⟩
          · cases hG
          refine⟨⟨fun _ _ u hu=> .inr rfl,fun ρ w' hX hG hk=> ?_⟩,?_⟩
          · cases hG
          refine⟨⟨fun _ _ u hu=> .inr rfl,fun ρ w' hX hG hk=> ?_⟩,?_⟩
          · cases hG
          refine⟨⟨fun _ _ u hu=> .inr rfl,fun ρ w' hX hG hk=> ?_⟩,?_⟩
          · cases hG
          refine⟨⟨fun _ _ u hu=> .inr rfl,fun ρ w' hX hG hk=> ?_⟩,?_⟩
          · cases hG
          refine⟨⟨fun _ _ u hu=> .inr rfl,fun ρ w' hX hG hk=> ?_⟩,?_⟩
          · cases hG
          refine⟨⟨fun _ _ u hu=> .inr rfl,fun ρ w' hX hG hk=> ?_⟩,?_⟩
          · cases hG
          refine⟨⟨fun _ _ u hu=> .inr rfl,fun ρ w' hX hG hk=> ?_⟩,?_⟩
          · cases hG
          refine⟨⟨fun _ _=>trivial,fun ρ w' hX hG hk=> ?_⟩,?_⟩
          · obtain⟨(e0:ρ (.tmp 17)=Value.bool false),(e1:ρ (.tmp 28)=undef),(e2:ρ (Operand.const (Value.bool false))=(Value.bool false)),-⟩:=hk;refine Par.val_k fun K hK=> ?_;unfold Par.val
            (go_simp;exact hK _ _ ⟨Ext.refl _,rfl⟩)
          trivial
        intro a' w' inv
        have hX:=inv.ext
        have q13:a'.tmps.getD 13 undef=Value.int IntKind.i64 (at':Int):=inv.done 0 _ 13 rfl rfl rfl
        have q14:a'.tmps.getD 14 undef=Value.slice oo N oc:=inv.done 1 _ 14 rfl rfl rfl
        have q15:a'.tmps.getD 15 undef=Value.int IntKind.i64 (N:Int):=inv.done 2 _ 15 rfl rfl rfl
        have q16:a'.tmps.getD 16 undef=Value.bool false:=inv.done 3 _ 16 rfl rfl rfl
        have q17:a'.tmps.getD 17 undef=Value.bool false:=inv.done 4 _ 17 rfl rfl rfl
        have q18:a'.tmps.getD 18 undef=undef:=inv.done 5 _ 18 rfl rfl rfl
        have q19:a'.tmps.getD 19 undef=undef:=inv.done 6 _ 19 rfl rfl rfl
        have q20:a'.tmps.getD 20 undef=undef:=inv.done 7 _ 20 rfl rfl rfl
        have q21:a'.tmps.getD 21 undef=undef:=inv.done 8 _ 21 rfl rfl rfl
        have q22:a'.tmps.getD 22 undef=undef:=inv.done 9 _ 22 rfl rfl rfl
        have q23:a'.tmps.getD 23 undef=undef:=inv.done 10 _ 23 rfl rfl rfl
        have q24:a'.tmps.getD 24 undef=undef:=inv.done 11 _ 24 rfl rfl rfl
        have q25:a'.tmps.getD 25 undef=undef:=inv.done 12 _ 25 rfl rfl rfl
        have q26:a'.tmps.getD 26 undef=undef:=inv.done 13 _ 26 rfl rfl rfl
        have q27:a'.tmps.getD 27 undef=undef:=inv.done 14 _ 27 rfl rfl rfl
        have q28:a'.tmps.getD 28 undef=undef:=inv.done 15 _ 28 rfl rfl rfl
        have q29:a'.tmps.getD 29 undef=Value.bool false:=inv.done 16 _ 29 rfl rfl rfl
        clear inv
        simp only[List.filterMap_cons,List.filterMap_nil,Par.putAll,Act.put,List.setIfInBounds_toArray,List.set_cons_succ,List.set_cons_zero,q13,q14,q15,q16,q17,q18,q19,q20,q21,q22,q23,q24,q25,q26,q27,q28,q29]
        clear q13 q14 q15 q16 q17 q18 q19 q20 q21 q22 q23 q24 q25 q26 q27 q28 q29
        clear a'
        have HX2:=hid (HX.out.trans hX)
        clear hX
        go_wp2
        go_meet
        case rel=>exact⟨at',hat,rfl,HX2,HA,HA2⟩
    case rest=>
     obtain⟨at',hat,rfl,HX,HA,HA2⟩:=hcut
     have HO2:=hid (HO.out.ext HX.out)
     have HE2:=hid (HE.out.trans HX.out)
     have K72:=hid (HX.out.cell K7.out)
     clear HO HE HX
     rcases Nat.lt_or_ge at' N with haN|haN
     · obtain⟨g,rfl⟩:=HO2.out.addr (by omega)
       have hatL:at'<L.length:=by rw[HLN.out];exact haN
       have cc:=HO2.out.cell at' hatL
       have hnl:=HA2.out hatL
       obtain⟨y,hy⟩:∃y,L[at']=y:=⟨_,rfl⟩
       rw[hy] at cc hnl
       have HY:=hid hy
       have CC:=hid cc
       have HNL:=hid hnl
       have haN2:(at':Int)<N:=by omega
       have hoc:=HO2.out.vec.opens.2.1
       have haC:(at':Int)<(oc:Int):=by omega
       have HAN:=hid haN
       obtain⟨bq,hbq⟩:∃b,((y.toNat:Int) !=(x.toNat:Int))=b:=⟨_,rfl⟩
       have HBQ:=hid hbq
       clear hy cc hnl hbq
       go_wp2_with fail
       refine Par.wp_region_par (l:=[_,_,_,_,_,_,_,_,_,_,_,_,_,_,_,_,_]) rfl Ext (Par.VL [Par.EQ (Value.int IntKind.i64 (at':Int)),Par.EQ (Value.slice (some ⟨g,0,none⟩) N oc),Par.EQ (Value.int IntKind.i64 (N:Int)),Par.EQ (Value.bool false),Par.EQ (Value.bool false),Par.EQ (Value.slice (some ⟨g,0,none⟩) N oc),Par.EQ (Value.int IntKind.i64 (at':Int)),Par.EQ (Value.pointer (some ⟨g,at',none⟩)),Par.EQ (uv y),Par.EQ (Value.slice (some a) n cap),Par.EQ (Value.int IntKind.i64 (i:Int)),Par.EQ (Value.pointer (some (a.add (i*10)))),Par.EQ (Value.pointer (some ⟨(a.add (i*10)).block,(a.add (i*10)).off+7,none⟩)),Par.EQ (Value.pointer (some ⟨(a.add (i*10)).block,(a.add (i*10)).off+7,none⟩)),Par.EQ (uv x),Par.EQ (Value.bool bq),Par.EQ (Value.bool bq)]) (by kernel_rfl) Ext.refl (fun _ _ _ h1 h2=>Ext.trans h1 h2) (Ext.draw _) (Par.VL_stab ?_) ?_ ?_
       · simp only[List.forall_mem_cons,List.not_mem_nil,false_implies,implies_true,and_true]
         refine⟨fun _ _ _ _ h=>h,fun _ _ _ _ h=>h,fun _ _ _ _ h=>h,fun _ _ _ _ h=>h,fun _ _ _ _ h=>h,fun _ _ _ _ h=>h,fun _ _ _ _ h=>h,fun _ _ _ _ h=>h,fun _ _ _ _ h=>h,fun _ _ _ _ h=>h,fun _ _ _ _ h=>h,fun _ _ _ _ h=>h,fun _ _ _ _ h=>h,fun _ _ _ _ h=>h,fun _ _ _ _ h=>h,fun _ _ _ _ h=>h,fun _ _ _ _ h=>h⟩
       · refine⟨⟨fun _ _=>trivial,fun ρ w' hX hG hk=> ?_⟩,?_⟩
         · exact Par.val_of_run rfl ⟨Ext.refl _,hk.1⟩
         refine⟨⟨fun _ _=>trivial,fun ρ w' hX hG hk=> ?_⟩,?_⟩
         · exact Par.val_of_run rfl ⟨Ext.refl _,hk.1⟩
         refine⟨⟨fun _ _=>trivial,fun ρ w' hX hG hk=> ?_⟩,?_⟩
         · obtain⟨(e0:ρ (.tmp 33)=Value.slice (some ⟨g,0,none⟩) N oc),-⟩:=hk;refine Par.val_k fun K hK=> ?_;unfold Par.val
           (go_simp;exact hK _ _ ⟨Ext.refl _,rfl⟩)
         refine⟨⟨fun _ _=>trivial,fun ρ w' hX hG hk=> ?_⟩,?_⟩
         · obtain⟨(e0:ρ (.tmp 32)=Value.int IntKind.i64 (at':Int)),(e1:ρ (.tmp 34)=Value.int IntKind.i64 (N:Int)),-⟩:=hk;refine Par.val_k fun K hK=> ?_;unfold Par.val
           (have hd9:((at':Int)==(N:Int))=false:=(by have:=HAN.out;simp;omega);go_simp;exact hK _ _ ⟨Ext.refl _,rfl⟩)
         refine⟨⟨fun _ _=>trivial,fun ρ w' hX hG hk=> ?_⟩,?_⟩
         · obtain⟨(e0:ρ (.tmp 35)=Value.bool false),-⟩:=hk;refine Par.val_k fun K hK=> ?_;unfold Par.val
           (go_simp;exact hK _ _ ⟨Ext.refl _,rfl⟩)
         refine⟨⟨fun _ _ u hu=> .inl hu,fun ρ w' hX hG hk=> ?_⟩,?_⟩
         · exact Par.val_of_run rfl ⟨Ext.refl _,hk.1⟩
         refine⟨⟨fun _ _ u hu=> .inl hu,fun ρ w' hX hG hk=> ?_⟩,?_⟩
         · exact Par.val_of_run rfl ⟨Ext.refl _,hk.1⟩
         refine⟨⟨fun _ _ u hu=> .inl hu,fun ρ w' hX hG hk=> ?_⟩,?_⟩
         · obtain⟨(e0:ρ (.tmp 37)=Value.slice (some ⟨g,0,none⟩) N oc),(e1:ρ (.tmp 38)=Value.int IntKind.i64 (at':Int)),-⟩:=hk;refine Par.val_k fun K hK=> ?_;unfold Par.val
           (go_simp;exact hK _ _ ⟨Ext.refl _,rfl⟩)
         refine⟨⟨fun _ _ u hu=> .inl hu,fun ρ w' hX hG hk=> ?_⟩,?_⟩
         · obtain⟨(e0:ρ (.tmp 39)=Value.pointer (some ⟨g,at',none⟩)),-⟩:=hk;refine Par.val_k fun K hK=> ?_;unfold Par.val
           (have c:=hX.cell CC.out;go_simp;exact hK _ _ ⟨Ext.refl _,rfl⟩)
         refine⟨⟨fun _ _ u hu=> .inl hu,fun ρ w' hX hG hk=> ?_⟩,?_⟩
         · exact Par.val_of_run rfl ⟨Ext.refl _,hk.1⟩
         refine⟨⟨fun _ _ u hu=> .inl hu,fun ρ w' hX hG hk=> ?_⟩,?_⟩
         · exact Par.val_of_run rfl ⟨Ext.refl _,hk.1⟩
         refine⟨⟨fun _ _ u hu=> .inl hu,fun ρ w' hX hG hk=> ?_⟩,?_⟩
         · obtain⟨(e0:ρ (.tmp 41)=Value.slice (some a) n cap),(e1:ρ (.tmp 42)=Value.int IntKind.i64 (i:Int)),-⟩:=hk;refine Par.val_k fun K hK=> ?_;unfold Par.val
           (go_simp;exact hK _ _ ⟨Ext.refl _,rfl⟩)
         refine⟨⟨fun _ _ u hu=> .inl hu,fun ρ w' hX hG hk=> ?_⟩,?_⟩
         · obtain⟨(e0:ρ (.tmp 43)=Value.pointer (some (a.add (i*10)))),-⟩:=hk;refine Par.val_k fun K hK=> ?_;unfold Par.val
           (go_simp;exact hK _ _ ⟨Ext.refl _,rfl⟩)
         refine⟨⟨fun _ _ u hu=> .inl hu,fun ρ w' hX hG hk=> ?_⟩,?_⟩
         · obtain⟨(e0:ρ (.tmp 44)=Value.pointer (some ⟨(a.add (i*10)).block,(a.add (i*10)).off+7,none⟩)),-⟩:=hk;refine Par.val_k fun K hK=> ?_;unfold Par.val
           (go_simp;exact hK _ _ ⟨Ext.refl _,rfl⟩)
         refine⟨⟨fun _ _ u hu=> .inl hu,fun ρ w' hX hG hk=> ?_⟩,?_⟩
         · obtain⟨(e0:ρ (.tmp 45)=Value.pointer (some ⟨(a.add (i*10)).block,(a.add (i*10)).off+7,none⟩)),-⟩:=hk;refine Par.val_k fun K hK=> ?_;unfold Par.val
           (have c:=hX.cell K72.out;go_simp;exact hK _ _ ⟨Ext.refl _,rfl⟩)
         refine⟨⟨fun _ _ u hu=> .inl hu,fun ρ w' hX hG hk=> ?_⟩,?_⟩
         · obtain⟨(e0:ρ (.tmp 40)=uv y),(e1:ρ (.tmp 46)=uv x),-⟩:=hk;refine Par.val_k fun K hK=> ?_;unfold Par.val
           (have h9:=HBQ.out;go_simp;exact hK _ _ ⟨Ext.refl _,by first|rfl|exact congrArg Value.bool h9|exact congrArg Value.bool (by rw[←h9];congr 1;simp)⟩)
         refine⟨⟨fun _ _=>trivial,fun ρ w' hX hG hk=> ?_⟩,?_⟩
         · obtain⟨(e0:ρ (.tmp 36)=Value.bool false),(e1:ρ (Operand.const (Value.bool true))=(Value.bool true)),(e2:ρ (.tmp 47)=Value.bool bq),-⟩:=hk;refine Par.val_k fun K hK=> ?_;unfold Par.val
           (go_simp;exact hK _ _ ⟨Ext.refl _,rfl⟩)
         trivial
       intro a' w' inv
       have hX:=inv.ext
       have q32:a'.tmps.getD 32 undef=Value.int IntKind.i64 (at':Int):=inv.done 0 _ 32 rfl rfl rfl
       have q33:a'.tmps.getD 33 undef=Value.slice (some ⟨g,0,none⟩) N oc:=inv.done 1 _ 33 rfl rfl rfl
       have q34:a'.tmps.getD 34 undef=Value.int IntKind.i64 (N:Int):=inv.done 2 _ 34 rfl rfl rfl
       have q35:a'.tmps.getD 35 undef=Value.bool false:=inv.done 3 _ 35 rfl rfl rfl
       have q36:a'.tmps.getD 36 undef=Value.bool false:=inv.done 4 _ 36 rfl rfl rfl
       have q37:a'.tmps.getD 37 undef=Value.slice (some ⟨g,0,none⟩) N oc:=inv.done 5 _ 37 rfl rfl rfl
       have q38:a'.tmps.getD 38 undef=Value.int IntKind.i64 (at':Int):=inv.done 6 _ 38 rfl rfl rfl
       have q39:a'.tmps.getD 39 undef=Value.pointer (some ⟨g,at',none⟩):=inv.done 7 _ 39 rfl rfl rfl
       have q40:a'.tmps.getD 40 undef=uv y:=inv.done 8 _ 40 rfl rfl rfl
       have q41:a'.tmps.getD 41 undef=Value.slice (some a) n cap:=inv.done 9 _ 41 rfl rfl rfl
       have q42:a'.tmps.getD 42 undef=Value.int IntKind.i64 (i:Int):=inv.done 10 _ 42 rfl rfl rfl
       have q43:a'.tmps.getD 43 undef=Value.pointer (some (a.add (i*10))):=inv.done 11 _ 43 rfl rfl rfl
       have q44:a'.tmps.getD 44 undef=Value.pointer (some ⟨(a.add (i*10)).block,(a.add (i*10)).off+7,none⟩):=inv.done 12 _ 44 rfl rfl rfl
       have q45:a'.tmps.getD 45 undef=Value.pointer (some ⟨(a.add (i*10)).block,(a.add (i*10)).off+7,none⟩):=inv.done 13 _ 45 rfl rfl rfl
       have q46:a'.tmps.getD 46 undef=uv x:=inv.done 14 _ 46 rfl rfl rfl
       have q47:a'.tmps.getD 47 undef=Value.bool bq:=inv.done 15 _ 47 rfl rfl rfl
       have q48:a'.tmps.getD 48 undef=Value.bool bq:=inv.done 16 _ 48 rfl rfl rfl
       clear inv
       simp only[List.filterMap_cons,List.filterMap_nil,Par.putAll,Act.put,List.setIfInBounds_toArray,List.set_cons_succ,List.set_cons_zero,q32,q33,q34,q35,q36,q37,q38,q39,q40,q41,q42,q43,q44,q45,q46,q47,q48]
       clear q32 q33 q34 q35 q36 q37 q38 q39 q40 q41 q42 q43 q44 q45 q46 q47 q48
       clear a'
       have HO3:=hid (HO2.out.ext hX)
       have HE3:=hid (HE2.out.trans hX)
       have K73:=hid (hX.cell K72.out)
       clear hX HO2 HE2 K72 CC
       generalize w'=wc at*
       cases bq with
       |false=>
        have HSM:Hid (segsOf (l.take (i+1))=L):=hid (by
         have e:y=x:=UInt64.toNat_inj.1 (by have:=HBQ.out;simp at this;omega)
         have hlt9:at'<(segsOf (l.take i)).length:=by rw[HLL.out,HLN.out];exact HAN.out
         have:=segs_old (l:=l.take i) (o:=s) (at':=at') hlt9 (by simp only[HLL.out];rw[HY.out,HXS.out,e])
         rw[HSU.out,this,HLL.out])
        go_wp2
        go_roundw
        case rel=>exact⟨i+1,N,some ⟨g,0,none⟩,oc,by have:=HLT.out;omega,by omega,by first|rfl|go_num,rfl,hid (by rw[HSM.out];exact HLN.out),hid (by rw[HSM.out];exact HO3.out),HE3⟩
        case measure=>have:=HLT.out;simp[intOf];omega
       |true=>
        have HGT:Hid (∀h:at'<L.length,x<L[at']):=hid (fun h=>by
         rw[HY.out,UInt64.lt_iff_toNat_lt]
         have h1:=HNL.out
         rw[UInt64.lt_iff_toNat_lt] at h1
         have h2:=HBQ.out
         simp at h2
         have h3:y.toNat≠x.toNat:=fun e=>h2 (by first|exact UInt64.toNat_inj.1 e|omega)
         omega)
        obtain⟨oo',hoo⟩:∃o,some (⟨g,0,none⟩:Addr)=o:=⟨_,rfl⟩
        rw[hoo] at HO3
        try rw[hoo]
        clear hoo HY HNL HBQ HAN haN2 haC hoc haN
        have hop:=HO3.out.vec.opens
        have hoc:N≤oc∧oc≤9223372036854775807:=⟨hop.2.1,hop.2.2.1⟩
        obtain⟨A,hA⟩:∃A,L.take at'=A:=⟨_,rfl⟩
        obtain⟨C,hCC⟩:∃C,L.drop at'=C:=⟨_,rfl⟩
        have HSA:Hid (Vec uv wc (.slice oo' at' oc) A):=hid (by rw[←hA];exact vecU_take HO3.out.vec HLN.out at' hat)
        have HSC:Hid (∀(ao':Option Addr) (kk c:Nat),(ao'=if oc=at' then oo' else oo'.map (·.add at'))→kk=N - at'→c=oc - at'→Vec uv wc (.slice ao' kk c) C):=hid (fun ao' kk c e1 e2 e3=>by rw[←hCC];exact vecU_drop HO3.out.vec HLN.out at' hat ao' e1 kk c e2 e3)
        have HAL:Hid (A.length=at'):=hid (by rw[←hA,List.length_take,HLN.out];omega)
        have HCL:Hid (C.length=N - at'):=hid (by rw[←hCC,List.length_drop,HLN.out])
        have HNc:Hid (at'≤N∧N≤1000):=hid ⟨hat,HNb.out⟩
        have HNEW:Hid (segsOf (l.take (i+1))=A++[x]++C):=hid (by
         have h:=segs_new (l:=l.take i) (o:=s) (at':=at') (by rw[HLL.out,HLN.out];exact hat) (by simp only[HLL.out,HXS.out];exact HA.out) (by simp only[HLL.out,HXS.out];exact HGT.out)
         rw[HSU.out,h,HLL.out,HXS.out,hA,hCC])
        have hatc:at'≤oc:=by omega
        clear hop hA hCC HA HA2 HGT
        go_wp2_with fail
        refine ParF.wp_region_f (l:=[_,_,_,_,_,_,_,_,_,_,_,_,_,_,_,_,_,_]) rfl [(1,3),(13,3)] (fun L σ w9=>Rg.Mx wc 18 [(0,49,4),(4,53,12),(11,60,12),(12,61,16),(16,65,17),(17,3,18)] (SgQ wc x A C) (fun _=>True) L σ w9∧L 18=false) (ParC.VC [(fun _=>True),ParC.EQ (Value.slice oo' N oc),ParC.EQ (Value.int IntKind.i64 (at':Int)),(fun v=>Vec uv wc v A),(fun _=>True),ParC.EQ (Value.slice (some a) n cap),ParC.EQ (Value.int IntKind.i64 (i:Int)),ParC.EQ (Value.pointer (some (a.add (i*10)))),ParC.EQ (Value.pointer (some ⟨(a.add (i*10)).block,(a.add (i*10)).off+7,none⟩)),ParC.EQ (Value.pointer (some ⟨(a.add (i*10)).block,(a.add (i*10)).off+7,none⟩)),ParC.EQ (uv x),(fun _=>True),(fun _=>True),ParC.EQ (Value.slice oo' N oc),ParC.EQ (Value.int IntKind.i64 (at':Int)),(fun v=>Vec uv wc v C),(fun _=>True),(fun _=>True)]) (by kernel_rfl) (by kernel_rfl) (⟨Rg.Mx.start SgQ.st,rfl⟩) ?_ ?_
        · refine⟨fun L ρ w' hR hC hL hd hk=> ?_,?_⟩
          · obtain⟨-⟩:=hk;refine Par.val_k fun K hK=> ?_;unfold Par.val
            (have hx:=hR.1.a hR.2;go_simp;exact hK _ _ ⟨⟨hR.1.grow hR.2 (by decide) (Ext.alloc _ _) ⟨w'.heap.size,rfl,heap_alloc_new w' _,hx.size⟩,by rw[Rg.updN (by decide)];exact hR.2⟩,trivial⟩)
          refine⟨fun L ρ w' hR hC hL hd hk=> ?_,?_⟩
          · exact Par.val_of_run rfl ⟨⟨hR.1.other (by decide),by rw[Rg.updN (by decide)];exact hR.2⟩,hk.1⟩
          refine⟨fun L ρ w' hR hC hL hd hk=> ?_,?_⟩
          · exact Par.val_of_run rfl ⟨⟨hR.1.other (by decide),by rw[Rg.updN (by decide)];exact hR.2⟩,hk.1⟩
          refine⟨fun L ρ w' hR hC hL hd hk=> ?_,?_⟩
          · obtain⟨(e0:ρ (.tmp 50)=Value.slice oo' N oc),(e1:ρ (.tmp 51)=Value.int IntKind.i64 (at':Int)),-⟩:=hk;refine Par.val_k fun K hK=> ?_;unfold Par.val
            (go_simp;exact hK _ _ ⟨⟨hR.1.other (by decide),by rw[Rg.updN (by decide)];exact hR.2⟩,HSA.out⟩)
          refine⟨fun L ρ w' hR hC hL hd hk=> ?_,?_⟩
          · obtain⟨(e0:(fun _=>True) (ρ (.tmp 49))),(e1:(fun v=>Vec uv wc v A) (ρ (.tmp 52))),-⟩:=hk;refine Par.val_k fun K hK=> ?_;unfold Par.val
            (have hx:=hR.1.a hR.2;obtain⟨g,eg,hg,hgl⟩:SgQ wc x A C 49 (ρ (.tmp 49)) w':=hR.1.get 0 49 4 (by decide) (hC.before 0 (i:=4) rfl hd (by kernel_rfl)) hL;obtain⟨a9,c9,w9,r1,r2,r3,r4⟩:=run_append_vec (P:=Tryd.prog) uv_one wc.heap.size 56 56 22 Tryd.underlying56 info64 rfl (l1:=[]) (emp_ownS hg hgl) (e1.ext hx) (by have:=HAL.out;have:=HCL.out;have:=HNc.out;simp;omega) (by have:=HAL.out;have:=HCL.out;have:=HNc.out;simp;omega) hx.size;rw[←eg] at r1;have hfr:=fr_grown r3 r4;exact Par.val_append r1 (hK _ _ ⟨⟨hR.1.app [] [12,16,17] [(11,60,12)] hR.2 (by simp) (by simp;exact⟨hC.notyet 12 4 hL (by kernel_rfl),hC.notyet 16 4 hL (by kernel_rfl),hC.notyet 17 4 hL (by kernel_rfl)⟩) (by decide) (by intro y hy;simp at hy;subst hy;rintro⟨g2,eg2,hg2⟩;refine⟨g2,eg2,fr_atS hfr hg2 (fun hm=> ?_)⟩;simp[oB,Value.ownBlock] at hm;subst hm;rw[hg] at hg2;cases hg2) (Below.trans hx r4) (by show OwV _ _ _ _ _ _;unfold OwV at r2⊢;simpa using r2),by rw[Rg.updN (by decide)];exact hR.2⟩,trivial⟩))
          refine⟨fun L ρ w' hR hC hL hd hk=> ?_,?_⟩
          · exact Par.val_of_run rfl ⟨⟨hR.1.other (by decide),by rw[Rg.updN (by decide)];exact hR.2⟩,hk.1⟩
          refine⟨fun L ρ w' hR hC hL hd hk=> ?_,?_⟩
          · exact Par.val_of_run rfl ⟨⟨hR.1.other (by decide),by rw[Rg.updN (by decide)];exact hR.2⟩,hk.1⟩
          refine⟨fun L ρ w' hR hC hL hd hk=> ?_,?_⟩
          · obtain⟨(e0:ρ (.tmp 54)=Value.slice (some a) n cap),(e1:ρ (.tmp 55)=Value.int IntKind.i64 (i:Int)),-⟩:=hk;refine Par.val_k fun K hK=> ?_;unfold Par.val
            (go_simp;exact hK _ _ ⟨⟨hR.1.other (by decide),by rw[Rg.updN (by decide)];exact hR.2⟩,rfl⟩)
          refine⟨fun L ρ w' hR hC hL hd hk=> ?_,?_⟩
          · obtain⟨(e0:ρ (.tmp 56)=Value.pointer (some (a.add (i*10)))),-⟩:=hk;refine Par.val_k fun K hK=> ?_;unfold Par.val
            (go_simp;exact hK _ _ ⟨⟨hR.1.other (by decide),by rw[Rg.updN (by decide)];exact hR.2⟩,rfl⟩)
          refine⟨fun L ρ w' hR hC hL hd hk=> ?_,?_⟩
          · obtain⟨(e0:ρ (.tmp 57)=Value.pointer (some ⟨(a.add (i*10)).block,(a.add (i*10)).off+7,none⟩)),-⟩:=hk;refine Par.val_k fun K hK=> ?_;unfold Par.val
            (go_simp;exact hK _ _ ⟨⟨hR.1.other (by decide),by rw[Rg.updN (by decide)];exact hR.2⟩,rfl⟩)
          refine⟨fun L ρ w' hR hC hL hd hk=> ?_,?_⟩
          · obtain⟨(e0:ρ (.tmp 58)=Value.pointer (some ⟨(a.add (i*10)).block,(a.add (i*10)).off+7,none⟩)),-⟩:=hk;refine Par.val_k fun K hK=> ?_;unfold Par.val
            (have hx:=hR.1.a hR.2;have c:=hx.cell K73.out;go_simp;exact hK _ _ ⟨⟨hR.1.other (by decide),by rw[Rg.updN (by decide)];exact hR.2⟩,rfl⟩)
          refine⟨fun L ρ w' hR hC hL hd hk=> ?_,?_⟩
          · obtain⟨(e0:ρ (.tmp 59)=uv x),-⟩:=hk;refine Par.val_k fun K hK=> ?_;unfold Par.val
            (have hx:=hR.1.a hR.2;go_simp;exact hK _ _ ⟨⟨hR.1.grow hR.2 (by decide) (Ext.alloc _ _) ⟨w'.heap.size,rfl,heap_alloc_new w' _⟩,by rw[Rg.updN (by decide)];exact hR.2⟩,trivial⟩)
          refine⟨fun L ρ w' hR hC hL hd hk=> ?_,?_⟩
          · obtain⟨(e0:(fun _=>True) (ρ (.tmp 53))),(e1:(fun _=>True) (ρ (.tmp 60))),-⟩:=hk;refine Par.val_k fun K hK=> ?_;unfold Par.val
            (have hx:=hR.1.a hR.2;have h51:SgQ wc x A C 53 (ρ (.tmp 53)) w':=hR.1.get 4 53 12 (by decide) (hC.before 4 (i:=12) rfl hd (by kernel_rfl)) hL;obtain⟨g,eg,hg⟩:SgQ wc x A C 60 (ρ (.tmp 60)) w':=hR.1.get 11 60 12 (by decide) (hC.before 11 (i:=12) rfl hd (by kernel_rfl)) hL;obtain⟨a9,c9,w9,r1,r2,r3,r4⟩:=run_append_vec (P:=Tryd.prog) uv_one wc.heap.size 56 56 22 Tryd.underlying56 info64 rfl h51 (v1_atS hg) (by have:=HAL.out;have:=HCL.out;have:=HNc.out;simp;omega) (by have:=HAL.out;have:=HCL.out;have:=HNc.out;simp;omega) hx.size;rw[←eg] at r1;have hfr:=fr_grown r3 r4;exact Par.val_append r1 (hK _ _ ⟨⟨hR.1.app [4] [16,17] [] hR.2 (by simp;exact hC.before 4 (i:=12) rfl hd (by kernel_rfl)) (by simp;exact⟨hC.notyet 16 12 hL (by kernel_rfl),hC.notyet 17 12 hL (by kernel_rfl)⟩) (by decide) (by simp) (Below.trans hx r4) (by show OwV _ _ _ _ _ _;unfold OwV at r2⊢;simpa using r2),by rw[Rg.updN (by decide)];exact hR.2⟩,trivial⟩))
          refine⟨fun L ρ w' hR hC hL hd hk=> ?_,?_⟩
          · exact Par.val_of_run rfl ⟨⟨hR.1.other (by decide),by rw[Rg.updN (by decide)];exact hR.2⟩,hk.1⟩
          refine⟨fun L ρ w' hR hC hL hd hk=> ?_,?_⟩
          · exact Par.val_of_run rfl ⟨⟨hR.1.other (by decide),by rw[Rg.updN (by decide)];exact hR.2⟩,hk.1⟩
          refine⟨fun L ρ w' hR hC hL hd hk=> ?_,?_⟩
          · obtain⟨(e0:ρ (.tmp 62)=Value.slice oo' N oc),(e1:ρ (.tmp 63)=Value.int IntKind.i64 (at':Int)),-⟩:=hk;refine Par.val_k fun K hK=> ?_;unfold Par.val
            (go_simp;exact hK _ _ ⟨⟨hR.1.other (by decide),by rw[Rg.updN (by decide)];exact hR.2⟩,HSC.out _ _ _ (by first|rfl|(rw[if_neg (by omega)];rfl)|simp) (by omega) (by omega)⟩)
          refine⟨fun L ρ w' hR hC hL hd hk=> ?_,?_⟩
          · obtain⟨(e0:(fun _=>True) (ρ (.tmp 61))),(e1:(fun v=>Vec uv wc v C) (ρ (.tmp 64))),-⟩:=hk;refine Par.val_k fun K hK=> ?_;unfold Par.val
            (have hx:=hR.1.a hR.2;have h54:SgQ wc x A C 61 (ρ (.tmp 61)) w':=hR.1.get 12 61 16 (by decide) (hC.before 12 (i:=16) rfl hd (by kernel_rfl)) hL;obtain⟨a9,c9,w9,r1,r2,r3,r4⟩:=run_append_vec (P:=Tryd.prog) uv_one wc.heap.size 56 56 22 Tryd.underlying56 info64 rfl h54 (e1.ext hx) (by have:=HAL.out;have:=HCL.out;have:=HNc.out;simp;omega) (by have:=HAL.out;have:=HCL.out;have:=HNc.out;simp;omega) hx.size;have hfr:=fr_grown r3 r4;exact Par.val_append r1 (hK _ _ ⟨⟨hR.1.app [4,12] [17] [] hR.2 (by simp;exact⟨hC.before 4 (i:=16) rfl hd (by kernel_rfl),hC.before 12 (i:=16) rfl hd (by kernel_rfl)⟩) (by simp;exact hC.notyet 17 16 hL (by kernel_rfl)) (by decide) (by simp) (Below.trans hx r4) (by show OwV _ _ _ _ _ _;unfold OwV at r2⊢;simpa[Nat.add_assoc] using r2),by rw[Rg.updN (by decide)];exact hR.2⟩,trivial⟩))
          refine⟨fun L ρ w' hR hC hL hd hk=> ?_,?_⟩
          · obtain⟨(e0:(fun _=>True) (ρ (.tmp 65))),-⟩:=hk;refine Par.val_k fun K hK=> ?_;unfold Par.val
            (have hx:=hR.1.a hR.2;have h58:SgQ wc x A C 65 (ρ (.tmp 65)) w':=hR.1.get 16 65 17 (by decide) (hC.before 16 (i:=17) rfl hd (by kernel_rfl)) hL;go_simp;exact hK _ _ ⟨⟨hR.1.grow hR.2 (by decide) (Ext.refl _) ⟨h58,hx⟩,by rw[Rg.updN (by decide)];exact hR.2⟩,trivial⟩)
          trivial
        intro a' w' inv hR
        have q49:(fun _=>True) (a'.tmps.getD 49 undef):=inv.done 0 _ 49 rfl rfl rfl
        have q50:a'.tmps.getD 50 undef=Value.slice oo' N oc:=inv.done 1 _ 50 rfl rfl rfl
        have q51:a'.tmps.getD 51 undef=Value.int IntKind.i64 (at':Int):=inv.done 2 _ 51 rfl rfl rfl
        have q52:(fun v=>Vec uv wc v A) (a'.tmps.getD 52 undef):=inv.done 3 _ 52 rfl rfl rfl
        have q53:(fun _=>True) (a'.tmps.getD 53 undef):=inv.done 4 _ 53 rfl rfl rfl
        have q54:a'.tmps.getD 54 undef=Value.slice (some a) n cap:=inv.done 5 _ 54 rfl rfl rfl
        have q55:a'.tmps.getD 55 undef=Value.int IntKind.i64 (i:Int):=inv.done 6 _ 55 rfl rfl rfl
        have q56:a'.tmps.getD 56 undef=Value.pointer (some (a.add (i*10))):=inv.done 7 _ 56 rfl rfl rfl
        have q57:a'.tmps.getD 57 undef=Value.pointer (some ⟨(a.add (i*10)).block,(a.add (i*10)).off+7,none⟩):=inv.done 8 _ 57 rfl rfl rfl
        have q58:a'.tmps.getD 58 undef=Value.pointer (some ⟨(a.add (i*10)).block,(a.add (i*10)).off+7,none⟩):=inv.done 9 _ 58 rfl rfl rfl
        have q59:a'.tmps.getD 59 undef=uv x:=inv.done 10 _ 59 rfl rfl rfl
        have q60:(fun _=>True) (a'.tmps.getD 60 undef):=inv.done 11 _ 60 rfl rfl rfl
        have q61:(fun _=>True) (a'.tmps.getD 61 undef):=inv.done 12 _ 61 rfl rfl rfl
        have q62:a'.tmps.getD 62 undef=Value.slice oo' N oc:=inv.done 13 _ 62 rfl rfl rfl
        have q63:a'.tmps.getD 63 undef=Value.int IntKind.i64 (at':Int):=inv.done 14 _ 63 rfl rfl rfl
        have q64:(fun v=>Vec uv wc v C) (a'.tmps.getD 64 undef):=inv.done 15 _ 64 rfl rfl rfl
        have q65:(fun _=>True) (a'.tmps.getD 65 undef):=inv.done 16 _ 65 rfl rfl rfl
        have q3:(fun _=>True) (a'.tmps.getD 3 undef):=inv.done 17 _ 3 rfl rfl rfl
        clear inv
        simp only[List.filterMap_cons,List.filterMap_nil,Par.putAll,Act.put,List.setIfInBounds_toArray,List.set_cons_succ,List.set_cons_zero,q50,q51,q54,q55,q56,q57,q58,q59,q62,q63]
        clear q50 q51 q54 q55 q56 q57 q58 q59 q62 q63
        have h5:SgQ wc x A C 3 (a'.tmps.getD 3 undef) w':=hR.1.b (17,3,18) (by decide) rfl hR.2;have H5:=hid h5;clear h5 hR
        generalize a'.tmps.getD 49 undef=u49 at*
        generalize a'.tmps.getD 52 undef=u52 at*
        generalize a'.tmps.getD 53 undef=u53 at*
        generalize a'.tmps.getD 60 undef=u60 at*
        generalize a'.tmps.getD 61 undef=u61 at*
        generalize a'.tmps.getD 64 undef=u64 at*
        generalize a'.tmps.getD 65 undef=u65 at*
        generalize a'.tmps.getD 3 undef=u3 at*
        try clear a'
        obtain⟨h51,h52⟩:=H5.out
        obtain⟨o6,c6,e6⟩:=h51.shape
        have hlen:(A++[x]++C).length=N+1:=by have:=HAL.out;have:=HCL.out;have:=HNc.out;simp;omega
        rw[hlen] at e6
        subst e6
        have HO6:=hid h51
        have HE6:=hid (HE3.out.trans h52)
        have HLEN:=hid hlen
        clear h51 h52 hlen H5
        go_wp2
        go_roundw
        case rel=>exact⟨i+1,N+1,o6,c6,by have:=HLT.out;omega,by omega,by first|rfl|go_num,rfl,hid (by rw[HNEW.out];exact HLEN.out),hid (by rw[HNEW.out];exact HO6.out.mono (by rw[←HB.out];exact HE3.out.size)),HE6⟩
        case measure=>have:=HLT.out;simp[intOf];omega
     · have HGE:=hid haN
       have HEQ:Hid (at'=N):=hid (by omega)
       clear haN
       go_wp2_with fail
       refine Par.wp_region_par (l:=[_,_,_,_,_,_,_,_,_,_,_,_,_,_,_,_,_]) rfl Ext (Par.VL [Par.EQ (Value.int IntKind.i64 (at':Int)),Par.EQ (Value.slice oo N oc),Par.EQ (Value.int IntKind.i64 (N:Int)),Par.EQ (Value.bool true),Par.EQ (Value.bool true),Par.EQ (undef),Par.EQ (undef),Par.EQ (undef),Par.EQ (undef),Par.EQ (undef),Par.EQ (undef),Par.EQ (undef),Par.EQ (undef),Par.EQ (undef),Par.EQ (undef),Par.EQ (undef),Par.EQ (Value.bool true)]) (by kernel_rfl) Ext.refl (fun _ _ _ h1 h2=>Ext.trans h1 h2) (Ext.draw _) (Par.VL_stab ?_) ?_ ?_
       · simp only[List.forall_mem_cons,List.not_mem_nil,false_implies,implies_true,and_true]
         refine⟨fun _ _ _ _ h=>h,fun _ _ _ _ h=>h,fun _ _ _ _ h=>h,fun _ _ _ _ h=>h,fun _ _ _ _ h=>h,fun _ _ _ _ h=>h,fun _ _ _ _ h=>h,fun _ _ _ _ h=>h,fun _ _ _ _ h=>h,fun _ _ _ _ h=>h,fun _ _ _ _ h=>h,fun _ _ _ _ h=>h,fun _ _ _ _ h=>h,fun _ _ _ _ h=>h,fun _ _ _ _ h=>h,fun _ _ _ _ h=>h,fun _ _ _ _ h=>h⟩
       · refine⟨⟨fun _ _=>trivial,fun ρ w' hX hG hk=> ?_⟩,?_⟩
         · exact Par.val_of_run rfl ⟨Ext.refl _,hk.1⟩
         refine⟨⟨fun _ _=>trivial,fun ρ w' hX hG hk=> ?_⟩,?_⟩
         · exact Par.val_of_run rfl ⟨Ext.refl _,hk.1⟩
         refine⟨⟨fun _ _=>trivial,fun ρ w' hX hG hk=> ?_⟩,?_⟩
         · obtain⟨(e0:ρ (.tmp 33)=Value.slice oo N oc),-⟩:=hk;refine Par.val_k fun K hK=> ?_;unfold Par.val
           (go_simp;exact hK _ _ ⟨Ext.refl _,rfl⟩)
         refine⟨⟨fun _ _=>trivial,fun ρ w' hX hG hk=> ?_⟩,?_⟩
         · obtain⟨(e0:ρ (.tmp 32)=Value.int IntKind.i64 (at':Int)),(e1:ρ (.tmp 34)=Value.int IntKind.i64 (N:Int)),-⟩:=hk;refine Par.val_k fun K hK=> ?_;unfold Par.val
           (have hd9:((at':Int)==(N:Int))=true:=(by have:=HEQ.out;simp;omega);go_simp;exact hK _ _ ⟨Ext.refl _,rfl⟩)
         refine⟨⟨fun _ _=>trivial,fun ρ w' hX hG hk=> ?_⟩,?_⟩
         · obtain⟨(e0:ρ (.tmp 35)=Value.bool true),-⟩:=hk;refine Par.val_k fun K hK=> ?_;unfold Par.val
           (go_simp;exact hK _ _ ⟨Ext.refl _,rfl⟩)
         refine⟨⟨fun _ _ u hu=> .inr rfl,fun ρ w' hX hG hk=> ?_⟩,?_⟩
         · cases hG
         refine⟨⟨fun _ _ u hu=> .inr rfl,fun ρ w' hX hG hk=> ?_⟩,?_⟩
         · cases hG
         refine⟨⟨fun _ _ u hu=> .inr rfl,fun ρ w' hX hG hk=> ?_⟩,?_⟩
         · cases hG
         refine⟨⟨fun _ _ u hu=> .inr rfl,fun ρ w' hX hG hk=> ?_⟩,?_⟩
         · cases hG
         refine⟨⟨fun _ _ u hu=> .inr rfl,fun ρ w' hX hG hk=> ?_⟩,?_⟩
         · cases hG
         refine⟨⟨fun _ _ u hu=> .inr rfl,fun ρ w' hX hG hk=> ?_⟩,?_⟩
         · cases hG
         refine⟨⟨fun _ _ u hu=> .inr rfl,fun ρ w' hX hG hk=> ?_⟩,?_⟩
         · cases hG
         refine⟨⟨fun _ _ u hu=> .inr rfl,fun ρ w' hX hG hk=> ?_⟩,?_⟩
         · cases hG
         refine⟨⟨fun _ _ u hu=> .inr rfl,fun ρ w' hX hG hk=> ?_⟩,?_⟩
         · cases hG
         refine⟨⟨fun _ _ u hu=> .inr rfl,fun ρ w' hX hG hk=> ?_⟩,?_⟩
         · cases hG
         refine⟨⟨fun _ _ u hu=> .inr rfl,fun ρ w' hX hG hk=> ?_⟩,?_⟩
         · cases hG
         refine⟨⟨fun _ _=>trivial,fun ρ w' hX hG hk=> ?_⟩,?_⟩
         · obtain⟨(e0:ρ (.tmp 36)=Value.bool true),(e1:ρ (Operand.const (Value.bool true))=(Value.bool true)),(e2:ρ (.tmp 47)=undef),-⟩:=hk;refine Par.val_k fun K hK=> ?_;unfold Par.val
           (go_simp;exact hK _ _ ⟨Ext.refl _,rfl⟩)
         trivial
       intro a' w' inv
       have hX:=inv.ext
       have q32:a'.tmps.getD 32 undef=Value.int IntKind.i64 (at':Int):=inv.done 0 _ 32 rfl rfl rfl
       have q33:a'.tmps.getD 33 undef=Value.slice oo N oc:=inv.done 1 _ 33 rfl rfl rfl
       have q34:a'.tmps.getD 34 undef=Value.int IntKind.i64 (N:Int):=inv.done 2 _ 34 rfl rfl rfl
       have q35:a'.tmps.getD 35 undef=Value.bool true:=inv.done 3 _ 35 rfl rfl rfl
       have q36:a'.tmps.getD 36 undef=Value.bool true:=inv.done 4 _ 36 rfl rfl rfl
       have q37:a'.tmps.getD 37 undef=undef:=inv.done 5 _ 37 rfl rfl rfl
       have q38:a'.tmps.getD 38 undef=undef:=inv.done 6 _ 38 rfl rfl rfl
       have q39:a'.tmps.getD 39 undef=undef:=inv.done 7 _ 39 rfl rfl rfl
       have q40:a'.tmps.getD 40 undef=undef:=inv.done 8 _ 40 rfl rfl rfl
       have q41:a'.tmps.getD 41 undef=undef:=inv.done 9 _ 41 rfl rfl rfl
       have q42:a'.tmps.getD 42 undef=undef:=inv.done 10 _ 42 rfl rfl rfl
       have q43:a'.tmps.getD 43 undef=undef:=inv.done 11 _ 43 rfl rfl rfl
       have q44:a'.tmps.getD 44 undef=undef:=inv.done 12 _ 44 rfl rfl rfl
       have q45:a'.tmps.getD 45 undef=undef:=inv.done 13 _ 45 rfl rfl rfl
       have q46:a'.tmps.getD 46 undef=undef:=inv.done 14 _ 46 rfl rfl rfl
       have q47:a'.tmps.getD 47 undef=undef:=inv.done 15 _ 47 rfl rfl rfl
       have q48:a'.tmps.getD 48 undef=Value.bool true:=inv.done 16 _ 48 rfl rfl rfl
       clear inv
       simp only[List.filterMap_cons,List.filterMap_nil,Par.putAll,Act.put,List.setIfInBounds_toArray,List.set_cons_succ,List.set_cons_zero,q32,q33,q34,q35,q36,q37,q38,q39,q40,q41,q42,q43,q44,q45,q46,q47,q48]
       clear q32 q33 q34 q35 q36 q37 q38 q39 q40 q41 q42 q43 q44 q45 q46 q47 q48
       clear a'
       have HO3:=hid (HO2.out.ext hX)
       have HE3:=hid (HE2.out.trans hX)
       have K73:=hid (hX.cell K72.out)
       clear hX HO2 HE2 K72
       generalize w'=wc at*
       have HGT:Hid (∀h:at'<L.length,x<L[at']):=hid (fun h=>absurd h (by have:=HLN.out;have:=HGE.out;omega))
       obtain⟨oo',hoo⟩:∃o,oo=o:=⟨_,rfl⟩
       rw[hoo] at HO3
       try rw[hoo]
       clear hoo HGE HEQ
       have hop:=HO3.out.vec.opens
       have hoc:N≤oc∧oc≤9223372036854775807:=⟨hop.2.1,hop.2.2.1⟩
       obtain⟨A,hA⟩:∃A,L.take at'=A:=⟨_,rfl⟩
       obtain⟨C,hCC⟩:∃C,L.drop at'=C:=⟨_,rfl⟩
       have HSA:Hid (Vec uv wc (.slice oo' at' oc) A):=hid (by rw[←hA];exact vecU_take HO3.out.vec HLN.out at' hat)
       have HSC:Hid (∀(ao':Option Addr) (kk c:Nat),(ao'=if oc=at' then oo' else oo'.map (·.add at'))→kk=N - at'→c=oc - at'→Vec uv wc (.slice ao' kk c) C):=hid (fun ao' kk c e1 e2 e3=>by rw[←hCC];exact vecU_drop HO3.out.vec HLN.out at' hat ao' e1 kk c e2 e3)
       have HAL:Hid (A.length=at'):=hid (by rw[←hA,List.length_take,HLN.out];omega)
       have HCL:Hid (C.length=N - at'):=hid (by rw[←hCC,List.length_drop,HLN.out])
       have HNc:Hid (at'≤N∧N≤1000):=hid ⟨hat,HNb.out⟩
       have HNEW:Hid (segsOf (l.take (i+1))=A++[x]++C):=hid (by
        have h:=segs_new (l:=l.take i) (o:=s) (at':=at') (by rw[HLL.out,HLN.out];exact hat) (by simp only[HLL.out,HXS.out];exact HA.out) (by simp only[HLL.out,HXS.out];exact HGT.out)
        rw[HSU.out,h,HLL.out,HXS.out,hA,hCC])
       have hatc:at'≤oc:=by omega
       clear hop hA hCC HA HA2 HGT
       go_wp2_with fail
       refine ParF.wp_region_f (l:=[_,_,_,_,_,_,_,_,_,_,_,_,_,_,_,_,_,_]) rfl [(1,3),(13,3)] (fun L σ w9=>Rg.Mx wc 18 [(0,49,4),(4,53,12),(11,60,12),(12,61,16),(16,65,17),(17,3,18)] (SgQ wc x A C) (fun _=>True) L σ w9∧L 18=false) (ParC.VC [(fun _=>True),ParC.EQ (Value.slice oo' N oc),ParC.EQ (Value.int IntKind.i64 (at':Int)),(fun v=>Vec uv wc v A),(fun _=>True),ParC.EQ (Value.slice (some a) n cap),ParC.EQ (Value.int IntKind.i64 (i:Int)),ParC.EQ (Value.pointer (some (a.add (i*10)))),ParC.EQ (Value.pointer (some ⟨(a.add (i*10)).block,(a.add (i*10)).off+7,none⟩)),ParC.EQ (Value.pointer (some ⟨(a.add (i*10)).block,(a.add (i*10)).off+7,none⟩)),ParC.EQ (uv x),(fun _=>True),(fun _=>True),ParC.EQ (Value.slice oo' N oc),ParC.EQ (Value.int IntKind.i64 (at':Int)),(fun v=>Vec uv wc v C),(fun _=>True),(fun _=>True)]) (by kernel_rfl) (by kernel_rfl) (⟨Rg.Mx.start SgQ.st,rfl⟩) ?_ ?_
       · refine⟨fun L ρ w' hR hC hL hd hk=> ?_,?_⟩
         · obtain⟨-⟩:=hk;refine Par.val_k fun K hK=> ?_;unfold Par.val
           (have hx:=hR.1.a hR.2;go_simp;exact hK _ _ ⟨⟨hR.1.grow hR.2 (by decide) (Ext.alloc _ _) ⟨w'.heap.size,rfl,heap_alloc_new w' _,hx.size⟩,by rw[Rg.updN (by decide)];exact hR.2⟩,trivial⟩)
         refine⟨fun L ρ w' hR hC hL hd hk=> ?_,?_⟩
         · exact Par.val_of_run rfl ⟨⟨hR.1.other (by decide),by rw[Rg.updN (by decide)];exact hR.2⟩,hk.1⟩
         refine⟨fun L ρ w' hR hC hL hd hk=> ?_,?_⟩
         · exact Par.val_of_run rfl ⟨⟨hR.1.other (by decide),by rw[Rg.updN (by decide)];exact hR.2⟩,hk.1⟩
         refine⟨fun L ρ w' hR hC hL hd hk=> ?_,?_⟩
         · obtain⟨(e0:ρ (.tmp 50)=Value.slice oo' N oc),(e1:ρ (.tmp 51)=Value.int IntKind.i64 (at':Int)),-⟩:=hk;refine Par.val_k fun K hK=> ?_;unfold Par.val
           (go_simp;exact hK _ _ ⟨⟨hR.1.other (by decide),by rw[Rg.updN (by decide)];exact hR.2⟩,HSA.out⟩)
         refine⟨fun L ρ w' hR hC hL hd hk=> ?_,?_⟩
         · obtain⟨(e0:(fun _=>True) (ρ (.tmp 49))),(e1:(fun v=>Vec uv wc v A) (ρ (.tmp 52))),-⟩:=hk;refine Par.val_k fun K hK=> ?_;unfold Par.val
           (have hx:=hR.1.a hR.2;obtain⟨g,eg,hg,hgl⟩:SgQ wc x A C 49 (ρ (.tmp 49)) w':=hR.1.get 0 49 4 (by decide) (hC.before 0 (i:=4) rfl hd (by kernel_rfl)) hL;obtain⟨a9,c9,w9,r1,r2,r3,r4⟩:=run_append_vec (P:=Tryd.prog) uv_one wc.heap.size 56 56 22 Tryd.underlying56 info64 rfl (l1:=[]) (emp_ownS hg hgl) (e1.ext hx) (by have:=HAL.out;have:=HCL.out;have:=HNc.out;simp;omega) (by have:=HAL.out;have:=HCL.out;have:=HNc.out;simp;omega) hx.size;rw[←eg] at r1;have hfr:=fr_grown r3 r4;exact Par.val_append r1 (hK _ _ ⟨⟨hR.1.app [] [12,16,17] [(11,60,12)] hR.2 (by simp) (by simp;exact⟨hC.notyet 12 4 hL (by kernel_rfl),hC.notyet 16 4 hL (by kernel_rfl),hC.notyet 17 4 hL (by kernel_rfl)⟩) (by decide) (by intro y hy;simp at hy;subst hy;rintro⟨g2,eg2,hg2⟩;refine⟨g2,eg2,fr_atS hfr hg2 (fun hm=> ?_)⟩;simp[oB,Value.ownBlock] at hm;subst hm;rw[hg] at hg2;cases hg2) (Below.trans hx r4) (by show OwV _ _ _ _ _ _;unfold OwV at r2⊢;simpa using r2),by rw[Rg.updN (by decide)];exact hR.2⟩,trivial⟩))
         refine⟨fun L ρ w' hR hC hL hd hk=> ?_,?_⟩
         · exact Par.val_of_run rfl ⟨⟨hR.1.other (by decide),by rw[Rg.updN (by decide)];exact hR.2⟩,hk.1⟩
         refine⟨fun L ρ w' hR hC hL hd hk=> ?_,?_⟩
         · exact Par.val_of_run rfl ⟨⟨hR.1.other (by decide),by rw[Rg.updN (by decide)];exact hR.2⟩,hk.1⟩
         refine⟨fun L ρ w' hR hC hL hd hk=> ?_,?_⟩
         · obtain⟨(e0:ρ (.tmp 54)=Value.slice (some a) n cap),(e1:ρ (.tmp 55)=Value.int IntKind.i64 (i:Int)),-⟩:=hk;refine Par.val_k fun K hK=> ?_;unfold Par.val
           (go_simp;exact hK _ _ ⟨⟨hR.1.other (by decide),by rw[Rg.updN (by decide)];exact hR.2⟩,rfl⟩)
         refine⟨fun L ρ w' hR hC hL hd hk=> ?_,?_⟩
         · obtain⟨(e0:ρ (.tmp 56)=Value.pointer (some (a.add (i*10)))),-⟩:=hk;refine Par.val_k fun K hK=> ?_;unfold Par.val
           (go_simp;exact hK _ _ ⟨⟨hR.1.other (by decide),by rw[Rg.updN (by decide)];exact hR.2⟩,rfl⟩)
         refine⟨fun L ρ w' hR hC hL hd hk=> ?_,?_⟩
         · obtain⟨(e0:ρ (.tmp 57)=Value.pointer (some ⟨(a.add (i*10)).block,(a.add (i*10)).off+7,none⟩)),-⟩:=hk;refine Par.val_k fun K hK=> ?_;unfold Par.val
           (go_simp;exact hK _ _ ⟨⟨hR.1.other (by decide),by rw[Rg.updN (by decide)];exact hR.2⟩,rfl⟩)
         refine⟨fun L ρ w' hR hC hL hd hk=> ?_,?_⟩
         · obtain⟨(e0:ρ (.tmp 58)=Value.pointer (some ⟨(a.add (i*10)).block,(a.add (i*10)).off+7,none⟩)),-⟩:=hk;refine Par.val_k fun K hK=> ?_;unfold Par.val
           (have hx:=hR.1.a hR.2;have c:=hx.cell K73.out;go_simp;exact hK _ _ ⟨⟨hR.1.other (by decide),by rw[Rg.updN (by decide)];exact hR.2⟩,rfl⟩)
         refine⟨fun L ρ w' hR hC hL hd hk=> ?_,?_⟩
         · obtain⟨(e0:ρ (.tmp 59)=uv x),-⟩:=hk;refine Par.val_k fun K hK=> ?_;unfold Par.val
           (have hx:=hR.1.a hR.2;go_simp;exact hK _ _ ⟨⟨hR.1.grow hR.2 (by decide) (Ext.alloc _ _) ⟨w'.heap.size,rfl,heap_alloc_new w' _⟩,by rw[Rg.updN (by decide)];exact hR.2⟩,trivial⟩)
         refine⟨fun L ρ w' hR hC hL hd hk=> ?_,?_⟩
         · obtain⟨(e0:(fun _=>True) (ρ (.tmp 53))),(e1:(fun _=>True) (ρ (.tmp 60))),-⟩:=hk;refine Par.val_k fun K hK=> ?_;unfold Par.val
           (have hx:=hR.1.a hR.2;have h51:SgQ wc x A C 53 (ρ (.tmp 53)) w':=hR.1.get 4 53 12 (by decide) (hC.before 4 (i:=12) rfl hd (by kernel_rfl)) hL;obtain⟨g,eg,hg⟩:SgQ wc x A C 60 (ρ (.tmp 60)) w':=hR.1.get 11 60 12 (by decide) (hC.before 11 (i:=12) rfl hd (by kernel_rfl)) hL;obtain⟨a9,c9,w9,r1,r2,r3,r4⟩:=run_append_vec (P:=Tryd.prog) uv_one wc.heap.size 56 56 22 Tryd.underlying56 info64 rfl h51 (v1_atS hg) (by have:=HAL.out;have:=HCL.out;have:=HNc.out;simp;omega) (by have:=HAL.out;have:=HCL.out;have:=HNc.out;simp;omega) hx.size;rw[←eg] at r1;have hfr:=fr_grown r3 r4;exact Par.val_append r1 (hK _ _ ⟨⟨hR.1.app [4] [16,17] [] hR.2 (by simp;exact hC.before 4 (i:=12) rfl hd (by kernel_rfl)) (by simp;exact⟨hC.notyet 16 12 hL (by kernel_rfl),hC.notyet 17 12 hL (by kernel_rfl)⟩) (by decide) (by simp) (Below.trans hx r4) (by show OwV _ _ _ _ _ _;unfold OwV at r2⊢;simpa using r2),by rw[Rg.updN (by decide)];exact hR.2⟩,trivial⟩))
         refine⟨fun L ρ w' hR hC hL hd hk=> ?_,?_⟩
         · exact Par.val_of_run rfl ⟨⟨hR.1.other (by decide),by rw[Rg.updN (by decide)];exact hR.2⟩,hk.1⟩
         refine⟨fun L ρ w' hR hC hL hd hk=> ?_,?_⟩
         · exact Par.val_of_run rfl ⟨⟨hR.1.other (by decide),by rw[Rg.updN (by decide)];exact hR.2⟩,hk.1⟩
         refine⟨fun L ρ w' hR hC hL hd hk=> ?_,?_⟩
         · obtain⟨(e0:ρ (.tmp 62)=Value.slice oo' N oc),(e1:ρ (.tmp 63)=Value.int IntKind.i64 (at':Int)),-⟩:=hk;refine Par.val_k fun K hK=> ?_;unfold Par.val
           (go_simp;exact hK _ _ ⟨⟨hR.1.other (by decide),by rw[Rg.updN (by decide)];exact hR.2⟩,HSC.out _ _ _ (by first|rfl|(rw[if_neg (by omega)];rfl)|simp) (by omega) (by omega)⟩)
         refine⟨fun L ρ w' hR hC hL hd hk=> ?_,?_⟩
         · obtain⟨(e0:(fun _=>True) (ρ (.tmp 61))),(e1:(fun v=>Vec uv wc v C) (ρ (.tmp 64))),-⟩:=hk;refine Par.val_k fun K hK=> ?_;unfold Par.val
           (have hx:=hR.1.a hR.2;have h54:SgQ wc x A C 61 (ρ (.tmp 61)) w':=hR.1.get 12 61 16 (by decide) (hC.before 12 (i:=16) rfl hd (by kernel_rfl)) hL;obtain⟨a9,c9,w9,r1,r2,r3,r4⟩:=run_append_vec (P:=Tryd.prog) uv_one wc.heap.size 56 56 22 Tryd.underlying56 info64 rfl h54 (e1.ext hx) (by have:=HAL.out;have:=HCL.out;have:=HNc.out;simp;omega) (by have:=HAL.out;have:=HCL.out;have:=HNc.out;simp;omega) hx.size;have hfr:=fr_grown r3 r4;exact Par.val_append r1 (hK _ _ ⟨⟨hR.1.app [4,12] [17] [] hR.2 (by simp;exact⟨hC.before 4 (i:=16) rfl hd (by kernel_rfl),hC.before 12 (i:=16) rfl hd (by kernel_rfl)⟩) (by simp;exact hC.notyet 17 16 hL (by kernel_rfl)) (by decide) (by simp) (Below.trans hx r4) (by show OwV _ _ _ _ _ _;unfold OwV at r2⊢;simpa[Nat.add_assoc] using r2),by rw[Rg.updN (by decide)];exact hR.2⟩,trivial⟩))
         refine⟨fun L ρ w' hR hC hL hd hk=> ?_,?_⟩
         · obtain⟨(e0:(fun _=>True) (ρ (.tmp 65))),-⟩:=hk;refine Par.val_k fun K hK=> ?_;unfold Par.val
           (have hx:=hR.1.a hR.2;have h58:SgQ wc x A C 65 (ρ (.tmp 65)) w':=hR.1.get 16 65 17 (by decide) (hC.before 16 (i:=17) rfl hd (by kernel_rfl)) hL;go_simp;exact hK _ _ ⟨⟨hR.1.grow hR.2 (by decide) (Ext.refl _) ⟨h58,hx⟩,by rw[Rg.updN (by decide)];exact hR.2⟩,trivial⟩)
         trivial
       intro a' w' inv hR
       have q49:(fun _=>True) (a'.tmps.getD 49 undef):=inv.done 0 _ 49 rfl rfl rfl
       have q50:a'.tmps.getD 50 undef=Value.slice oo' N oc:=inv.done 1 _ 50 rfl rfl rfl
       have q51:a'.tmps.getD 51 undef=Value.int IntKind.i64 (at':Int):=inv.done 2 _ 51 rfl rfl rfl
       have q52:(fun v=>Vec uv wc v A) (a'.tmps.getD 52 undef):=inv.done 3 _ 52 rfl rfl rfl
       have q53:(fun _=>True) (a'.tmps.getD 53 undef):=inv.done 4 _ 53 rfl rfl rfl
       have q54:a'.tmps.getD 54 undef=Value.slice (some a) n cap:=inv.done 5 _ 54 rfl rfl rfl
       have q55:a'.tmps.getD 55 undef=Value.int IntKind.i64 (i:Int):=inv.done 6 _ 55 rfl rfl rfl
       have q56:a'.tmps.getD 56 undef=Value.pointer (some (a.add (i*10))):=inv.done 7 _ 56 rfl rfl rfl
       have q57:a'.tmps.getD 57 undef=Value.pointer (some ⟨(a.add (i*10)).block,(a.add (i*10)).off+7,none⟩):=inv.done 8 _ 57 rfl rfl rfl
       have q58:a'.tmps.getD 58 undef=Value.pointer (some ⟨(a.add (i*10)).block,(a.add (i*10)).off+7,none⟩):=inv.done 9 _ 58 rfl rfl rfl
       have q59:a'.tmps.getD 59 undef=uv x:=inv.done 10 _ 59 rfl rfl rfl
       have q60:(fun _=>True) (a'.tmps.getD 60 undef):=inv.done 11 _ 60 rfl rfl rfl
       have q61:(fun _=>True) (a'.tmps.getD 61 undef):=inv.done 12 _ 61 rfl rfl rfl
       have q62:a'.tmps.getD 62 undef=Value.slice oo' N oc:=inv.done 13 _ 62 rfl rfl rfl
       have q63:a'.tmps.getD 63 undef=Value.int IntKind.i64 (at':Int):=inv.done 14 _ 63 rfl rfl rfl
       have q64:(fun v=>Vec uv wc v C) (a'.tmps.getD 64 undef):=inv.done 15 _ 64 rfl rfl rfl
       have q65:(fun _=>True) (a'.tmps.getD 65 undef):=inv.done 16 _ 65 rfl rfl rfl
       have q3:(fun _=>True) (a'.tmps.getD 3 undef):=inv.done 17 _ 3 rfl rfl rfl
       clear inv
       simp only[List.filterMap_cons,List.filterMap_nil,Par.putAll,Act.put,List.setIfInBounds_toArray,List.set_cons_succ,List.set_cons_zero,q50,q51,q54,q55,q56,q57,q58,q59,q62,q63]
       clear q50 q51 q54 q55 q56 q57 q58 q59 q62 q63
       have h5:SgQ wc x A C 3 (a'.tmps.getD 3 undef) w':=hR.1.b (17,3,18) (by decide) rfl hR.2;have H5:=hid h5;clear h5 hR
       generalize a'.tmps.getD 49 undef=u49 at*
       generalize a'.tmps.getD 52 undef=u52 at*
       generalize a'.tmps.getD 53 undef=u53 at*
       generalize a'.tmps.getD 60 undef=u60 at*
       generalize a'.tmps.getD 61 undef=u61 at*
       generalize a'.tmps.getD 64 undef=u64 at*
       generalize a'.tmps.getD 65 undef=u65 at*
       generalize a'.tmps.getD 3 undef=u3 at*
       try clear a'
       obtain⟨h51,h52⟩:=H5.out
       obtain⟨o6,c6,e6⟩:=h51.shape
       have hlen:(A++[x]++C).length=N+1:=by have:=HAL.out;have:=HCL.out;have:=HNc.out;simp;omega
       rw[hlen] at e6
       subst e6
       have HO6:=hid h51
       have HE6:=hid (HE3.out.trans h52)
       have HLEN:=hid hlen
       clear h51 h52 hlen H5
       go_wp2
       go_roundw
       case rel=>exact⟨i+1,N+1,o6,c6,by have:=HLT.out;omega,by omega,by first|rfl|go_num,rfl,hid (by rw[HNEW.out];exact HLEN.out),hid (by rw[HNEW.out];exact HO6.out.mono (by rw[←HB.out];exact HE3.out.size)),HE6⟩
       case measure=>have:=HLT.out;simp[intOf];omega
  · have hif:decide ((i:Int)<(n:Int))=false:=by simp;omega
    have hif2:(i<n)=False:=by simp;omega
    have HIL:Hid (l.take i=l):=hid (List.take_of_length_le (by rw[HN.out];omega))
    rw[HIL.out] at HO
    go_wp2
    go_returns
    exact⟨⟨_,rfl,HO.out.vec⟩,HE.out⟩
end Go.Proofs.YtpbmbjdiilnaeaaDoor

