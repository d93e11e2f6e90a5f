/- Texts of a claim, side by side. -/
import Derived.Below
import Derived.ChangeSame
import Derived.ReadAgain
import Derived.RowKit
import Derived.OpenShut
import Derived.WalkKit
import Derived.Laws.AppendOwnNone
import Derived.Laws.CopyOwn
import Derived.Deep.Draws
import Derived.Test.YtcfgafododiioaaGreatDoorRows
import Derived.Maps.OwnSet
import Derived.Maps.Views
import Derived.Lib.SmallJoins
import Derived.Deep.Slices
import Derived.Deep.Fields
set_option linter.unusedSimpArgs false
set_option linter.unusedVariables false
namespace Go.Tum
open Go Go.RowKit Go.WideShapes Go.ChangeShapes
theorem sameAt_of_below {w w':World} (h:Below w.heap.size w w') (p:MemPlace) (hp:p.block<w.heap.size):w.sameAt w' p:=by
 have:=h.block p.block hp
 cases p<;>simp only[World.sameAt,MemPlace.block] at* <;>(try simp[World.cell?,this])<;>(try rw[this])
theorem trodAll_carry {H:Type} {enc:TypeId×Value→H} {P:Program} {w w':World} {base:Nat} {spare:Nat→Bool} {held:Bool} (hb:Below w.heap.size w w'):
 ∀{ts:List TypeId} {vs:List Value} {ds:List (DataW H)} {ps:List MemPlace},DataW.TrodAll enc P w base spare held ts vs ds ps→DataW.TrodAll enc P w' base spare held ts vs ds ps
 |[],[],[],_,h=>h
 |_::_,_::_,_::_,_,⟨p,q,⟨n,h1⟩,h2,e⟩=>
  ⟨p,q,⟨n,DataW.trod_carry n _ _ _ h1 (fun x hx=>sameAt_of_below hb x (DataW.trod_lt n _ _ _ h1 x hx))⟩,trodAll_carry hb h2,e⟩
theorem law_post {H:Type} {enc:TypeId×Value→H} {P:Program} {f:Func} {s:ChangeSpec} {x y z again:Bool} {W W':World} {args:Array Value} {ds gs:List (DataW H)} {before:List MemPlace}
 (hl:laidOutB P=true) (hm:mapsRowed P=true) (hs:((List.range P.types.size).all fun t=>match P.underlying t with|some (.slice e)=>decide (0<P.cellsOf e)|_=>true)=true)
 (hps:∀t∈f.params.toList,t<P.types.size) {tb:TypeId} (hr:f.resultTypes= #[tb]) (hb:P.underlying tb=some .bool)
 (hW:DataW.Whole enc P f.params.toList s.vars x W args.toList ds gs before) (hv:s.vars=[])
 (hsp:s.fn H (ds++gs)={results:=[.lit (.bool true)],args:=ds}) (hbel:Below W.heap.size W W'):
 s.post enc P f x y z again W args (.bool true) W':=by
 have hlt:∀p∈before,p.block<W.heap.size:=fun p hp=>hW.lt p hp
 obtain⟨p,q,hA,hV,hpq,hz,hn⟩:=id hW
 rw[hv] at hV
 obtain⟨rfl,rfl⟩:=trodVars_none hV
 have hp':before=p:=by simpa using hpq
 subst hp'
 have hA':∀sp:Nat→Bool,(∀p∈before,sp p.block=true)→DataW.TrodAll enc P W' 0 sp true f.params.toList args.toList ds before:=fun sp h=>
  (trodAll_carry hbel hA).respare (kids_rows hl hm) (slices_full_of P hs) hps h
 have hres:∀(b:Nat) (sp:Nat→Bool) (hd:Bool),DataW.TrodAll enc P W' b sp hd f.resultTypes.toList ((Value.bool true).resultList f.resultTypes.size) [.lit (.bool true)] []:=by
  intro b sp hd
  rw[hr]
  exact trodAll_cons_mk (shut_bool hb _) trodAll_mk0
 have hold:∀p∈before,(fun b=>decide (b<W.heap.size)) p.block=true:=fun p hp=>by simpa using hlt p hp
 have hvars:∀sp:Nat→Bool,DataW.TrodVars enc P W' sp s.vars [] []:=by intro sp;rw[hv];rfl
 refine⟨ds,[],before,[],before,[],hW,by rw[hsp];exact hres _ _ _,by rw[hsp];exact hA' _ hold,by rw[hsp];exact hvars _,World.keptBut_mono (fun p hp=>⟨hp,Or.inr (by simpa using hp)⟩) (hbel.frame (· ∈before)),fun _=> ?_⟩
 refine⟨ok_one hr rfl (okWide_bool_mk hb _),_,_,([]++before)++[],⟨[]++before,[],trodAll_append (hA' _ (fun _ _=>rfl)) (hres _ _ _),hvars _,rfl,?_,?_⟩,?_⟩
 · intro b off hp
   have hin:MemPlace.cell b off∈before:=by simpa using hp
   rw[hbel.frozen (hlt _ hin)]
   exact hz b off hin
 · intro ha
   simpa using hn ha
 · intro p hp _
   simpa using hp
end Go.Tum
namespace Go.Tum
open Go.RowKit
theorem hid {p:Prop} (h:p):Hid p:=h
abbrev Ext (w w':World):Prop:=Below w.heap.size w w'
theorem Ext.refl (w:World):Ext w w:=Below.refl _ w
theorem Ext.trans {a b c:World} (h:Ext a b) (k:Ext b c):Ext a c:=Below.trans h (k.mono h.size)
theorem Ext.draw (w:World):Ext w {w with drawn:=w.drawn+1}:=⟨rfl,rfl,rfl,Nat.le_refl _,fun _ _=>rfl⟩
theorem Ext.drew (w:World):Ext w w.drew:=⟨rfl,rfl,rfl,Nat.le_refl _,fun _ _=>rfl⟩
theorem Ext.drewN (w:World) (n:Nat):Ext w (w.drewN n):=⟨rfl,rfl,rfl,Nat.le_refl _,fun _ _=>rfl⟩
theorem Ext.alloc (w:World) (o:Obj):Ext w (w.alloc o):=(Below.refl _ w).alloc (Nat.le_refl _) o
theorem Ext.cell {w w':World} (h:Ext w w') {a:Addr} {v:Value} (hc:w.cell? a=some v):w'.cell? a=some v:=
 (Below.cell h (World.block_lt_of_cell? w a hc)).trans hc
theorem Ext.obj {w w':World} (h:Ext w w') {b:Nat} {o:Obj} (hc:w.heap[b]? =some o):w'.heap[b]? =some o:=
 (h.block b (Array.getElem?_eq_some_iff.1 hc).1).trans hc
theorem Ext.grown {w w':World} {row:Option Nat} (hg:w.grownBy w' row) (hr:row=none):Ext w w':=by
 subst hr;exact⟨hg.os,hg.tape,hg.output,hg.size,fun k hk=>hg.block k hk (by simp)⟩
theorem Ext.owns {w w':World} (h:Ext w w') {b e sz:Nat} {v:Value} {n:Nat} {xs:List Value} (hc:w.ownsRow b e sz v n xs):w'.ownsRow b e sz v n xs:=by
 refine⟨hc.1,?_⟩
 rcases hc.2 with hn|⟨g,cap,cur,rfl,hb,hgg,rest⟩
 · exact .inl hn
 · exact .inr ⟨g,cap,cur,rfl,hb,h.obj hgg,rest⟩
theorem Below.ext {B:Nat} {a b c:World} (h:Below B a b) (hB:B≤b.heap.size) (k:Ext b c):Below B a c:=Below.trans h (k.mono hB)
theorem owns_mono {w:World} {b b' e sz:Nat} {v:Value} {n:Nat} {xs:List Value} (h:w.ownsRow b e sz v n xs) (hb:b'≤b):w.ownsRow b' e sz v n xs:=by
 refine⟨h.1,?_⟩
 rcases h.2 with hn|⟨g,cap,cur,rfl,hg,rest⟩
 · exact .inl hn
 · exact .inr ⟨g,cap,cur,rfl,by omega,rest⟩
structure Sl (w:World) (size:Nat) (v:Value) (n:Nat) (xs:List Value):Prop where
 len:xs.length=n*size
 ex:∃ao cap,v= .slice ao n cap∧n≤cap∧cap≤maxLen∧(ao=none→cap=0)∧∀a,ao=some a→∀j u,xs[j]? =some u→w.cell? (a.add j)=some u
theorem Sl.ext {w w':World} {size:Nat} {v:Value} {n:Nat} {xs:List Value} (h:Sl w size v n xs) (k:Ext w w'):Sl w' size v n xs:=by
 obtain⟨h1,ao,cap,h2,h3,h4,h5,h6⟩:=h
 exact⟨h1,ao,cap,h2,h3,h4,h5,fun a ha j u hu=>k.cell (h6 a ha j u hu)⟩
theorem Sl.of_owns {w:World} {b e size:Nat} {v:Value} {n:Nat} {xs:List Value} (h:w.ownsRow b e size v n xs):Sl w size v n xs:=by
 refine⟨h.1,?_⟩
 have hc:= @World.ownsRow.cells w b e size v n xs h
 rcases h.2 with ⟨hn,h0⟩|⟨g,cap,cur,hv,hb,hgg,h1,h2,h3,h4⟩
 · subst hn h0
   exact⟨none,0,rfl,Nat.le_refl _,Nat.zero_le _,fun _=>rfl,fun a ha=>by cases ha⟩
 · subst hv
   refine⟨some ⟨g,0,none⟩,cap,rfl,h1,h2,(fun h=>by cases h),fun a ha j u hu=> ?_⟩
   cases ha
   exact hc rfl j u hu
theorem Sl.nil (w:World) (size:Nat):Sl w size (.slice none 0 0) 0 []:=
 ⟨by simp,none,0,rfl,Nat.le_refl _,Nat.zero_le _,fun _=>rfl,fun a ha=>by cases ha⟩
abbrev bv (b:UInt8):Value:= .int .u8 (b.toNat:Int)
def str (l:List UInt8):ByteArray:=⟨l.toArray⟩
theorem str_data (l:List UInt8):(str l).data.toList=l:=by simp[str]
theorem str_size (l:List UInt8):(str l).size=l.length:=by simp[str,ByteArray.size]
@[go_sem] theorem str_toList (l : List UInt8) : (str l).toList = l := ByteArray.toList_mk l
section
variable {P : Program}
theorem run_append_sl (base t ty e:Nat) {z:Value} {size bytes:Nat} (ht:P.underlying t=some (.slice e))
 (hi:(P.info? e).map (fun i=>(i.zero,i.size,i.bytes))=some (some z,size,bytes)) (hzs:z.cells.size=size) (hsz:0<size)
 {w:World} {v:Value} {n:Nat} {xs:List Value} (hown:w.ownsRow base e size v n xs) {u:Value} {m:Nat} {ys:List Value} (hsl:Sl w size u m ys) (h1:∀y∈ys,y.oneCell'=true)
 (hb:n+m≤maxLen) (hbytes:(n+m)*bytes≤140737488355328) (hbase:base≤w.heap.size):
 ∃ao cap w',(Builtin.append_ #[t,t] ty #[v,u]).run P w= .ok (.slice ao (n+m) cap) w'∧w'.ownsRow base e size (.slice ao (n+m) cap) (n+m) (xs++ys)∧w.grownBy w' v.ownBlock∧Below base w w':=by
 obtain⟨i,hi1,hz,hs,hby⟩:=info_parts hi
 obtain⟨hl,ao,cap,rfl,h3,h4,h5,h6⟩:=hsl
 have hlt:= @World.ownsRow.lt w base e size v n xs hown
 cases ao with
 |none=>
  have hcap:=h5 rfl
  subst hcap
  obtain rfl:m=0:=by omega
  have hys:ys=[]:=List.length_eq_zero_iff.1 (by simpa using hl)
  subst hys
  have hr:=run_append_owned_none (P:=P) w base t ty e i size ht hi1 v n xs hown
  have hv:∃ao cap,v= .slice ao n cap:=by
   rcases hown.2 with ⟨a,b⟩|⟨g,cap,cur,hv,_⟩
   · subst b;exact⟨_,_,a⟩
   · exact⟨_,_,hv⟩
  obtain⟨ao,cap,hv⟩:=hv
  refine⟨ao,cap,w,by rw[hr,hv];rfl,?_,World.grownBy.refl _ _,Below.refl _ _⟩
  subst hv;simpa using hown
 |some a=>
  obtain⟨v',w',hr,ho,hg,_⟩:=run_append_own (P:=P) w base t ty e i z size bytes ht hi1 hz hs hby hzs hsz v n xs hown a m cap ys hl (fun j u hu=>h6 a rfl j u hu) h1 hb hbytes hbase
  have hv:∃ao cap,v'= .slice ao (n+m) cap:=by
   rcases ho.2 with ⟨a,b⟩|⟨g,cap,cur,hv,_⟩
   · rw[b];exact⟨_,_,a⟩
   · exact⟨_,_,hv⟩
  obtain⟨ao,cap',rfl⟩:=hv
  exact⟨ao,cap',w',hr,ho,hg,(Below.refl _ _).grown hg hbase fun k hk=>(hlt k hk).1⟩
theorem wpList_append_sl {ops:Array Oper} {rest:List Oper} {o:Oper} {a:Act} {w:World} {Q:Exit→Act→World→Prop} (hgd:o.guard=none) (s x:Operand) (t:Nat)
 (ho:o.op= .call {callee:= .builtin .append,args:= #[s,x],argTypes:= #[t,t]}) (base e:Nat) {z:Value} {size bytes:Nat} (ht:P.underlying t=some (.slice e))
 (hi:(P.info? e).map (fun i=>(i.zero,i.size,i.bytes))=some (some z,size,bytes)) (hzs:z.cells.size=size) (hsz:0<size)
 {v:Value} {n:Nat} {xs:List Value} (hs:a.eval s=v) (hown:w.ownsRow base e size v n xs) {u:Value} {m:Nat} {ys:List Value} (hx:a.eval x=u) (hsl:Sl w size u m ys)
 (h1:∀y∈ys,y.oneCell'=true) (hb:n+m≤maxLen) (hbytes:(n+m)*bytes≤140737488355328) (hbase:base≤w.heap.size)
 (h:∀ao cap w',w'.ownsRow base e size (.slice ao (n+m) cap) (n+m) (xs++ys)→w.grownBy w' v.ownBlock→Below base w w'→wpList P ops Q rest (a.put o.dst (.slice ao (n+m) cap)) w'):
 wpList P ops Q (o::rest) a w:=by
 obtain⟨ao,cap,w',hr,h2,h3,h4⟩:=run_append_sl (P:=P) base t o.type e ht hi hzs hsz hown hsl h1 hb hbytes hbase
 refine wpList_plain hgd fun K hK=> ?_
 unfold Oper.wp execOp
 subst hs hx
 simp only[ho,resolve,invoke,builtin,Sem.run_bind,Sem.run_pure,Result.andThen_ok,List.map_toArray,List.map_cons,List.map_nil,hr]
 exact hK _ _ (h ao cap w' h2 h3 h4)
end
end Go.Tum
namespace Go.Proofs.YtcfgafododiioaaGreatDoor
open Go Go.RowKit Go.Tum Go.ChangeMaps
structure Fr (S:List Nat) (w w':World):Prop where
 os:w'.os=w.os
 tape:w'.tape=w.tape
 output:w'.output=w.output
 size:w.heap.size≤w'.heap.size
 block:∀k,k<w.heap.size→k∉S→w'.heap[k]? =w.heap[k]?
theorem Fr.refl (S:List Nat) (w:World):Fr S w w:=⟨rfl,rfl,rfl,Nat.le_refl _,fun _ _ _=>rfl⟩
theorem Fr.trans {S:List Nat} {a b c:World} (h:Fr S a b) (k:Fr S b c):Fr S a c:=
 ⟨k.os.trans h.os,k.tape.trans h.tape,k.output.trans h.output,Nat.le_trans h.size k.size,fun j hj hn=>(k.block j (Nat.lt_of_lt_of_le hj h.size) hn).trans (h.block j hj hn)⟩
theorem Fr.mono {S T:List Nat} {a b:World} (h:Fr S a b) (hs:∀x∈S,x∈T):Fr T a b:=⟨h.os,h.tape,h.output,h.size,fun j hj hn=>h.block j hj fun hm=>hn (hs j hm)⟩
theorem Fr.wider {S T:List Nat} {a b:World} (h:Fr S a b) (hs:∀x∈S,x∈T∨a.heap.size≤x):Fr T a b:=⟨h.os,h.tape,h.output,h.size,fun j hj hn=>h.block j hj fun hm=>by
 rcases hs j hm with h1|h1
 · exact hn h1
 · omega⟩
theorem Ext.fr {S:List Nat} {a b:World} (h:Ext a b):Fr S a b:=⟨h.os,h.tape,h.output,h.size,fun j hj _=>h.block j hj⟩
theorem Fr.below {S:List Nat} {a b:World} {B:Nat} (h:Fr S a b) (hS:∀x∈S,B≤x) (hB:B≤a.heap.size):Below B a b:=
 ⟨h.os,h.tape,h.output,h.size,fun j hj=>h.block j (by omega) fun hm=>by have:=hS j hm;omega⟩
theorem Fr.cell {S:List Nat} {w w':World} (h:Fr S w w') {a:Addr} (hn:a.block∉S) (hl:a.block<w.heap.size):w'.cell? a=w.cell? a:=by
 have:=h.block a.block hl hn
 simp[World.cell?,this]
theorem fr_setCell {S:List Nat} (w:World) (a:Addr) (v:Value) (h:a.block∈S):Fr S w (w.setCell a v):=by
 refine⟨rfl,rfl,rfl,by simp,fun j hj hn=>heap_setCell_other _ _ _ _ fun e=>hn (by rw[e];exact h)⟩
theorem fr_turned {S:List Nat} {w w':World} {b:Nat} (h:w.mapTurned w' b) (hb:b∈S):Fr S w w':=by
 obtain⟨es,c,es',c',h1,rfl⟩:=h
 refine⟨rfl,rfl,rfl,by simp[setBlock],fun j hj hn=> ?_⟩
 have:b≠j:=fun e=>hn (by rw[←e];exact hb)
 simp[setBlock,Array.getElem?_setIfInBounds_ne this]
end Go.Proofs.YtcfgafododiioaaGreatDoor
namespace Go.Proofs.YtcfgafododiioaaGreatDoor
open Go Go.RowKit Go.Tum Go.ChangeMaps
abbrev DU:=DataW Unit
abbrev vU (x:UInt64):Value:= .int .u64 (x.toNat:Int)
abbrev kU (x:UInt64):Lit:= .int .u64 (x.toNat:Int)
def rdI:Value→Option (DU×List MemPlace)
 | .int k n=>some (.lit (.int k n),[])
 |_=>none
theorem rdI_inv {v:Value} {ps:List MemPlace} {k:IntKind} {n:Int} (h:rdI v=some (.lit (.int k n),ps)):v= .int k n:=by
 unfold rdI at h
 split at h
 · simp at h
   rw[h.1.1,h.1.2]
 · simp at h
theorem kU_key (x:UInt64):keyOf Tryz.prog 36 (vU x)=some (kU x):=Maps.keyOf_int_mk Tryz.underlying36 (by
 have:=x.toNat_lt
 simp[Lit.wf,IntKind.min,IntKind.max,IntKind.signed,IntKind.bits]
 omega)
theorem kU_ne {x y:UInt64} (h:x≠y):kU x≠kU y:=by
 intro e
 simp at e
 exact h (UInt64.toNat_inj.1 (by omega))
theorem keyed64:Maps.Keyed Tryz.prog 36:=Maps.int_keyed Tryz.underlying36
def MI (k:IntKind) (w:World) (m n:Nat) (F:UInt64→Option Int):Prop:=∃D:DU,w.ownsMap Tryz.prog 36 rdI m n D∧Maps.size D=n∧
 ∀x z,D.atKey (kU x) z=match F x with|none=>z|some i=> .lit (.int k i)
theorem MI.hasD {k:IntKind} {F:UInt64→Option Int} {D:DU} (h:∀x z,D.atKey (kU x) z=match F x with|none=>z|some i=> .lit (.int k i)) (x:UInt64):Maps.has D (kU x)=(F x).isSome:=by
 cases hx:F x with
 |none=>exact Maps.has_false_of_atKey fun z=>by rw[h,hx]
 |some b=>exact Maps.has_true_of_atKey (y:= .lit (.int k b)) fun z=>by rw[h,hx]
theorem MI.made (k:IntKind) (w:World):MI k (w.alloc (.map #[] 0)) w.heap.size 0 (fun _=>none):=by
 refine⟨.map [],World.ownsMap_made w _ _ _,rfl,fun x z=> ?_⟩
 exact WideAt.atKey_none z (by simp)
theorem MI.fr {S:List Nat} {k:IntKind} {w w':World} {m n:Nat} {F:UInt64→Option Int} (h:MI k w m n F) (f:Fr S w w') (hm:m∉S):MI k w' m n F:=by
 obtain⟨D,⟨es,c,h1,h4,h5,h6⟩,h2,h3⟩:=h
 exact⟨D,⟨es,c,(f.block m (Array.getElem?_eq_some_iff.1 h1).1 hm).trans h1,h4,h5,h6⟩,h2,h3⟩
theorem MI.block {k:IntKind} {w:World} {m n:Nat} {F:UInt64→Option Int} (h:MI k w m n F):∃es c,w.heap[m]? =some (.map es c):=by
 obtain⟨D,⟨es,c,h1,_⟩,_⟩:=h
 exact⟨es,c,h1⟩
theorem MI.congr {k:IntKind} {w:World} {m n:Nat} {F G:UInt64→Option Int} (h:MI k w m n F) (e:∀x,F x=G x):MI k w m n G:=by
 rw[←funext e];exact h
section
variable {k : IntKind} {mt vt : TypeId} {w : World} {m n : Nat} {F : UInt64 → Option Int}
theorem MI.look (h:MI k w m n F) (ht:Tryz.prog.underlying mt=some (.map 36 vt)) (hz:(zeroValue vt).run Tryz.prog w= .ok (.int k 0) w) (x:UInt64):
 (Instr.lookup mt (.map (some m)) (vU x) false).run Tryz.prog w= .ok (.int k ((F x).getD 0)) w:=by
 obtain⟨D,h1,h2,h3⟩:=h
 obtain⟨v,ps,hrun,hv⟩:=h1.lookup keyed64 ht hz (zd:= .lit (.int k 0)) (zp:=[]) rfl (kU_key x)
 rw[h3] at hv
 have:v= .int k ((F x).getD 0):=by
  cases hx:F x<;>rw[hx] at hv<;>exact rdI_inv hv
 rw[←this];exact hrun
theorem MI.look_ok (h:MI k w m n F) (ht:Tryz.prog.underlying mt=some (.map 36 vt)) (hz:(zeroValue vt).run Tryz.prog w= .ok (.int k 0) w) (x:UInt64):
 (Instr.lookup mt (.map (some m)) (vU x) true).run Tryz.prog w= .ok (.tuple #[.int k ((F x).getD 0),.bool (F x).isSome]) w:=by
 obtain⟨D,h1,h2,h3⟩:=h
 obtain⟨v,ps,hrun,hv⟩:=h1.look_ok keyed64 ht hz (zd:= .lit (.int k 0)) (zp:=[]) rfl (kU_key x)
 rw[h3] at hv
 have:v= .int k ((F x).getD 0):=by
  cases hx:F x<;>rw[hx] at hv<;>exact rdI_inv hv
 rw[MI.hasD h3] at hrun
 rw[←this];exact hrun
theorem MI.len (h:MI k w m n F) (ht:Tryz.prog.underlying mt=some (.map 36 vt)) (ty:TypeId):(Builtin.len_ #[mt] ty #[.map (some m)]).run Tryz.prog w= .ok (.int .i64 (n:Int)) w:=by
 obtain⟨D,h1,h2,h3⟩:=h
 rw[h1.len ht ty,h2]
def setF (F:UInt64→Option Int) (x:UInt64) (i:Int):UInt64→Option Int:=fun y=>if y=x then some i else F y
def delF (F:UInt64→Option Int) (x:UInt64):UInt64→Option Int:=fun y=>if y=x then none else F y
theorem MI.store (h:MI k w m n F) (ht:Tryz.prog.underlying mt=some (.map 36 vt)) (hl:n≤1048576) (x:UInt64) (i:Int):
 ∃w',(Instr.mapUpdate mt (.map (some m)) (vU x) (.int k i)).run Tryz.prog w= .ok () w'∧MI k w' m (if(F x).isSome then n else n+1) (setF F x i)∧w.mapTurned w' m:=by
 obtain⟨D,h1,h2,h3⟩:=h
 obtain⟨w',hrun,r1,r2⟩:=h1.store keyed64 ht (by simp[maxLen];omega) (kU_key x) (show rdI (.int k i)=some (.lit (.int k i),[]) from rfl)
 have hsz:Maps.size (D.put (kU x) (.lit (.int k i)))=(if(F x).isSome then n else n+1):=by
  rw[Maps.size_put (h1.tidy keyed64),MI.hasD h3 x,h2]
 refine⟨w',hrun,⟨D.put (kU x) (.lit (.int k i)),?_,hsz,fun y z=> ?_⟩,r2⟩
 · obtain⟨es,c,e1,e2,e3,e4⟩:=r1
   refine⟨es,c,e1,e2,?_,e4⟩
   rw[←hsz,e4]
   simp[Maps.size,length_sorted]
 · unfold setF
   by_cases hy:y=x
   · subst hy
     rw[Maps.atKey_put_same h1.isMap (by simp[WideAt.IsKeyLit]),if_pos rfl]
   · rw[Maps.atKey_put_other (kU_ne hy),h3,if_neg hy]
theorem MI.del (h:MI k w m (n+1) F) (ht:Tryz.prog.underlying mt=some (.map 36 vt)) {x:UInt64} (hx:(F x).isSome=true) (ty:TypeId):
 ∃w',(Builtin.delete_ #[mt,36] ty #[.map (some m),vU x]).run Tryz.prog w= .ok (.tuple #[]) w'∧MI k w' m n (delF F x)∧w.mapTurned w' m:=by
 obtain⟨D,h1,h2,h3⟩:=h
 obtain⟨w',hrun,r1,r2⟩:=h1.drop keyed64 ht (kU_key x) ty
 have hsz:Maps.size (D.del (kU x))=n:=by
  have:=Maps.size_del (h1.tidy keyed64) (k:=kU x)
  rw[MI.hasD h3 x,hx,h2] at this
  simp at this;omega
 refine⟨w',hrun,⟨_,?_,hsz,fun y z=> ?_⟩,r2⟩
 · obtain⟨es,c,e1,e2,e3,e4⟩:=r1
   refine⟨es,c,e1,e2,?_,e4⟩
   rw[←hsz,e4]
   simp[Maps.size,length_sorted]
 · unfold delF
   by_cases hy:y=x
   · subst hy;rw[Maps.atKey_del_same,if_pos rfl]
   · rw[Maps.atKey_del_other (kU_ne hy),if_neg hy,h3]
end
end Go.Proofs.YtcfgafododiioaaGreatDoor
namespace Go.Tum
open Go.RowKit
def Vec {α:Type} (f:α→Value) (w:World) (v:Value) (l:List α):Prop:=Sl w 1 v l.length (l.map f)
def OwV {α:Type} (f:α→Value) (w:World) (base e:Nat) (v:Value) (l:List α):Prop:=w.ownsRow base e 1 v l.length (l.map f)
section
variable {α : Type} {f : α → Value}
theorem Vec.ext {w w':World} {v:Value} {l:List α} (h:Vec f w v l) (k:Ext w w'):Vec f w' v l:=Sl.ext h k
theorem Vec.open {w:World} {v:Value} {l:List α} (h:Vec f w v l):∃ao cap,v= .slice ao l.length cap∧l.length≤cap∧cap≤9223372036854775807∧(0<cap→∃a,ao=some a)∧
 ∀a,ao=some a→∀j (h:j<l.length),w.cell? (a.add j)=some (f l[j]):=by
 obtain⟨h1,ao,cap,h2,h3,h4,h5,h6⟩:=h
 refine⟨ao,cap,h2,h3,by simpa[maxLen] using h4,fun hc=> ?_,fun a ha j hj=>h6 a ha j _ (by simp[hj])⟩
 cases ao with
 |none=>have:=h5 rfl;omega
 |some a=>exact⟨a,rfl⟩
theorem Vec.opens {w:World} {ao:Option Addr} {n cap:Nat} {l:List α} (h:Vec f w (.slice ao n cap) l):n=l.length∧n≤cap∧cap≤9223372036854775807∧(0<cap→∃a,ao=some a)∧
 ∀a,ao=some a→∀j (h:j<l.length),w.cell? (a.add j)=some (f l[j]):=by
 obtain⟨ao',cap',e,h1,h2,h3,h4⟩:=h.open
 cases e
 exact⟨rfl,h1,h2,h3,h4⟩
theorem Vec.len {w:World} {ao:Option Addr} {n cap:Nat} {l:List α} (h:Vec f w (.slice ao n cap) l):n=l.length:=by
 obtain⟨_,ao2,cap2,e,_⟩:=h
 cases e;rfl
theorem OwV.vec {w:World} {b e:Nat} {v:Value} {l:List α} (h:OwV f w b e v l):Vec f w v l:=Sl.of_owns h
theorem OwV.ext {w w':World} {b e:Nat} {v:Value} {l:List α} (h:OwV f w b e v l) (k:Ext w w'):OwV f w' b e v l:=Ext.owns k h
theorem OwV.mono {w:World} {b b' e:Nat} {v:Value} {l:List α} (h:OwV f w b e v l) (hb:b'≤b):OwV f w b' e v l:=owns_mono h hb
theorem OwV.nil (w:World) (b e:Nat):OwV f w b e (.slice none 0 0) []:=World.ownsRow_nil _ _ _ _
theorem OwV.shape {w:World} {b e:Nat} {v:Value} {l:List α} (h:OwV f w b e v l):∃ao cap,v= .slice ao l.length cap:=by
 obtain⟨ao,cap,h,_⟩:=h.vec.open;exact⟨ao,cap,h⟩
theorem OwV.len {w:World} {b e:Nat} {ao:Option Addr} {n cap:Nat} {l:List α} (h:OwV f w b e (.slice ao n cap) l):n=l.length:=h.vec.len
theorem OwV.cell {w:World} {b e g n cap:Nat} {l:List α} (h:OwV f w b e (.slice (some ⟨g,0,none⟩) n cap) l) (j:Nat) (hj:j<l.length):w.cell? ⟨g,j,none⟩=some (f l[j]):=by
 have:=h.len;subst this
 rw[World.ownsRow.cellAt h j (by omega)];simp[hj]
theorem OwV.frozen {w:World} {b e g n cap:Nat} {l:List α} (h:OwV f w b e (.slice (some ⟨g,0,none⟩) n cap) l) (j:Nat):w.frozen? ⟨g,j,none⟩=false:=by
 have:=h.len;subst this
 exact World.ownsRow.frozenAt h j
theorem OwV.set {w:World} {b e g n cap:Nat} {l:List α} (h:OwV f w b e (.slice (some ⟨g,0,none⟩) n cap) l) (j:Nat) (c:α):
 OwV f (w.setCell ⟨g,j,none⟩ (f c)) b e (.slice (some ⟨g,0,none⟩) n cap) (l.set j c):=by
 have:=h.len;subst this
 have:=(World.ownsRow.stored h j (f c)).1
 unfold OwV
 rw[List.length_set,List.map_set]
 exact this
theorem OwV.block {w:World} {b e g n cap:Nat} {l:List α} (h:OwV f w b e (.slice (some ⟨g,0,none⟩) n cap) l):b≤g:=by
 have:=h.len;subst this
 exact(World.ownsRow.lt h g rfl).1
theorem OwV.addr {w:World} {b e n cap:Nat} {ao:Option Addr} {l:List α} (h:OwV f w b e (.slice ao n cap) l) (h0:0<n):∃g,ao=some ⟨g,0,none⟩:=by
 have:=h.len;subst this
 rcases h.2 with ⟨a,b⟩|⟨g,cap,cur,hv,_⟩
 · omega
 · cases hv;exact⟨g,rfl⟩
theorem OwV.setOther {w:World} {b e g n cap:Nat} {l:List α} (h:OwV f w b e (.slice (some ⟨g,0,none⟩) n cap) l) (a:Addr) (u:Value) (hne:a.block≠g):
 OwV f (w.setCell a u) b e (.slice (some ⟨g,0,none⟩) n cap) l:=by
 refine⟨h.1,?_⟩
 rcases h.2 with hn|⟨g',cap',cur,hv,hb,hgg,rest⟩
 · exact .inl hn
 · cases hv
   exact .inr ⟨g,cap,cur,rfl,hb,by rw[heap_setCell_other _ _ _ _ (fun e=>hne e.symm)];exact hgg,rest⟩
variable {P : Program}
end
abbrev uv (x:UInt64):Value:= .int .u64 (x.toNat:Int)
abbrev iv (x:Int):Value:= .int .i64 x
end Go.Tum
namespace Go.Tum
open Go Go.RowKit Go.WideShapes Go.ChangeShapes Go.Deep
theorem list_of {α:Type} {Q:Nat→α→Prop}:∀(n:Nat),(∀i,i<n→∃x,Q i x)→∃l:List α,l.length=n∧∀i (h:i<l.length),Q i l[i]
 |0,_=>⟨[],rfl,fun i h=>absurd h (by simp)⟩
 |n+1,h=>by
  obtain⟨l,hl,hq⟩:=list_of n fun i hi=>h i (by omega)
  obtain⟨x,hx⟩:=h n (by omega)
  refine⟨l++[x],by simp[hl],fun i hi=> ?_⟩
  rcases Nat.lt_or_ge i l.length with h1|h1
  · rw[List.getElem_append_left h1];exact hq i h1
  · have:i=n:=by simp at hi;omega
    subst this
    simpa[hl] using hx
theorem flat_get {α:Type} {c:α→List Value} {size:Nat}:∀{l:List α} (_:∀x∈l,(c x).length=size) (i:Nat) (h:i<l.length) (j:Nat),j<size→(l.flatMap c)[i*size+j]? =(c l[i])[j]?
 |[],_,i,h,_,_=>absurd h (by simp)
 |x::r,hc,0,_,j,hj=>by
  have:=hc x (by simp)
  simp only[List.flatMap_cons,Nat.zero_mul,Nat.zero_add,List.getElem_cons_zero]
  rw[List.getElem?_append_left (by omega)]
 |x::r,hc,i+1,h,j,hj=>by
  have:=hc x (by simp)
  simp only[List.flatMap_cons,List.getElem_cons_succ]
  rw[List.getElem?_append_right (by rw[this,Nat.succ_mul];omega)]
  have e:(i+1)*size+j - (c x).length=i*size+j:=by rw[this,Nat.succ_mul];omega
  rw[e]
  exact flat_get (fun y hy=>hc y (List.mem_cons_of_mem _ hy)) i (by simpa using h) j hj
theorem flat_len {α:Type} {c:α→List Value} {size:Nat}:∀{l:List α},(∀x∈l,(c x).length=size)→(l.flatMap c).length=l.length*size
 |[],_=>by simp
 |x::r,hc=>by
  simp only[List.flatMap_cons,List.length_append,List.length_cons]
  rw[hc x (by simp),flat_len (fun y hy=>hc y (List.mem_cons_of_mem _ hy)),Nat.succ_mul];omega
def RowsOf (w:World) (size:Nat) (v:Value) {α:Type} (c:α→List Value) (l:List α):Prop:=(∀x∈l,(c x).length=size)∧Sl w size v l.length (l.flatMap c)
theorem RowsOf.ext {w w':World} {size:Nat} {v:Value} {α:Type} {c:α→List Value} {l:List α} (h:RowsOf w size v c l) (k:Ext w w'):RowsOf w' size v c l:=⟨h.1,h.2.ext k⟩
theorem RowsOf.nil (w:World) (size:Nat) {α:Type} (c:α→List Value):RowsOf w size (.slice none 0 0) c []:=⟨fun x h=>absurd h (by simp),Sl.nil w size⟩
theorem RowsOf.mk' {w:World} {size:Nat} {a:Addr} {len cap:Nat} {α:Type} {c:α→List Value} {l:List α} (hl:l.length=len) (hlc:len≤cap) (hcm:cap≤maxLen) (hs:0<size)
 (hc:∀x∈l,(c x).length=size) (h:∀i (h:i<l.length) j u,(c l[i])[j]? =some u→w.cell? (a.add (i*size+j))=some u):RowsOf w size (.slice (some a) len cap) c l:=by
 subst hl
 refine⟨hc,by rw[flat_len hc],some a,cap,rfl,hlc,hcm,(fun h=>by cases h),fun a' ha k u hu=> ?_⟩
 cases ha
 have hk:k<l.length*size:=by
  have:=(List.getElem?_eq_some_iff.1 hu).1
  rwa[flat_len hc] at this
 have hi:k / size<l.length:=Nat.div_lt_of_lt_mul (by rw[Nat.mul_comm];exact hk)
 have e:k / size*size+k % size=k:=by rw[Nat.mul_comm];exact Nat.div_add_mod k size
 have:=flat_get hc (k / size) hi (k % size) (Nat.mod_lt _ hs)
 rw[e] at this
 have h2:=h (k / size) hi (k % size) u (by rw[←this];exact hu)
 rw[e] at h2
 exact h2
theorem RowsOf.open {w:World} {size:Nat} {v:Value} {α:Type} {c:α→List Value} {l:List α} (h:RowsOf w size v c l):
 ∃ao cap,v= .slice ao l.length cap∧l.length≤cap∧cap≤9223372036854775807∧(0<cap→∃a,ao=some a)∧
  ∀a,ao=some a→∀i (h:i<l.length) j u,(c l[i])[j]? =some u→w.cell? (a.add (i*size+j))=some u:=by
 obtain⟨hc,h1,ao,cap,h2,h3,h4,h5,h6⟩:=h
 refine⟨ao,cap,h2,h3,by simpa[maxLen] using h4,fun hp=> ?_,fun a ha i hi j u hu=>h6 a ha _ u ?_⟩
 · cases ao with
   |none=>have:=h5 rfl;omega
   |some a=>exact⟨a,rfl⟩
 · have hj:j<size:=by
    have:=(List.getElem?_eq_some_iff.1 hu).1
    rwa[hc _ (List.getElem_mem hi)] at this
   rw[flat_get hc i hi j hj];exact hu
theorem add_at (a:Addr) (i j:Nat) (hj:j≠0):(⟨(a.add i).block,(a.add i).off+j,none⟩:Addr)=a.add (i+j):=by
 unfold Addr.add
 by_cases hi:i=0
 · subst hi;simp[hj]
 · rw[if_neg hi,if_neg (by omega)];simp[Nat.add_assoc]
theorem cell_first {w:World} {a:Addr} {i:Nat} {u:Value} (h:w.cell? (a.add (i+0))=some u):w.cell? (a.add i)=some u:=h
theorem cell_next {w:World} {a:Addr} {i j:Nat} {u:Value} (h:w.cell? (a.add (i+j))=some u) (hj:j≠0):w.cell? ⟨(a.add i).block,(a.add i).off+j,none⟩=some u:=by rw[add_at a i j hj];exact h
section
variable {H : Type} {enc : TypeId × Value → H} {P : Program} {w : World} {base : Nat} {spare : Nat → Bool} {held : Bool}
end
end Go.Tum
