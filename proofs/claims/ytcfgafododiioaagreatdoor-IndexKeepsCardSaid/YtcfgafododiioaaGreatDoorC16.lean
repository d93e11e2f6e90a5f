/- Texts of a claim, side by side. -/
import Derived.Test.YtcfgafododiioaaGreatDoorC15
import Derived.Lib.MapLaws
import Derived.Lib.RuneCount
set_option linter.unusedSimpArgs false
set_option linter.unusedVariables false
namespace Go.Proofs.YtcfgafododiioaaGreatDoor
open Go Go.RowKit Go.Tum Go.ChangeMaps Go.Sort
open Go.Shelf
section
variable {α : Type} [Inhabited α] {A Bf : α → Value}
omit [Inhabited α] in
theorem flat2_get (l:List α) (i:Nat) (h:i<l.length):(l.flatMap fun z=>[A z,Bf z])[i*2]? =some (A l[i])∧(l.flatMap fun z=>[A z,Bf z])[i*2+1]? =some (Bf l[i]):=by
 induction l generalizing i with
 |nil=>simp at h
 |cons z r ih=>
  cases i with
  |zero=>simp
  |succ i=>
   have:=ih i (by simpa using h)
   rw[show(i+1)*2=i*2+1+1 by omega]
   simpa using this
theorem flatK_list (l:List α):(flatK (fun z=>[A z,Bf z]) 2 l.toArray).toList=l.flatMap fun z=>[A z,Bf z]:=by
 have hlen:(l.flatMap fun z=>[A z,Bf z]).length=l.length*2:=by
  induction l with
  |nil=>rfl
  |cons z r ih=>simp[ih];omega
 apply List.ext_getElem?
 intro t
 by_cases ht:t<l.length*2
 · have h1:(flatK (fun z=>[A z,Bf z]) 2 l.toArray).toList[t]? =some ((flatK (fun z=>[A z,Bf z]) 2 l.toArray)[t]!):=by
    rw[Array.getElem?_toList,getElem!_pos _ t (by simpa using ht),Array.getElem?_eq_getElem (by simpa using ht)]
   have hq:t / 2<l.length:=by omega
   have hin:l.toArray[t / 2]! =l[t / 2]:=by rw[getElem!_pos _ (t / 2) (by simpa using hq)];simp
   rw[h1,get_flatK _ _ _ _ (by simpa using ht),hin]
   obtain⟨g0,g1⟩:=flat2_get (A:=A) (Bf:=Bf) l (t / 2) hq
   rcases Nat.mod_two_eq_zero_or_one t with h2|h2
   · rw[h2]
     have:t=t / 2*2:=by omega
     conv=>rhs;rw[this]
     rw[g0];rfl
   · rw[h2]
     have:t=t / 2*2+1:=by omega
     conv=>rhs;rw[this]
     rw[g1];rfl
 · rw[List.getElem?_eq_none (by simp;omega),List.getElem?_eq_none (by omega)]
end
theorem take_putId (cur F:Array Value) (h:F.size≤cur.size):(putCells id 0 F cur).toList.take F.size=F.toList:=by
 apply List.ext_getElem?
 intro j
 by_cases hj:j<F.size
 · rw[List.getElem?_take_of_lt hj,Array.getElem?_toList]
   simp[putCells,hj,show j<cur.size by omega]
 · rw[List.getElem?_take_eq_none (by omega),List.getElem?_eq_none (by simp;omega)]
theorem heap_putId {w:World} {g n:Nat} {os:Array Obj} {cur:Array Value} {e:TypeId} {fr:Nat×Nat} (F:Array Value) (hb:w.heap[g]? =some (.cells cur e fr)):
 (grow (putRow id (Sort.ahead w n) g 0 F) os).heap[g]? =some (.cells (putCells id 0 F cur) e fr):=by
 have hg:g<w.heap.size:=(Array.getElem?_eq_some_iff.1 hb).1
 rw[heap_grow_old _ _ (by simpa using hg)]
 simp[putRow,mapBlock,Sort.ahead,Array.getElem?_modify,hb,onCells]
theorem fr_putId {w:World} {g n:Nat} {os:Array Obj} (F:Array Value):Fr [g] w (grow (putRow id (Sort.ahead w n) g 0 F) os):=by
 refine⟨rfl,rfl,rfl,by simp,fun k hk hne=> ?_⟩
 rw[heap_grow_old _ _ (by simpa using hk)]
 have:g≠k:=fun e=>hne (by rw[e];simp)
 simp[putRow,mapBlock,Sort.ahead,Array.getElem?_modify,this]
theorem own_holds {α:Type} [Inhabited α] {A Bf:α→Value} {w:World} {B e g cap:Nat} {l:List α} (h:w.ownsRow B e 2 (.slice (some ⟨g,0,none⟩) l.length cap) l.length (l.flatMap fun z=>[A z,Bf z])):
 HoldsK (fun z=>[A z,Bf z]) 2 w g 0 l.toArray:=by
 intro j hj
 have hj2:j<l.length*2:=by simpa using hj
 refine⟨?_,by rw[Nat.zero_add];exact World.ownsRow.frozenAt h j⟩
 rw[Nat.zero_add,World.ownsRow.cellAt h j hj2,←flatK_list,Array.getElem?_toList,Array.getElem?_eq_getElem hj,getElem!_pos _ j hj]
 rfl
theorem own_sorted {α:Type} [Inhabited α] {A Bf:α→Value} {w:World} {B e g cap n:Nat} {os:Array Obj} {l m:List α} (h:w.ownsRow B e 2 (.slice (some ⟨g,0,none⟩) l.length cap) l.length (l.flatMap fun z=>[A z,Bf z])) (hl:m.length=l.length):
 (sortWorldK (fun z=>[A z,Bf z]) 2 w g 0 n m.toArray os).ownsRow B e 2 (.slice (some ⟨g,0,none⟩) l.length cap) l.length (m.flatMap fun z=>[A z,Bf z]):=by
 have hlen:(m.flatMap fun z=>[A z,Bf z]).length=m.length*2:=by
  have:=congrArg List.length (flatK_list (A:=A) (Bf:=Bf) m)
  simpa using this.symm
 refine⟨by rw[hlen,hl],?_⟩
 rcases h.2 with ⟨hv,-⟩|⟨g',cap',cur,hv,hb,hgg,h1,h2,h3,h4⟩
 · cases hv
 · cases hv
   refine .inr ⟨g,cap,_,rfl,hb,heap_putId _ hgg,h1,h2,by simp[putCells,h3],?_⟩
   have:=take_putId cur (flatK (fun z=>[A z,Bf z]) 2 m.toArray) (by rw[size_flatK,h3];simp;omega)
   rw[size_flatK] at this
   simp only[List.size_toArray] at this
   rw[←hl,this,flatK_list]
theorem cmpU_neg {x y:UInt64}:cmpU x y<0↔x<y:=by
 unfold cmpU
 by_cases h:x<y
 · simp[h]
 · rw[if_neg h]
   by_cases h2:y<x
   · simp[h2,h]
   · simp[h2,h]
theorem cmpU_zero {x y:UInt64}:cmpU x y=0↔x=y:=by
 unfold cmpU
 by_cases h:x<y
 · rw[if_pos h]
   have:x≠y:=fun e=>by rw[e] at h;exact absurd h (UInt64.lt_irrefl y)
   simp[this]
 · rw[if_neg h]
   by_cases h2:y<x
   · rw[if_pos h2]
     have:x≠y:=fun e=>by rw[e] at h2;exact absurd h2 (UInt64.lt_irrefl y)
     simp[this]
   · rw[if_neg h2]
     have:x=y:=UInt64.le_antisymm (UInt64.not_lt.1 h2) (UInt64.not_lt.1 h)
     simp[this]
def ltP (a b:UInt64×UInt64):Bool:=decide (a.2<b.2∨a.2=b.2∧a.1<b.1)
theorem lt_cfP (a b:UInt64×UInt64):ltOf cfP a b=ltP a b:=by
 unfold ltOf cfP or2 ltP
 by_cases h:cmpU a.2 b.2=0
 · have h1:=cmpU_zero.1 h
   rw[if_neg (by simpa using h)]
   have:¬a.2<b.2:=by rw[h1];exact UInt64.lt_irrefl _
   rw[h1] at this⊢
   simp only[this,false_or,cmpU_neg,true_and]
 · have h1:a.2≠b.2:=fun e=>h (cmpU_zero.2 e)
   rw[if_pos h]
   simp only[h1,false_and,or_false,cmpU_neg]
theorem u64_lt {x y:UInt64}:x<y↔x.toNat<y.toNat:=UInt64.lt_iff_toNat_lt
theorem u64_eq {x y:UInt64}:x=y↔x.toNat=y.toNat:=UInt64.toNat_inj.symm
theorem swoP:SWO (ltOf cfP) where
 irrefl x:=by rw[lt_cfP];simp[ltP,UInt64.lt_irrefl]
 trans x y z h1 h2:=by
  rw[lt_cfP] at*
  simp only[ltP,decide_eq_true_eq,u64_lt,u64_eq] at*
  omega
 ntrans x y z h1 h2:=by
  rw[lt_cfP] at*
  simp only[ltP,decide_eq_false_iff_not,u64_lt,u64_eq] at*
  omega
theorem totP (x y:UInt64×UInt64) (h1:ltOf cfP x y=false) (h2:ltOf cfP y x=false):x=y:=by
 rw[lt_cfP] at h1 h2
 simp only[ltP,decide_eq_false_iff_not,u64_lt,u64_eq] at h1 h2
 exact Prod.ext (u64_eq.2 (by omega)) (u64_eq.2 (by omega))
def sortP (l:List (UInt64×UInt64)):List (UInt64×UInt64):=l.mergeSort fun x y=> !(ltOf cfP) y x
theorem sortP_perm (l:List (UInt64×UInt64)):(sortP l).Perm l:=List.mergeSort_perm _ _
theorem sortP_len (l:List (UInt64×UInt64)):(sortP l).length=l.length:=(sortP_perm l).length_eq
theorem sortP_pair (l:List (UInt64×UInt64)):(sortP l).Pairwise fun x y=>ltP y x=false:=by
 have:=List.pairwise_mergeSort (le:=fun x y=> !(ltOf cfP) y x) (fun a b c h1 h2=>by
  simp only[Bool.not_eq_true'] at*
  rw[lt_cfP] at*
  simp only[ltP,decide_eq_false_iff_not,u64_lt,u64_eq] at*
  omega) (fun a b=>by
  simp only[lt_cfP,ltP,Bool.or_eq_true,Bool.not_eq_true',decide_eq_false_iff_not,u64_lt,u64_eq]
  omega) l
 exact this.imp fun h=>by simpa[lt_cfP] using h
theorem sortP_of {l m:List (UInt64×UInt64)} (h:l.Perm m) (hm:m.Pairwise fun x y=>ltP x y=true):sortP l=m:=by
 refine List.Perm.eq_of_pairwise (le:=fun x y=>ltP y x=false) (fun a b _ _ h1 h2=>totP a b (by rw[lt_cfP];exact h2) (by rw[lt_cfP];exact h1)) (sortP_pair l) (hm.imp fun{a b} h=> ?_) ((sortP_perm l).trans h)
 simp only[ltP,decide_eq_true_eq,decide_eq_false_iff_not,u64_lt,u64_eq] at*
 omega
theorem row_shape {w:World} {b e s n:Nat} {v:Value} {xs:List Value} (h:w.ownsRow b e s v n xs):∃ao cap,v= .slice ao n cap:=by
 rcases h.2 with ⟨a,b⟩|⟨g,cap,cur,hv,_⟩
 · subst b;exact⟨_,_,a⟩
 · exact⟨_,_,hv⟩
def oB (v:Value):List Nat:=match v.ownBlock with|some g=>[g]|none=>[]
theorem sortR_any {B:Nat} {w:World} {v:Value} (l:List (UInt64×UInt64)) (h:w.ownsRow B 96 2 v l.length (l.flatMap encR)) (hl:l.length≤1000000):
 Calls Tryz.prog 157 #[v,.func (.func 158) #[] #[]] w fun e w'=>e= .returned (.tuple #[])∧w'.ownsRow B 96 2 v l.length ((sortP l).flatMap encR)∧Fr (oB v) w w':=by
 rcases h.2 with ⟨hv,h0⟩|⟨g,cap,cur,hv,hb,hgg,h1,h2,h3,h4⟩
 · have hl0:l=[]:=List.length_eq_zero_iff.1 h0
   subst hv hl0
   refine(AnyF.slices_SortFunc_none Tryz.sortRow none 0 _ w).mono ?_
   rintro e w' ⟨rfl,rfl⟩
   exact⟨rfl,by simpa[sortP] using h,Fr.refl _ _⟩
 · subst hv
   have eg:∀args w,(callFunc 158 args).run Tryz.prog w= .ok (.enter 158 args) w:=enters_of Tryz.func158 (by kernel_rfl) rfl
   have hcmp:CmpLays Tryz.prog 158 #[] encR 2 cfP g 0 l.toArray.size w:=fun m os dk _ x y=>byPlace_any x y _
   have hc:=AnyQ.slices_SortFunc_total Tryz.sortRow 2 Tryz.isAgg96 Tryz.sizeOf96 encR (fun _=>rfl) (fun x v hv=>by simp at hv;rcases hv with rfl|rfl<;>rfl) cfP swoP 158 #[] g 0 cap l.toArray w eg hcmp (own_holds h) (Array.getElem?_eq_some_iff.1 hgg).1 (by simp;omega) totP
   refine hc.mono ?_
   rintro e w' ⟨rfl,n,os,rfl⟩
   refine⟨rfl,?_,?_⟩
   · exact own_sorted h (sortP_len l)
   · exact(fr_putId _).mono (by intro q hq;simp[oB,Value.ownBlock] at hq⊢;exact hq)
end Go.Proofs.YtcfgafododiioaaGreatDoor
namespace Go.Proofs.YtcfgafododiioaaGreatDoor
open Go Go.RowKit Go.Tum Go.ChangeMaps Go.Sort
open Go.ParB (upd Lof)
open Go.ParE (putS slotsR slots Closed)
theorem infoRow:(Tryz.prog.info? 96).map (fun i=>(i.zero,i.size,i.bytes))=some (some (.agg #[.int .u64 0,.int .u64 0]),2,16):=by kernel_rfl
theorem oB_own {v:Value} {g:Nat} (h:v.ownBlock=some g):oB v=[g]:=by unfold oB;rw[h]
theorem fr_grownD {w w':World} {b:Nat} {v:Value} (k:w.grownBy w' v.ownBlock) (e:Below b w w'):Fr (oB v) w w':=
 ⟨e.os,e.tape,e.output,e.size,fun j hj hn=>k.block j hj fun h=>hn (by rw[oB_own h.symm];simp)⟩
theorem ownsRow_fr {w w':World} {b e n s:Nat} {v:Value} {xs:List Value} {S:List Nat} (h:w.ownsRow b e s v n xs) (f:Fr S w w') (hs:∀q∈oB v,q∉S):w'.ownsRow b e s v n xs:=by
 refine⟨h.1,?_⟩
 rcases h.2 with hn|⟨g,cap,cur,hv,hb,hgg,rest⟩
 · exact .inl hn
 · refine .inr ⟨g,cap,cur,hv,hb,?_,rest⟩
   rw[f.block g (Array.getElem?_eq_some_iff.1 hgg).1 (hs g (by rw[hv];simp[oB,Value.ownBlock]))];exact hgg
theorem row_kind {w:World} {b e sz n:Nat} {v:Value} {xs:List Value} (h:w.ownsRow b e sz v n xs):∀q∈oB v,∃cs,w.heap[q]? =some (.cells cs e (0,0)):=by
 intro q hq
 rcases h.2 with ⟨hv,-⟩|⟨g,cap,cur,hv,hb,hgg,rest⟩
 · rw[hv] at hq;simp[oB,Value.ownBlock] at hq
 · rw[hv] at hq
   simp[oB,Value.ownBlock] at hq
   subst hq
   exact⟨_,hgg⟩
theorem row_lo {w:World} {b e s2 n:Nat} {v:Value} {xs:List Value} (h:w.ownsRow b e s2 v n xs):∀q∈oB v,b≤q:=by
 intro q hm
 rcases h.2 with ⟨hv,-⟩|⟨g,cap,cur,hv,hb,hgg,rest⟩
 · rw[hv] at hm;simp[oB,Value.ownBlock] at hm
 · rw[hv] at hm
   simp[oB,Value.ownBlock] at hm
   subst hm;exact hb
theorem row_one (w:World) (e:Nat) (z:UInt64×UInt64):Sl (w.alloc (.cells #[vU z.1,vU z.2] e (0,0))) 2 (.slice (some ⟨w.heap.size,0,none⟩) 1 1) 1 (encR z):=by
 have hblk:=heap_alloc_new w (.cells #[vU z.1,vU z.2] e (0,0))
 refine⟨rfl,some ⟨w.heap.size,0,none⟩,1,rfl,Nat.le_refl _,by simp[maxLen],(fun h=>by cases h),fun a ha j u hu=> ?_⟩
 cases ha
 have e1:(⟨w.heap.size,0,none⟩:Addr).add j=⟨w.heap.size,j,none⟩:=by unfold Addr.add;split<;>simp_all
 rw[e1,cell_of_row _ _ _ _ _ _ hblk]
 simpa using hu
theorem wpList_append_slN {P:Program} {ops:Array Oper} {rest:List Oper} {o:Oper} {a:Act} {w:World} {Q:Exit→Act→World→Prop} (hgd:o.guard=none) (s x:Operand) (t:Nat)
 (ho:o.op= .call {callee:= .builtin .append,args:= #[s,x],argTypes:= #[t,t]}) (base e:Nat) {z:Value} {size bytes:Nat} (ht:P.underlying t=some (.slice e))
 (hi:(P.info? e).map (fun i=>(i.zero,i.size,i.bytes))=some (some z,size,bytes)) (hzs:z.cells.size=size) (hsz:0<size)
 {v:Value} {n:Nat} {xs:List Value} (hs:a.eval s=v) (hown:w.ownsRow base e size v n xs) {u:Value} {m:Nat} {ys:List Value} (hx:a.eval x=u) (hsl:Sl w size u m ys)
 (h1:∀y∈ys,y.oneCell'=true) (N:Nat) (hN:N=n+m) (hb:N≤maxLen) (hbytes:N*bytes≤140737488355328) (hbase:base≤w.heap.size)
 (h:∀ao cap w',w'.ownsRow base e size (.slice ao N cap) N (xs++ys)→Fr (oB v) w w'→Below base w w'→wpList P ops Q rest (a.put o.dst (.slice ao N cap)) w'):
 wpList P ops Q (o::rest) a w:=by
 subst hN
 exact wpList_append_sl hgd s x t ho base e ht hi hzs hsz hs hown hx hsl h1 hb hbytes hbase fun ao cap w' k1 k2 k3=>h ao cap w' k1 (fr_grownD k2 k3) k3
theorem enter_ofD {P : Program} {K : Nat} {fn : Func} (hK : P.funcs[K]? = some fn) (hK1 : (fn.name == "runtime.NumGoroutine") = false) (hK2 : fn.body.isNone = false) (args : Array Value) (w : World) :
 Sem.run P (callFunc K args) w= .ok (.enter K args) w:=by
 have h1 : ¬ fn.name = "runtime.NumGoroutine" := by simpa using hK1
 have h2:¬fn.body=none:=fun h=>by rw[h] at hK2;simp at hK2
 simp[callFunc,hK,h1,h2]
def WhiP (w:World) (l:List (UInt64×UInt64)) (e:Ending) (w':World):Prop:=(∃v,e= .returned v∧w'.ownsRow w.heap.size 96 2 v l.length (l.flatMap encR))∧Ext w w'
set_option maxRecDepth 100000 in
set_option maxHeartbeats 2000000 in
theorem dwhich_any {w:World} {p mp ms:Nat} {s:PD} (pr:UInt64×UInt64→Bool) (g:Nat) (cb:Array Value) (h:DD w p mp ms s)
 (eg:∀args w,Sem.run Tryz.prog (callFunc g args) w= .ok (.enter g args) w) (hr:∀w2,Ext w w2→∀z,Calls Tryz.prog g (#[.agg #[vU z.1,vU z.2]]++cb) w2 fun e w3=>e= .returned (.bool (pr z))∧Ext w2 w3):
 Calls Tryz.prog 115 #[pv p,.func (.func g) #[] cb] w fun e w'=>WhiP w (sortP (s.rows.filter pr)) e w':=by
 obtain⟨-,c1,-,-⟩:=lk3D h.hd
 obtain⟨l,hl,pl⟩:=h.rm
 have HM:=hid hl
 have HPL:=hid pl
 have HND:=hid (perm_nodup pl h.nr)
 have HR:=hid hr
 have HLR:=hid h.lr
 clear h hl pl hr
 go_enter Tryz.func115,Tryz.ntmps115
 go_wp2_with (at_range;refine wpList_range_PMU _ Tryz.underlying133 rfl _ rfl mp l rfl HM.out HND.out ?_;intro w0 hrg0 hE0;have HRG:=hid hrg0;have HE0:=hid hE0;clear hrg0 hE0)
 obtain⟨r,hr⟩:∃r,w.heap.size=r:=⟨_,rfl⟩
 rw[hr] at HRG⊢
 have HRr:=hid hr
 clear hr
 go_frame
 go_loopw [5] (fun v wr=>∃(rem:List (UInt64×UInt64)) (cnt:Nat) (ss:List (UInt64×UInt64)) (ao:Option Addr) (n cap:Nat),v= .slice ao n cap∧Hid (n=ss.length)∧Hid (wr.ownsRow w.heap.size 96 2 (.slice ao n cap) n (ss.flatMap encR))∧Hid (RNGU wr mp r l rem cnt)∧Hid ((ss++rem.filter pr).Perm (l.filter pr))∧Hid (Ext w wr)) (fun _ wr=>wr.rangeLeft mp r)
 case atStart=>exact⟨l,_,[],none,0,0,rfl,hid rfl,hid (World.ownsRow_nil _ _ _ _),HRG,hid (List.Perm.refl _),HE0⟩
 case round=>
  obtain⟨rem,cnt,ss,ao,n,cap,rfl,HN,HO,HRG,HP,HE⟩:=hrel
  have HSL:Hid (ss.length+(rem.filter pr).length≤100000):=hid (by have h1:=HP.out.length_eq;rw[List.length_append] at h1;have h2:=List.length_filter_le pr l;have h3:=HPL.out.length_eq;have:=HLR.out;omega)
  go_wp2_with (first
   |(at_next;refine wpList_next_RNGU _ rfl _ rfl mp r cnt l rem rfl HRG.out ?_ ?_))
  · intro h0
    subst h0
    have hperm:ss.Perm (l.filter pr):=by have:=HP.out;simpa using this
    have HSS:Hid (sortP ss=sortP (s.rows.filter pr)):=hid (by
     have h1:ss.Perm (s.rows.filter pr):=hperm.trans (HPL.out.filter _)
     refine List.Perm.eq_of_pairwise (le:=fun x y=>ltP y x=false) (fun a b _ _ h1 h2=>totP a b (by rw[lt_cfP];exact h2) (by rw[lt_cfP];exact h1)) (sortP_pair _) (sortP_pair _) (((sortP_perm ss).trans h1).trans (sortP_perm _).symm))
    have HC:=hid (sortR_any (w:=wr) ss (by rw[←HN.out];exact HO.out) (by have:=HSL.out;omega))
    clear hperm
    go_wp2_with fail
    refine HC.out.mono ?_
    rintro e w9 ⟨rfl,ho,hf⟩
    have HO9:Hid (w9.ownsRow w.heap.size 96 2 (.slice ao n cap) (sortP (s.rows.filter pr)).length ((sortP (s.rows.filter pr)).flatMap encR)):=hid (by rw[←HSS.out,sortP_len];exact ho)
    have HE9:Hid (Ext w w9):=hid (Below.trans HE.out (hf.below (row_lo HO.out) HE.out.size))
    clear ho hf
    go_wp2
    go_ret
    exact⟨⟨_,rfl,HO9.out⟩,HE9.out⟩
  · intro x b w' cnt' k1 k2 k4 k5 k6 k7
    have hrit:∀q∈oB (.slice ao n cap),q∉[r]:=fun q hq hq2=>by
     obtain rfl:q=r:=by simpa using hq2
     obtain⟨cs,hc⟩:=row_kind HO.out q hq
     obtain⟨o,ho,hn⟩:=HRG.out.blocks.2
     rw[ho] at hc;cases hc;exact hn _ _ rfl
    have HO2:=hid (ownsRow_fr HO.out k6 hrit)
    have HE2:Hid (Ext w w'):=hid (Below.trans HE.out (k6.below (by simp;have:=HRr.out;omega) HE.out.size))
    have HRG2:=hid k4
    have HK5:=hid (show w'.rangeLeft mp r<wr.rangeLeft mp r by rw[k4.left,HRG.out.left];exact k5)
    have hpn:=(noK_perm k1 HRG.out.nd).filter pr
    have HPN:=hid hpn
    have HB:=hid (heap_alloc_new w' (.cells #[vU x,vU b] 96 (0,0)))
    have HE3:=hid (HE2.out.trans (Ext.alloc w' (.cells #[vU x,vU b] 96 (0,0))))
    have HO3:=hid ((Ext.alloc w' (.cells #[vU x,vU b] 96 (0,0))).owns HO2.out)
    have HRG3:=hid (HRG2.out.ext (Ext.alloc w' (.cells #[vU x,vU b] 96 (0,0))))
    clear k1 k2 k4 k5 k6 hrit hpn
    go_wp2_with fail
    refine(HR.out _ HE3.out (x,b)).mono ?_
    rintro e w5 ⟨rfl,hE5⟩
    have HE5:=hid (HE3.out.trans hE5)
    have HB5:=hid (hE5.obj HB.out)
    have HO5:=hid (hE5.owns HO3.out)
    have HRG5:=hid (HRG3.out.ext hE5)
    have HK6:Hid (cnt'<wr.rangeLeft mp r):=hid (by have:=HK5.out;rw[HRG2.out.left] at this;exact this)
    clear hE5 HE3 HB HO3 HRG3 HO2 HE2 HRG2 HK5
    obtain⟨ab,hab⟩:∃b,w'.heap.size=b:=⟨_,rfl⟩
    rw[hab] at HB5⊢
    clear hab k7
    obtain⟨pb,hpb⟩:∃y,pr (x,b)=y:=⟨_,rfl⟩
    have HPB:=hid hpb
    rw[hpb]
    clear hpb
    cases pb
    case false=>
     have HP2:Hid ((ss++(noK rem x).filter pr).Perm (l.filter pr)):=hid (by
      have h1:=HPN.out
      rw[List.filter_cons,if_neg (by rw[HPB.out];decide)] at h1
      exact(List.Perm.append_left ss h1).trans HP.out)
     go_wp2
     go_roundw
     case rel=>exact⟨noK rem x,cnt',ss,ao,n,cap,rfl,HN,HO5,HRG5,HP2,HE5⟩
     case measure=>rw[HRG5.out.left];exact HK6.out
    case true=>
     have HP2:Hid (((ss++[(x,b)])++(noK rem x).filter pr).Perm (l.filter pr)):=hid (by
      have h1:=HPN.out
      rw[List.filter_cons,if_pos HPB.out] at h1
      have h2:=(List.Perm.append_left ss h1).trans HP.out
      simpa using h2)
     obtain⟨q0,q1,-⟩:=lk2 HB5.out
     have hnb:n≤100000:=by have:=HSL.out;rw[HN.out];omega
     have HSL1:=hid (row_one w5 96 (x,b))
     go_wp2_with (at_builtin;refine wpList_append_slN rfl (.tmp 25) (.tmp 27) 60 rfl w.heap.size 96 Tryz.underlying60 infoRow rfl (by decide) rfl ((Ext.alloc w5 _).owns HO5.out) rfl HSL1.out (by intro y hy;simp at hy;rcases hy with rfl|rfl<;>rfl) (n+1) (by omega) (by simp[maxLen];omega) (by omega) (Nat.le_trans HE5.out.size (by simp)) ?_;intro ao3 cap3 w3 hO3 hg3 hb3;have HO3:=hid hO3;have HE3:Hid (Ext w w3):=hid (Below.trans (HE5.out.trans (Ext.alloc _ _)) hb3);have HF3:=hid hg3;clear hO3 hg3 hb3)
     have HRG6:Hid (RNGU w3 mp r l (noK rem x) cnt'):=hid (by
      have h1:=HRG5.out.ext (Ext.alloc w5 (.cells #[vU x,vU b] 96 (0,0)))
      refine h1.kept HF3.out ?_ ?_
      · intro hq
        obtain⟨cs,hc⟩:=row_kind ((Ext.alloc w5 (.cells #[vU x,vU b] 96 (0,0))).owns HO5.out) _ hq
        obtain⟨o,ho,hn⟩:=h1.blocks.1
        rw[ho] at hc;cases hc;exact hn _ _ rfl
      · intro hq
        obtain⟨cs,hc⟩:=row_kind ((Ext.alloc w5 (.cells #[vU x,vU b] 96 (0,0))).owns HO5.out) _ hq
        obtain⟨o,ho,hn⟩:=h1.blocks.2
        rw[ho] at hc;cases hc;exact hn _ _ rfl)
     go_roundw
     case rel=>exact⟨noK rem x,cnt',ss++[(x,b)],ao3,n+1,cap3,rfl,hid (by rw[List.length_append,HN.out];rfl),hid (by rw[List.flatMap_append];simpa using HO3.out),HRG6,HP2,HE3⟩
     case measure=>rw[HRG6.out.left];exact HK6.out
theorem enAll (args:Array Value) (w:World):Sem.run Tryz.prog (callFunc 116 args) w= .ok (.enter 116 args) w:=enter_ofD Tryz.func116 (by kernel_rfl) (by kernel_rfl) args w
theorem enNext (args:Array Value) (w:World):Sem.run Tryz.prog (callFunc 140 args) w= .ok (.enter 140 args) w:=enter_ofD Tryz.func140 (by kernel_rfl) (by kernel_rfl) args w
theorem all1_any (z:UInt64×UInt64) (w:World):Calls Tryz.prog 116 (#[.agg #[vU z.1,vU z.2]]++ #[]) w fun e w'=>e= .returned (.bool true)∧Ext w w':=by
 show Calls Tryz.prog 116 #[.agg #[vU z.1,vU z.2]] w fun e w'=>e= .returned (.bool true)∧Ext w w'
 go_enter Tryz.func116,Tryz.ntmps116
 go_wp2
 go_ret
 exact⟨rfl,Ext.alloc _ _⟩
theorem dall_any {w:World} {p mp ms:Nat} {s:PD} (h:DD w p mp ms s):
 Calls Tryz.prog 66 #[pv p] w fun e w'=>WhiP w (sortP s.rows) e w':=by
 have hc:=dwhich_any (fun _=>true) 116 #[] h enAll (fun w2 _ z=>all1_any z w2)
 rw[List.filter_eq_self.2 (by simp)] at hc
 have HC:=hid hc
 clear hc h
 go_enter Tryz.func66,Tryz.ntmps66
 go_wp2_with fail
 refine HC.out.mono ?_
 rintro e w1 ⟨⟨v,rfl,ho⟩,hE⟩
 have HO:=hid ho
 have HE:=hid hE
 obtain⟨o,c,rfl⟩:=row_shape ho
 clear ho hE
 go_wp2
 go_ret
 exact⟨⟨_,rfl,HO.out⟩,HE.out⟩
theorem next1_any (z:UInt64×UInt64) (pl:UInt64) (b:Nat) (w:World) (hb:w.cell? ⟨b,0,none⟩=some (vU pl)):Calls Tryz.prog 140 (#[.agg #[vU z.1,vU z.2]]++ #[pv b]) w fun e w'=>e= .returned (.bool (decide (pl<z.2)))∧Ext w w':=by
 obtain⟨z1,z2⟩:=z
 show Calls Tryz.prog 140 #[.agg #[vU z1,vU z2],pv b] w fun e w'=>e= .returned (.bool (decide (pl<z2)))∧Ext w w'
 have hc:∀o,(w.alloc o).cell? ⟨b,0,none⟩=some (vU pl):=fun o=>(Ext.alloc w o).cell hb
 have hd:decide (pl<z2)=decide (pl.toNat<z2.toNat):=by simp only[u64_lt]
 rw[hd]
 go_enter Tryz.func140,Tryz.ntmps140
 go_wp2
 go_ret
 exact⟨by simp,Ext.alloc _ _⟩
end Go.Proofs.YtcfgafododiioaaGreatDoor
namespace Go.Tum.Rn
open Go.Lib
theorem dec2 {n b0 b1 b2 b3:Nat} (h0:b0 / 32=6) (hn:1<n) (h1:b1 / 64=2) (hv:128≤b0 % 32*64+b1 % 64):decodeN n b0 b1 b2 b3=(b0 % 32*64+b1 % 64,2):=by
 unfold decodeN
 rw[if_neg (by omega),if_pos ⟨h0,hn,h1⟩,if_pos hv]
theorem dec3 {n b0 b1 b2 b3:Nat} (h0:b0 / 16=14) (hn:2<n) (h1:b1 / 64=2) (h2:b2 / 64=2) (hv:2048≤b0 % 16*4096+b1 % 64*64+b2 % 64)
 (hs:b0 % 16*4096+b1 % 64*64+b2 % 64<55296∨57344≤b0 % 16*4096+b1 % 64*64+b2 % 64):decodeN n b0 b1 b2 b3=(b0 % 16*4096+b1 % 64*64+b2 % 64,3):=by
 unfold decodeN
 rw[if_neg (by omega),if_neg (by omega),if_pos ⟨h0,⟨by omega,h1⟩,by omega,h2⟩,if_pos ⟨hv,by omega⟩]
theorem dec4 {n b0 b1 b2 b3:Nat} (h0:b0 / 8=30) (hn:3<n) (h1:b1 / 64=2) (h2:b2 / 64=2) (h3:b3 / 64=2) (hv:65536≤b0 % 8*262144+b1 % 64*4096+b2 % 64*64+b3 % 64)
 (hs:b0 % 8*262144+b1 % 64*4096+b2 % 64*64+b3 % 64≤1114111):decodeN n b0 b1 b2 b3=(b0 % 8*262144+b1 % 64*4096+b2 % 64*64+b3 % 64,4):=by
 unfold decodeN
 rw[if_neg (by omega),if_neg (by omega),if_neg (by omega),if_pos ⟨h0,⟨by omega,h1⟩,⟨by omega,h2⟩,by omega,h3⟩,if_pos ⟨hv,by omega⟩]
def runesF:Nat→List UInt8→List Nat
 |0,_=>[]
 |n+1,l=>if l=[] then[] else(decodeL l).1::runesF n (l.drop (decodeL l).2)
def runes (l:List UInt8):List Nat:=runesF l.length l
theorem runesF_fuel:∀(n m:Nat) (l:List UInt8),l.length≤n→l.length≤m→runesF n l=runesF m l
 |0,0,_,_,_=>rfl
 |0,m+1,l,h,_=>by
  obtain rfl:l=[]:=List.length_eq_zero_iff.1 (by omega)
  simp[runesF]
 |n+1,0,l,_,h=>by
  obtain rfl:l=[]:=List.length_eq_zero_iff.1 (by omega)
  simp[runesF]
 |n+1,m+1,l,h1,h2=>by
  unfold runesF
  by_cases hl:l=[]
  · rw[if_pos hl,if_pos hl]
  · have hw:=decodeL_width l
    have hp:=List.length_pos_iff.2 hl
    rw[if_neg hl,if_neg hl,runesF_fuel n m _ (by simp;omega) (by simp;omega)]
theorem runes_nil:runes []=[]:=rfl
theorem runes_step {l:List UInt8} (hl:l≠[]):runes l=(decodeL l).1::runes (l.drop (decodeL l).2):=by
 have hw:=decodeL_width l
 have hp:=List.length_pos_iff.2 hl
 unfold runes
 obtain⟨n,hn⟩:∃n,l.length=n+1:=⟨l.length - 1,by omega⟩
 rw[hn,runesF,if_neg hl,runesF_fuel n (l.drop (decodeL l).2).length _ (by simp;omega) (Nat.le_refl _)]
theorem runes_ind {Q:List UInt8→Prop} (h:∀l,(l≠[]→Q (l.drop (decodeL l).2))→Q l) (l:List UInt8):Q l:=by
 have:∀n (l:List UInt8),l.length≤n→Q l:=by
  intro n
  induction n with
  |zero=>exact fun l hl=>h l fun hne=>absurd (List.length_eq_zero_iff.1 (by omega)) hne
  |succ n ih=>
   intro l hl
   refine h l fun hne=>ih _ ?_
   have hw:=decodeL_width l
   have hp:=List.length_pos_iff.2 hne
   simp;omega
 exact this _ l (Nat.le_refl _)
theorem runes_len (l:List UInt8):(runes l).length≤l.length:=by
 induction l using runes_ind with
 |h l ih=>
  by_cases hl:l=[]
  · subst hl;simp[runes_nil]
  · have:=ih hl
    have hw:=decodeL_width l
    have hp:=List.length_pos_iff.2 hl
    rw[runes_step hl]
    simp only[List.length_cons,List.length_drop] at this⊢
    omega
def okR (r:Nat):Prop:=r<55296∨57344≤r∧r≤1114111
theorem decodeL_ok (l:List UInt8):okR (decodeL l).1:=by
 unfold okR
 rw[decodeL_N]
 have k0:=(l.getD 0 0).toNat_lt
 have k1:=(l.getD 1 0).toNat_lt
 rcases decodeN_shape l.length (l.getD 0 0).toNat (l.getD 1 0).toNat (l.getD 2 0).toNat (l.getD 3 0).toNat with ⟨c,e⟩|⟨c1,c2,c3,cv,e⟩|⟨c1,c2,c3,c4,cv,cs,e⟩|⟨c1,c2,c3,c4,c5,cv,cw,e⟩|e
 all_goals (rw[e];dsimp only;omega)
theorem runes_ok (l:List UInt8):∀r∈runes l,okR r:=by
 induction l using runes_ind with
 |h l ih=>
  by_cases hl:l=[]
  · subst hl;simp[runes_nil]
  · rw[runes_step hl]
    intro r hr
    rcases List.mem_cons.1 hr with rfl|hr
    · exact decodeL_ok l
    · exact ih hl r hr
theorem b8 (z:Int) (h0:0≤z) (h1:z<256):(z.toNat.toUInt8).toNat=z.toNat:=by
 have:z.toNat<256:=by omega
 simp;omega
theorem decode_encode (r:Nat) (hr:okR r) (m:List UInt8):decodeL (encodeRune r++m)=(r,(encodeRune r).length):=by
 unfold okR at hr
 rw[decodeL_N]
 by_cases h1:r≤127
 · have he:encodeRuneZ (r:Int)=[(r:Int)]:=encodeRuneZ_one (by omega) (by omega)
   unfold encodeRune
   rw[he]
   simp only[List.map_cons,List.map_nil,List.cons_append,List.nil_append,List.length_cons,List.length_nil,List.getD_cons_zero]
   rw[b8 _ (by omega) (by omega)]
   exact decodeN_ascii _ _ _ _ _ (by omega)
 by_cases h2:r≤2047
 · have he:encodeRuneZ (r:Int)=_:=encodeRuneZ_two (by omega) (by omega)
   unfold encodeRune
   rw[he]
   simp only[List.map_cons,List.map_nil,List.cons_append,List.nil_append,List.length_cons,List.length_nil,List.getD_cons_zero,List.getD_cons_succ]
   rw[b8 _ (by omega) (by omega),b8 _ (by omega) (by omega),dec2 (by omega) (by omega) (by omega) (by omega)]
   congr 1;omega
 by_cases h3:r≤65535
 · have he:encodeRuneZ (r:Int)=_:=encodeRuneZ_three (by omega)
   unfold encodeRune
   rw[he]
   simp only[List.map_cons,List.map_nil,List.cons_append,List.nil_append,List.length_cons,List.length_nil,List.getD_cons_zero,List.getD_cons_succ]
   rw[b8 _ (by omega) (by omega),b8 _ (by omega) (by omega),b8 _ (by omega) (by omega),dec3 (by omega) (by omega) (by omega) (by omega) (by omega) (by omega)]
   congr 1;omega
 · have he:encodeRuneZ (r:Int)=_:=encodeRuneZ_four (by omega) (by omega)
   unfold encodeRune
   rw[he]
   simp only[List.map_cons,List.map_nil,List.cons_append,List.nil_append,List.length_cons,List.length_nil,List.getD_cons_zero,List.getD_cons_succ]
   rw[b8 _ (by omega) (by omega),b8 _ (by omega) (by omega),b8 _ (by omega) (by omega),b8 _ (by omega) (by omega),dec4 (by omega) (by omega) (by omega) (by omega) (by omega) (by omega) (by omega)]
   congr 1;omega
theorem encode_ne (r:Int):encodeRune r≠[]:=by
 intro h
 have:=(encodeRuneZ_length r).1
 have h2:=congrArg List.length h
 simp[encodeRune] at h2
 rw[h2] at this;simp at this
def enc (l:List Nat):List UInt8:=l.flatMap fun r:Nat=>encodeRune (r:Int)
theorem enc_cons (r:Nat) (l:List Nat):enc (r::l)=encodeRune r++enc l:=by simp[enc]
theorem runes_enc:∀(l:List Nat),(∀r∈l,okR r)→runes (enc l)=l
 |[],_=>rfl
 |r::l,h=>by
  have hne:enc (r::l)≠[]:=by
   rw[enc_cons];intro h2
   exact encode_ne r (List.append_eq_nil_iff.1 h2).1
  rw[runes_step hne,enc_cons,decode_encode r (h r (by simp)),List.drop_left,runes_enc l fun x hx=>h x (List.mem_cons_of_mem _ hx)]
theorem enc_runes (l:List UInt8):65533∉runes l→enc (runes l)=l:=by
 induction l using runes_ind with
 |h l ih=>
  intro hn
  by_cases hl:l=[]
  · subst hl;rfl
  · rw[runes_step hl] at hn⊢
    simp only[List.mem_cons,not_or] at hn
    rw[enc_cons,ih hl hn.2,encode_decode l hl (fun h=>hn.1 h.1.symm),List.take_append_drop]
def letterB (r:Nat):Bool:=decide (97≤r∧r≤122)||(decide (48≤r∧r≤57)||decide (945≤r∧r≤969))
def rightL (l:List UInt8):Bool:=decide (0<(runes l).length) && (decide ((runes l).length≤8) && (runes l).all letterB)
def foldN (r:Nat):Nat:=if 65≤r∧r≤90∨913≤r∧r≤937∧r≠930 then r+32 else if r=962 then 963 else r
def foldI (r:Int):Int:=if 65≤r∧r≤90∨913≤r∧r≤937∧r≠930 then r+32 else if r=962 then 963 else r
theorem foldI_cast (r:Nat):foldI r=(foldN r:Nat):=by
 unfold foldI foldN
 repeat' split
 all_goals omega
def foldL (l:List UInt8):List UInt8:=enc ((runes l).map foldN)
theorem foldN_ok {r:Nat} (h:okR r):okR (foldN r):=by
 unfold okR foldN at*
 repeat' split
 all_goals omega
theorem foldN_idem (r:Nat):foldN (foldN r)=foldN r:=by
 unfold foldN
 repeat' split
 all_goals omega
theorem mapD_fold (l:List UInt8):mapD foldI l=foldL l:=by
 unfold foldL
 induction l using runes_ind with
 |h l ih=>
  by_cases hl:l=[]
  · subst hl;rfl
  · rw[mapD_step _ _ hl,runes_step hl,List.map_cons,enc_cons,ih hl,foldI_cast,if_pos (by omega)]
theorem runes_fold (l:List UInt8):runes (foldL l)=(runes l).map foldN:=by
 refine runes_enc _ fun r hr=> ?_
 obtain⟨x,hx,rfl⟩:=List.mem_map.1 hr
 exact foldN_ok (runes_ok l x hx)
theorem fold_fold (l:List UInt8):foldL (foldL l)=foldL l:=by
 show enc ((runes (foldL l)).map foldN)=foldL l
 rw[runes_fold,List.map_map]
 show enc _=enc _
 congr 1
 exact List.map_congr_left fun r _=>foldN_idem r
theorem right_enc {l:List UInt8} (h:rightL l=true):enc (runes l)=l:=by
 refine enc_runes l fun hm=> ?_
 unfold rightL at h
 simp only[Bool.and_eq_true,List.all_eq_true] at h
 have:=h.2.2 _ hm
 simp[letterB] at this
def lessR:List Nat→List Nat→Bool
 |_,[]=>false
 |[],_::_=>true
 |x::a,y::b=>if x=y then lessR a b else decide (x<y)
theorem lessR_irrefl:∀a,lessR a a=false
 |[]=>rfl
 |x::a=>by simp[lessR,lessR_irrefl a]
theorem lessR_asymm:∀a b,lessR a b=true→lessR b a=false
 |_,[],h=>by simp[lessR] at h
 |[],y::b,_=>rfl
 |x::a,y::b,h=>by
  unfold lessR at h⊢
  by_cases e:x=y
  · rw[if_pos e] at h;rw[if_pos e.symm];exact lessR_asymm a b h
  · rw[if_neg e] at h;rw[if_neg (Ne.symm e)];simp at h⊢;omega
theorem lessR_trans:∀a b c,lessR a b=true→lessR b c=true→lessR a c=true
 |_,[],_,h,_=>by simp[lessR] at h
 |_,_::_,[],_,h=>by simp[lessR] at h
 |[],y::b,z::c,_,_=>rfl
 |x::a,y::b,z::c,h1,h2=>by
  unfold lessR at h1 h2⊢
  by_cases e1:x=y
  · subst e1
    by_cases e2:x=z
    · subst e2
      rw[if_pos rfl] at h1 h2⊢
      exact lessR_trans a b c h1 h2
    · rw[if_neg e2] at h2⊢;exact h2
  · rw[if_neg e1] at h1
    by_cases e2:y=z
    · subst e2;rw[if_neg e1];exact h1
    · rw[if_neg e2] at h2
      simp at h1 h2
      rw[if_neg (by omega)];simp;omega
theorem lessR_total:∀a b,a≠b→lessR a b=false→lessR b a=true
 |[],[],h,_=>absurd rfl h
 |x::a,[],_,_=>rfl
 |[],y::b,_,h=>by simp[lessR] at h
 |x::a,y::b,h,h2=>by
  unfold lessR at h2⊢
  by_cases e:x=y
  · subst e
    rw[if_pos rfl] at h2⊢
    exact lessR_total a b (fun h3=>h (by rw[h3])) h2
  · rw[if_neg e] at h2;rw[if_neg (Ne.symm e)];simp at h2⊢;omega
theorem right_inj {a b:List UInt8} (ha:rightL a=true) (hb:rightL b=true) (h:runes a=runes b):a=b:=by
 rw[←right_enc ha,←right_enc hb,h]
end Go.Tum.Rn
