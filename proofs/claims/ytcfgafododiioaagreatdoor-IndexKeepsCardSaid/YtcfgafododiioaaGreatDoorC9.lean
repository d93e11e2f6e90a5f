/- Texts of a claim, side by side. -/
import Derived.Test.YtcfgafododiioaaGreatDoorC8
import Derived.Test.YtcfgafododiioaaGreatDoorC1
import Derived.Test.YtcfgafododiioaaGreatDoorRows
import Derived.Maps.OwnSet
import Derived.Maps.Views
import Derived.Lib.SmallJoins
import Derived.Test.YtcfgafododiioaaGreatDoorC3
import Derived.Carry
import Derived.Deep.QuietTactic
import Derived.BigQuiet
import Derived.Handy
set_option linter.unusedSimpArgs false
set_option linter.unusedVariables false
namespace Go.Proofs.YtcfgafododiioaaGreatDoor
open Go Go.RowKit Go.Tum Go.ChangeMaps Go.Tum.Hp
theorem HB.ti_tr {B:Nat} {w w1:World} {p mt mp n:Nat} {At At2:UInt64→Option Int} {row:List UInt64} {v:Value} (h:Tr B w p mt mp n At row v) {n2:Nat} (r2:MI .u64 w1 mt n2 At2) (r3:w.mapTurned w1 mt):Tr B w1 p mt mp n2 At2 row v:=by
 have hf1:=fr_turned (S:=[mt]) r3 (by simp)
 obtain⟨est,ckt,htb⟩:=h.ti.block
 have hpt:p≠mt:=by
  rintro rfl;rw[h.hd] at htb;cases htb
 exact⟨(hf1.block p (Array.getElem?_eq_some_iff.1 h.hd).1 (by simpa using hpt)).trans h.hd,r2,h.pl.fr hf1 (by simpa using Ne.symm h.ne),owv_fr h.ow hf1 (by
  intro q hq
  obtain rfl:q=mt:=by simpa using hq
  exact⟨_,htb,map_ne⟩),h.nd,h.ne⟩
def HDropP (B:Nat) (w:World) (p mt mp:Nat) (At:UInt64→Option Int) (row:List UInt64) (v:Value) (x:UInt64) (e:Ending) (w':World):Prop:=
 (x∉row→e= .returned (.bool false)∧w=w')∧(x∈row→e= .returned (.bool true)∧∃row' v',(x::row').Perm row∧HB B w' p mt mp (delF At x) row' v'∧Below B w w'∧Turn w w' p mt mp v v')
set_option maxHeartbeats 1000000 in
theorem hdrop_any (B:Nat) (w:World) (p mt mp:Nat) (At:UInt64→Option Int) (row:List UInt64) (v:Value) (x:UInt64) (h:HB B w p mt mp At row v) (hl:row.length≤10000) (hB:B≤w.heap.size):
 Calls Tryz.prog 133 #[pv p,vU x] w fun e w'=>HDropP B w p mt mp At row v x e w':=by
 obtain⟨c0,-⟩:=lk3 h.tr.hd
 have hlk:=h.tr.ti.look_ok Tryz.underlying133 (Tryz.zeroValue36 _) x
 have hhas:=h.has x
 by_cases hx:x∈row
 · rw[hhas,show decide (x∈row)=true by simpa using hx] at hlk
   generalize (At x).getD 0=t at*
   obtain⟨i,hi,hxi⟩:=List.mem_iff_getElem.1 hx
   have HX:=hid hx
   have H:=hid h
   clear h hhas hx
   go_enter Tryz.func133,Tryz.ntmps133
   go_wp2_with fail
   refine(tdrop_any B w p mt mp row.length At row v i x H.out.tr hi hxi H.out.hp (by omega) H.out.bp H.out.bm hB).mono ?_
   rintro e w1 ⟨⟨u,rfl⟩,row',v',hpm,hT1,hH1,hE1,hN1⟩
   have hlen:row.length=row'.length+1:=by rw[←hpm.length_eq];simp
   obtain⟨d0,-⟩:=lk3 hT1.hd
   have hsm:(At x).isSome=true:=by rw[H.out.has x];simpa using HX.out
   rw[hlen] at hT1
   obtain⟨w2,r1,r2,r3⟩:=hT1.ti.del Tryz.underlying133 hsm 0
   have hT2:=HB.ti_tr hT1 r2 r3
   have hE2:Below B w1 w2:=(fr_turned (S:=[mt]) r3 (by simp)).below (by simpa using H.out.bt) (Nat.le_trans hB hE1.size)
   have hnd:x∉row':=by
    have:=(hpm.nodup_iff.2 H.out.tr.nd)
    exact(List.nodup_cons.1 this).1
   have HH:Hid (HB B w2 p mt mp (delF At x) row' v'):=hid (by
    refine⟨hT2,fun y=> ?_,?_,H.out.bp,H.out.bt,H.out.bm⟩
    · unfold delF
      have hmem:y∈row↔y=x∨y∈row':=by rw[←hpm.mem_iff];simp
      by_cases hy:y=x
      · subst hy;rw[if_pos rfl];simp[hnd]
      · rw[if_neg hy,H.out.has y];simp[hmem,hy]
    · have h1:HP (rowK At row') row'.length:=by rw[hlen] at hH1;simpa using hH1
      exact h1.congr (rowK_del hnd))
   have HE2:Hid (Below B w w2):=hid (hE1.trans hE2)
   have HPM:=hid hpm
   have HTN:=hid (turn_last (q:=mt) (by simp[Hb]) hN1 (fr_turned (S:=[mt]) r3 (by simp)))
   clear hT1 hT2 r2 r3 hE1 hE2 hnd hpm hlen hH1 hsm hN1
   go_wp2
   go_ret
   exact⟨fun hn=>absurd HX.out hn,fun _=>⟨rfl,row',v',HPM.out,HH.out,HE2.out,HTN.out⟩⟩
 · rw[hhas,show decide (x∈row)=false by simpa using hx] at hlk
   generalize (At x).getD 0=t at*
   have HX:=hid hx
   clear h hhas hx
   go_enter Tryz.func133,Tryz.ntmps133
   go_wp2
   go_ret
   exact⟨fun _=>⟨rfl,rfl⟩,fun hn=>absurd hn HX.out⟩
def fst (At:UInt64→Option Int) (row:List UInt64):Value:=
 match row with
 |[]=> .tuple #[.int .u64 0,.int .u64 0,.bool false]
 |x::_=> .tuple #[vU x,.int .u64 (tim At x),.bool true]
set_option maxHeartbeats 1000000 in
theorem hfirst_any (B:Nat) (w:World) (p mt mp:Nat) (At:UInt64→Option Int) (row:List UInt64) (v:Value) (h:HB B w p mt mp At row v):
 Calls Tryz.prog 132 #[pv p] w fun e w'=>e= .returned (fst At row)∧Ext w w':=by
 obtain⟨c0,c1,-⟩:=lk3 h.tr.hd
 have H:=hid h
 cases row with
 |nil=>
  clear h
  go_enter Tryz.func132,Tryz.ntmps132
  go_wp2_with fail
  refine(hlen_any B w p mt mp At _ v H.out).mono ?_
  rintro e w1 ⟨rfl,rfl⟩
  rw[show((([]:List UInt64).length:Nat):Int)=0 from rfl]
  go_wp2
  go_returns
  exact⟨rfl,Ext.refl _⟩
 |cons x r=>
  obtain⟨ao,cap,rfl⟩:=h.tr.ow.shape
  obtain⟨g,hg⟩:=h.tr.ow.addr (by simp)
  subst hg
  have hc:=h.tr.ow.cell 0 (by simp)
  simp only[List.getElem_cons_zero] at hc
  have hlk:∀j,(Instr.lookup 133 (.map (some mt)) (vU x) false).run Tryz.prog (w.drewN j)= .ok (.int .u64 (tim At x)) (w.drewN j):=fun j=>(h.tr.ti.drewN j).look Tryz.underlying133 (Tryz.zeroValue36 _) x
  have hi1:(((x::r).length:Int)==0)=false:=by simp;omega
  have hi2:0<(x::r).length:=by simp
  have hfs:fst At (x::r)= .tuple #[vU x,.int .u64 (tim At x),.bool true]:=rfl
  rw[hfs]
  generalize tim At x=t at*
  obtain⟨n,hn⟩:∃n,(x::r).length=n:=⟨_,rfl⟩
  have HN:=hid hn
  rw[hn] at c1 hi1 hi2
  clear h hn hfs
  go_enter Tryz.func132,Tryz.ntmps132
  go_wp2_with fail
  refine(hlen_any B w p mt mp At _ _ H.out).mono ?_
  rintro e w1 ⟨rfl,rfl⟩
  rw[HN.out]
  go_wp2_with fail
  go_quiet (fail)
  go_wp2
  go_returns
  exact⟨rfl,Ext.drewN _ _⟩
end Go.Proofs.YtcfgafododiioaaGreatDoor
namespace Go.Proofs.YtcfgafododiioaaGreatDoor
open Go Go.RowKit Go.Tum Go.ChangeMaps Go.Tum.Hp
abbrev noneV:Value:= .tuple #[.int .u64 0,.int .u64 0,.bool false]
def HTakeP (B:Nat) (w:World) (p mt mp:Nat) (At:UInt64→Option Int) (row:List UInt64) (v:Value) (now:Int) (e:Ending) (w':World):Prop:=
 ((row=[]∨∃x r,row=x::r∧now<tim At x)∧e= .returned noneV∧Ext w w')∨
 (∃x r,row=x::r∧tim At x≤now∧e= .returned (.tuple #[vU x,.int .u64 (tim At x),.bool true])∧∃row' v',(x::row').Perm row∧HB B w' p mt mp (delF At x) row' v'∧Below B w w'∧Turn w w' p mt mp v v')
set_option maxHeartbeats 1000000 in
theorem htake_any (B:Nat) (w:World) (p mt mp:Nat) (At:UInt64→Option Int) (row:List UInt64) (v:Value) (now:UInt64) (h:HB B w p mt mp At row v) (hl:row.length≤10000) (hB:B≤w.heap.size):
 Calls Tryz.prog 79 #[pv p,vU now] w fun e w'=>HTakeP B w p mt mp At row v (now.toNat:Int) e w':=by
 cases row with
 |nil=>
  go_enter Tryz.func79,Tryz.ntmps79
  go_wp2_with fail
  refine(hfirst_any B w p mt mp At _ v h).mono ?_
  rintro e w1 ⟨rfl,E1⟩
  rw[show fst At []= .tuple #[.int .u64 0,.int .u64 0,.bool false] from rfl]
  go_wp2
  go_returns
  exact .inl ⟨.inl rfl,rfl,E1⟩
 |cons x r=>
  obtain⟨t,ht⟩:∃t,tim At x=t:=⟨_,rfl⟩
  have hfs:fst At (x::r)= .tuple #[vU x,.int .u64 t,.bool true]:=by rw[←ht];rfl
  have HT:=hid ht
  by_cases hle:(now.toNat:Int)<t
  · have hd:decide ((now.toNat:Int)<t)=true:=by simpa using hle
    have HLE:=hid hle
    clear ht hle
    go_enter Tryz.func79,Tryz.ntmps79
    go_wp2_with fail
    refine(hfirst_any B w p mt mp At _ v h).mono ?_
    rintro e w1 ⟨rfl,E1⟩
    rw[hfs]
    go_wp2
    go_returns
    exact .inl ⟨.inr ⟨x,r,rfl,by rw[HT.out];exact HLE.out⟩,rfl,E1⟩
  · have hd:decide ((now.toNat:Int)<t)=false:=by simpa using hle
    have HLE:=hid hle
    clear ht hle
    go_enter Tryz.func79,Tryz.ntmps79
    go_wp2_with fail
    refine(hfirst_any B w p mt mp At _ v h).mono ?_
    rintro e w1 ⟨rfl,E1⟩
    rw[hfs]
    have h1:=h.ext E1
    have HE1:Hid (Below B w w1):=hid (Below.mono E1 hB)
    go_wp2_with fail
    refine(hdrop_any B w1 p mt mp At _ v x h1 hl (Nat.le_trans hB HE1.out.size)).mono ?_
    rintro e w2 ⟨-,h2⟩
    obtain⟨rfl,row',v',hpm,hH,hE,hN⟩:=h2 (by simp)
    have HE2:Hid (Below B w w2):=hid (HE1.out.trans hE)
    have HH:=hid hH
    have HPM:=hid hpm
    have HTN:=hid (turn_ext E1 hN)
    clear hpm hH hE h1 h hN
    go_wp2
    go_returns
    exact .inr ⟨x,r,rfl,by rw[HT.out];have:=HLE.out;omega,by rw[HT.out];rfl,row',v',HPM.out,HH.out,HE2.out,HTN.out⟩
end Go.Proofs.YtcfgafododiioaaGreatDoor
namespace Go.Proofs.YtcfgafododiioaaGreatDoor
open Go Go.RowKit Go.Tum Go.ChangeMaps
def ptr:Option Nat→Value
 |none=> .pointer none
 |some b=> .pointer (some ⟨b,0,none⟩)
def rdP:Value→Option (DU×List MemPlace)
 | .pointer none=>some (.nil,[])
 | .pointer (some ⟨b,0,none⟩)=>some (.lit (.int .i64 (b:Int)),[])
 |_=>none
theorem rdP_inv {v:Value} {ps:List MemPlace} (b:Option Nat) (h:rdP v=some ((match b with|none=> .nil|some b=> .lit (.int .i64 (b:Int))),ps)):v=ptr b:=by
 unfold rdP at h
 split at h
 · cases b<;>simp at h
   rfl
 · cases b<;>simp at h
   rename_i b0 b1
   obtain⟨h1,-⟩:=h
   have:b0=b1:=by omega
   subst this;rfl
 · simp at h
theorem lk_cons (a:UInt64) (b:Nat) (r:List (UInt64×Nat)) (y:UInt64):((a,b)::r).lookup y=if y=a then some b else r.lookup y:=by
 by_cases h:y=a
 · subst h;simp[List.lookup]
 · have:(y==a)=false:=by simp[h]
   simp[List.lookup,this,h]
def PM (w:World) (m:Nat) (l:List (UInt64×Nat)):Prop:=∃D:DU,w.ownsMap Tryz.prog 36 rdP m l.length D∧Maps.size D=l.length∧
 ∀x z,D.atKey (kU x) z=match l.lookup x with|none=>z|some b=> .lit (.int .i64 (b:Int))
theorem PM.has {w:World} {m:Nat} {l:List (UInt64×Nat)} {D:DU} (h:∀x z,D.atKey (kU x) z=match l.lookup x with|none=>z|some b=> .lit (.int .i64 (b:Int))) (x:UInt64):Maps.has D (kU x)=(l.lookup x).isSome:=by
 cases hx:l.lookup x with
 |none=>exact Maps.has_false_of_atKey fun z=>by rw[h,hx]
 |some b=>exact Maps.has_true_of_atKey (y:= .lit (.int .i64 (b:Int))) fun z=>by rw[h,hx]
theorem PM.made (w:World):PM (w.alloc (.map #[] 0)) w.heap.size []:=by
 refine⟨.map [],World.ownsMap_made w _ _ _,rfl,fun x z=> ?_⟩
 exact WideAt.atKey_none z (by simp)
theorem PM.look {w:World} {m:Nat} {l:List (UInt64×Nat)} (h:PM w m l) (x:UInt64):(Instr.lookup 229 (.map (some m)) (vU x) false).run Tryz.prog w= .ok (ptr (l.lookup x)) w:=by
 obtain⟨D,h1,h2,h3⟩:=h
 obtain⟨v,ps,hrun,hv⟩:=h1.lookup keyed64 Tryz.underlying229 (Tryz.zeroValue230 w) (zd:= .nil) (zp:=[]) rfl (kU_key x)
 rw[h3] at hv
 have:v=ptr (l.lookup x):=rdP_inv (l.lookup x) (by rw[hv])
 rw[←this];exact hrun
theorem PM.store {w:World} {m:Nat} {l:List (UInt64×Nat)} (h:PM w m l) (hl:l.length≤1048576) {x:UInt64} (hx:l.lookup x=none) (b:Nat):
 ∃w',(Instr.mapUpdate 229 (.map (some m)) (vU x) (.pointer (some ⟨b,0,none⟩))).run Tryz.prog w= .ok () w'∧PM w' m (l++[(x,b)])∧w.mapTurned w' m:=by
 obtain⟨D,h1,h2,h3⟩:=h
 obtain⟨w',hrun,r1,r2⟩:=h1.store keyed64 Tryz.underlying229 (by simp[maxLen];omega) (kU_key x) (show rdP (.pointer (some ⟨b,0,none⟩))=some (.lit (.int .i64 (b:Int)),[]) from rfl)
 refine⟨w',hrun,⟨_,by simpa using r1,?_,fun y z=> ?_⟩,r2⟩
 · rw[Maps.size_put (h1.tidy keyed64),PM.has (w:=w) (m:=m) h3 x,hx,h2];simp
 · rw[List.lookup_append]
   by_cases hy:y=x
   · subst hy
     rw[Maps.atKey_put_same h1.isMap (by simp[WideAt.IsKeyLit]),hx]
     simp
   · rw[Maps.atKey_put_other (kU_ne hy),h3]
     have:([(x,b)]:List (UInt64×Nat)).lookup y=none:=by rw[lk_cons,if_neg hy];rfl
     rw[this]
     cases l.lookup y<;>rfl
theorem lookup_filter (l:List (UInt64×Nat)) (x y:UInt64):(l.filter fun p=>p.1 !=x).lookup y=if y=x then none else l.lookup y:=by
 induction l with
 |nil=>simp
 |cons p r ih=>
  obtain⟨a,b⟩:=p
  by_cases h1:a=x
  · subst h1
    simp only[List.filter_cons,bne_self_eq_false,Bool.false_eq_true,if_false,ih]
    rw[lk_cons]
    by_cases h2:y=a
    · rw[if_pos h2,if_pos h2]
    · rw[if_neg h2,if_neg h2,if_neg h2]
  · have:(a !=x)=true:=by simp[h1]
    simp only[List.filter_cons,this,if_true]
    rw[lk_cons,lk_cons,ih]
    by_cases h2:y=x
    · subst h2;rw[if_neg (Ne.symm h1),if_pos rfl,if_pos rfl]
    · rw[if_neg h2,if_neg h2]
theorem PM.del {w:World} {m:Nat} {l:List (UInt64×Nat)} (h:PM w m l) {x:UInt64} (hx:(l.lookup x).isSome=true) (hn:(l.filter fun p=>p.1 !=x).length+1=l.length) (ty:TypeId):
 ∃w',(Builtin.delete_ #[229,36] ty #[.map (some m),vU x]).run Tryz.prog w= .ok (.tuple #[]) w'∧PM w' m (l.filter fun p=>p.1 !=x)∧w.mapTurned w' m:=by
 obtain⟨D,h1,h2,h3⟩:=h
 obtain⟨w',hrun,r1,r2⟩:=h1.drop keyed64 Tryz.underlying229 (kU_key x) ty
 have hsz:Maps.size (D.del (kU x))=(l.filter fun p=>p.1 !=x).length:=by
  have:=Maps.size_del (h1.tidy keyed64) (k:=kU x)
  rw[PM.has (w:=w) (m:=m) h3 x,hx,h2] at this
  simp at this;omega
 refine⟨w',hrun,⟨_,?_,hsz,fun y z=> ?_⟩,r2⟩
 · obtain⟨es,c,e1,e2,e3,e4⟩:=r1
   refine⟨es,c,e1,e2,?_,e4⟩
   rw[←hsz,e4]
   simp[Maps.size,length_sorted]
 · rw[lookup_filter]
   by_cases hy:y=x
   · subst hy;rw[Maps.atKey_del_same,if_pos rfl]
   · rw[Maps.atKey_del_other (kU_ne hy),if_neg hy,h3]
theorem PM.fr {S:List Nat} {w w':World} {m:Nat} {l:List (UInt64×Nat)} (h:PM w m l) (k:Fr S w w') (hm:m∉S):PM w' m l:=by
 obtain⟨D,⟨es,c,h1,h4,h5,h6⟩,h2,h3⟩:=h
 exact⟨D,⟨es,c,(k.block m (Array.getElem?_eq_some_iff.1 h1).1 hm).trans h1,h4,h5,h6⟩,h2,h3⟩
theorem PM.block {w:World} {m:Nat} {l:List (UInt64×Nat)} (h:PM w m l):∃es c,w.heap[m]? =some (.map es c):=by
 obtain⟨D,⟨es,c,h1,_⟩,_⟩:=h
 exact⟨es,c,h1⟩
def hdB:List (UInt64×Nat)→Option Nat
 |[]=>none
 |p::_=>some p.2
def lsB:List (UInt64×Nat)→Option Nat
 |[]=>none
 |p::r=>(lsB r).or (some p.2)
theorem lsB_snoc:∀(l:List (UInt64×Nat)) (x:UInt64) (b:Nat),lsB (l++[(x,b)])=some b
 |[],_,_=>rfl
 |p::r,x,b=>by simp only[List.cons_append,lsB,lsB_snoc r x b];rfl
theorem hdB_append (l r:List (UInt64×Nat)):hdB (l++r)=(hdB l).or (hdB r):=by cases l<;>simp[hdB]
abbrev linkO (x:UInt64) (p q:Option Nat):Obj:= .cells #[vU x,ptr p,ptr q] 236 (0,0)
def ChL (w:World):Option Nat→List (UInt64×Nat)→Option Nat→Prop
 |_,[],_=>True
 |pv,(x,b)::r,nx=>w.heap[b]? =some (linkO x pv ((hdB r).or nx))∧ChL w (some b) r nx
theorem ChL.fr {S:List Nat} {w w':World} (k:Fr S w w'):∀{l:List (UInt64×Nat)} {pv nx:Option Nat},ChL w pv l nx→(∀p∈l,p.2∉S)→ChL w' pv l nx
 |[],_,_,_,_=>trivial
 |(x,b)::r,pv,nx,h,hs=>⟨(k.block b (Array.getElem?_eq_some_iff.1 h.1).1 (hs (x,b) (by simp))).trans h.1,ChL.fr k h.2 fun p hp=>hs p (List.mem_cons_of_mem _ hp)⟩
theorem ChL.append {w:World}:∀{l r:List (UInt64×Nat)} {pv nx:Option Nat},ChL w pv (l++r) nx↔ChL w pv l ((hdB r).or nx)∧ChL w ((lsB l).or pv) r nx
 |[],r,pv,nx=>by simp[ChL,lsB]
 |(x,b)::l,r,pv,nx=>by
  have ih:=ChL.append (w:=w) (l:=l) (r:=r) (pv:=some b) (nx:=nx)
  simp only[List.cons_append,ChL]
  have e1:(hdB (l++r)).or nx=(hdB l).or ((hdB r).or nx):=by cases l<;>simp[hdB]
  have e2:(lsB ((x,b)::l)).or pv=(lsB l).or (some b):=by simp only[lsB];cases lsB l<;>rfl
  rw[ih,e1,e2,and_assoc]
theorem ChL.mem {w:World}:∀{l:List (UInt64×Nat)} {pv nx:Option Nat},ChL w pv l nx→∀p∈l,∃q r,w.heap[p.2]? =some (linkO p.1 q r)
 |[],_,_,_,p,h=>absurd h (by simp)
 |(x,b)::l,_,_,h,p,hp=>by
  rcases List.mem_cons.1 hp with rfl|hp
  · exact⟨_,_,h.1⟩
  · exact ChL.mem h.2 p hp
theorem ChL.setBehind {w:World} {l:List (UInt64×Nat)} {y:UInt64} {c:Nat} {pv nx:Option Nat} (nx':Option Nat) (h:ChL w pv (l++[(y,c)]) nx) (hc:∀p∈l,p.2≠c):ChL (w.setCell ⟨c,2,none⟩ (ptr nx')) pv (l++[(y,c)]) nx':=by
 rw[ChL.append] at h⊢
 refine⟨ChL.fr (fr_setCell (S:=[c]) w _ _ (by simp)) (by simpa[hdB] using h.1) (fun p hp=>by simpa using hc p hp),?_,trivial⟩
 have:=Go.Joins.block_setCell (i:=2) h.2.1 (ptr nx')
 simpa[hdB] using this
theorem ChL.setAhead {w:World} {l:List (UInt64×Nat)} {y:UInt64} {c:Nat} {pv nx:Option Nat} (pv':Option Nat) (h:ChL w pv ((y,c)::l) nx) (hc:∀p∈l,p.2≠c):ChL (w.setCell ⟨c,1,none⟩ (ptr pv')) pv' ((y,c)::l) nx:=by
 refine⟨?_,ChL.fr (fr_setCell (S:=[c]) w _ _ (by simp)) h.2 (fun p hp=>by simpa using hc p hp)⟩
 have:=Go.Joins.block_setCell (i:=1) h.1 (ptr pv')
 simpa using this
abbrev laneO (m:Nat) (l:List (UInt64×Nat)):Obj:= .cells #[.map (some m),ptr (hdB l),ptr (lsB l)] 232 (0,0)
structure Lane (w:World) (p m:Nat) (l:List (UInt64×Nat)):Prop where
 hd:w.heap[p]? =some (laneO m l)
 mp:PM w m l
 ch:ChL w none l none
 ni:(l.map (·.1)).Nodup
 nb:(l.map (·.2)).Nodup
abbrev ids (l:List (UInt64×Nat)):List UInt64:=l.map (·.1)
abbrev Bl (p m:Nat) (l:List (UInt64×Nat)):List Nat:=p::m::l.map (·.2)
theorem Lane.fr {S:List Nat} {w w':World} {p m:Nat} {l:List (UInt64×Nat)} (h:Lane w p m l) (k:Fr S w w') (hs:∀x∈Bl p m l,x∉S):Lane w' p m l:=
 ⟨(k.block p (Array.getElem?_eq_some_iff.1 h.hd).1 (hs p (by simp))).trans h.hd,h.mp.fr k (hs m (by simp)),h.ch.fr k fun q hq=>hs q.2 (by simp;exact .inr (.inr ⟨q.1,hq⟩)),h.ni,h.nb⟩
theorem Lane.ext {w w':World} {p m:Nat} {l:List (UInt64×Nat)} (h:Lane w p m l) (k:Ext w w'):Lane w' p m l:=h.fr (S:=[]) (Ext.fr k) (by simp)
theorem Lane.p_ne_m {w:World} {p m:Nat} {l:List (UInt64×Nat)} (h:Lane w p m l):p≠m:=by
 rintro rfl
 obtain⟨es,c,h1⟩:=h.mp.block
 rw[h.hd] at h1;cases h1
theorem Lane.p_ne {w:World} {p m:Nat} {l:List (UInt64×Nat)} (h:Lane w p m l):∀q∈l,q.2≠p:=by
 intro q hq e
 obtain⟨a,b,h1⟩:=h.ch.mem q hq
 rw[e,h.hd] at h1
 simp at h1
theorem Lane.m_ne {w:World} {p m:Nat} {l:List (UInt64×Nat)} (h:Lane w p m l):∀q∈l,q.2≠m:=by
 intro q hq e
 obtain⟨a,b,h1⟩:=h.ch.mem q hq
 obtain⟨es,c,h2⟩:=h.mp.block
 rw[e,h2] at h1
 cases h1
theorem Lane.lt {w:World} {p m:Nat} {l:List (UInt64×Nat)} (h:Lane w p m l):∀x∈Bl p m l,x<w.heap.size:=by
 intro x hx
 simp only[List.mem_cons,List.mem_map] at hx
 rcases hx with rfl|rfl|⟨q,hq,rfl⟩
 · exact(Array.getElem?_eq_some_iff.1 h.hd).1
 · obtain⟨es,c,h2⟩:=h.mp.block
   exact(Array.getElem?_eq_some_iff.1 h2).1
 · obtain⟨a,b,h1⟩:=h.ch.mem q hq
   exact(Array.getElem?_eq_some_iff.1 h1).1
theorem lookup_none {l:List (UInt64×Nat)} {x:UInt64}:l.lookup x=none↔x∉ids l:=by
 induction l with
 |nil=>simp
 |cons p r ih=>
  obtain⟨a,b⟩:=p
  by_cases h:x=a
  · subst h;rw[lk_cons];simp
  · rw[lk_cons,if_neg h,ih];simp[h]
end Go.Proofs.YtcfgafododiioaaGreatDoor
namespace Go.Proofs.YtcfgafododiioaaGreatDoor
open Go Go.RowKit Go.Tum Go.ChangeMaps
theorem new_any (w:World):Calls Tryz.prog 124 #[] w fun e w'=>∃p m,e= .returned (pv p)∧Lane w' p m []∧Ext w w'∧w.heap.size≤p∧w.heap.size≤m:=by
 have hmm:= @run_makeMap Tryz.prog
 go_enter Tryz.func124,Tryz.ntmps124
 go_wp2
 go_ret
 refine⟨w.heap.size+1,w.heap.size,rfl,⟨?_,?_,trivial,by simp,by simp⟩,(Ext.alloc _ _).trans (Ext.alloc _ _),by omega,by omega⟩
 · have:=heap_alloc_new (w.alloc (.map #[] 0)) (laneO w.heap.size [])
   rw[World.size_alloc] at this
   exact this
 · exact(PM.made w).fr (S:=[]) (Ext.fr (Ext.alloc _ _)) (by simp)
theorem has_any (w:World) (p m:Nat) (l:List (UInt64×Nat)) (x:UInt64) (h:Lane w p m l):
 Calls Tryz.prog 192 #[pv p,vU x] w fun e w'=>e= .returned (.bool (decide (x∈ids l)))∧w=w':=by
 obtain⟨c0,c1,c2,-⟩:=lk3 h.hd
 have hlk:=h.mp.look x
 cases hx:l.lookup x with
 |none=>
  rw[hx] at hlk
  have hn:decide (x∈ids l)=false:=by simpa using lookup_none.1 hx
  have HN:=hid hn
  simp only[ptr] at hlk
  clear hx hn c1 c2
  go_enter Tryz.func192,Tryz.ntmps192
  go_wp2
  go_ret
  exact⟨by rw[HN.out];rfl,rfl⟩
 |some b=>
  rw[hx] at hlk
  have hn:decide (x∈ids l)=true:=by
   rw[decide_eq_true_eq]
   refine Classical.byContradiction fun h2=> ?_
   rw[lookup_none.2 h2] at hx;cases hx
  have HN:=hid hn
  simp only[ptr] at hlk
  clear hx hn c1 c2
  go_enter Tryz.func192,Tryz.ntmps192
  go_wp2
  go_ret
  exact⟨by rw[HN.out];rfl,rfl⟩
theorem lane_end {w1 w':World} {p m:Nat} {l':List (UInt64×Nat)} (hT:w1.mapTurned w' m) (hp:p≠m) (hne:∀q∈l',q.2≠m) (hd:w1.heap[p]? =some (laneO m l')) (hm:PM w' m l') (hc:ChL w1 none l' none)
 (h1:(l'.map (·.1)).Nodup) (h2:(l'.map (·.2)).Nodup):Lane w' p m l':=by
 have k:=fr_turned (S:=[m]) hT (by simp)
 exact⟨(k.block p (Array.getElem?_eq_some_iff.1 hd).1 (by simpa using hp)).trans hd,hm,hc.fr k (fun q hq=>by simpa using hne q hq),h1,h2⟩
def PutP (w:World) (p m:Nat) (l:List (UInt64×Nat)) (x:UInt64) (e:Ending) (w':World):Prop:=
 e= .returned (.bool (decide (x∉ids l)))∧∃l',Lane w' p m l'∧ids l'=(if x∈ids l then ids l else ids l++[x])∧Fr (Bl p m l) w w'∧(∀q∈l',q∈l∨w.heap.size≤q.2)
set_option maxHeartbeats 1000000 in
theorem put_any (w:World) (p m:Nat) (l:List (UInt64×Nat)) (x:UInt64) (h:Lane w p m l) (hl:l.length≤1000000):
 Calls Tryz.prog 166 #[pv p,vU x] w (PutP w p m l x):=by
 have H:=hid h
 have hch:=has_any w p m l x h
 by_cases hx:x∈ids l
 · rw[decide_eq_true hx] at hch
   have HX:=hid hx
   clear h hx
   go_enter Tryz.func166,Tryz.ntmps166
   go_wp2_with fail
   refine hch.mono ?_
   rintro e w1 ⟨rfl,rfl⟩
   clear hch
   go_wp2
   go_ret
   unfold PutP
   have hx:=HX.out
   exact⟨by rw[show decide (x∉ids l)=false by simpa using hx];rfl,l,H.out,by rw[if_pos hx],Fr.refl _ _,fun q hq=> .inl hq⟩
 · rw[decide_eq_false hx] at hch
   have HX:=hid hx
   have hlk:=lookup_none.2 hx
   have hfresh:∀q∈l,q.2≠w.heap.size:=fun q hq e=>by
    have:=h.lt q.2 (by simp;exact .inr (.inr ⟨q.1,hq⟩))
    omega
   have hpl:p<w.heap.size:=h.lt p (by simp)
   have hml:m<w.heap.size:=h.lt m (by simp)
   have hpm:=h.p_ne_m
   have hmne:=h.m_ne
   have hpne:=h.p_ne
   have hni:=h.ni
   have hnb:=h.nb
   clear hx
   rcases List.eq_nil_or_concat l with hl0|⟨l0,⟨y,c⟩,hl0⟩
   · subst hl0
     obtain⟨c0,c1,c2,f0,f1,f2⟩:=lk3 h.hd
     simp only[lsB,hdB,ptr] at c0 c1 c2
     obtain⟨V,hV⟩:∃V,((w.setCell ⟨p,1,none⟩ (pv w.heap.size)).setCell ⟨p,2,none⟩ (pv w.heap.size)).alloc (.cells #[vU x,.pointer none,.pointer none] 236)=V:=⟨_,rfl⟩
     have hfr:Fr [p,m] w V:=by
      rw[←hV]
      exact((fr_setCell (S:=[p,m]) w ⟨p,1,none⟩ (pv w.heap.size) (by simp)).trans (fr_setCell _ ⟨p,2,none⟩ (pv w.heap.size) (by simp))).trans (Ext.fr (Ext.alloc _ _))
     have hfr2:Fr [p] w V:=by
      rw[←hV]
      exact((fr_setCell (S:=[p]) w ⟨p,1,none⟩ (pv w.heap.size) (by simp)).trans (fr_setCell _ ⟨p,2,none⟩ (pv w.heap.size) (by simp))).trans (Ext.fr (Ext.alloc _ _))
     obtain⟨w',hrun,hPM,hT⟩:=(h.mp.fr hfr2 (by simpa using hpm.symm)).store (by simp) hlk w.heap.size
     have hd1:V.heap[p]? =some (laneO m [(x,w.heap.size)]):=by
      rw[←hV]
      refine(Ext.alloc _ _).obj ?_
      have:=Go.Joins.block_setCell (i:=2) (Go.Joins.block_setCell (i:=1) h.hd (pv w.heap.size)) (pv w.heap.size)
      simpa[laneO,hdB,lsB,ptr] using this
     have hb1:V.heap[w.heap.size]? =some (linkO x none none):=by
      rw[←hV]
      have:=heap_alloc_new ((w.setCell ⟨p,1,none⟩ (pv w.heap.size)).setCell ⟨p,2,none⟩ (pv w.heap.size)) (.cells #[vU x,.pointer none,.pointer none] 236)
      simpa[linkO,ptr] using this
     rw[←hV] at hrun
     have HF:=hid (And.intro hPM (And.intro hT (And.intro hd1 (And.intro hb1 hfr))))
     clear hPM hT hd1 hb1 hfr hfr2 hV
     go_enter Tryz.func166,Tryz.ntmps166
     go_wp2_with fail
     refine hch.mono ?_
     rintro e w1 ⟨rfl,rfl⟩
     clear hch
     go_wp2
     go_ret
     unfold PutP
     obtain⟨hPM,hT,hd1,hb1,hfr⟩:=HF.out
     refine⟨rfl,[(x,w.heap.size)],lane_end hT hpm (by simpa using Nat.ne_of_gt hml) hd1 (by simpa using hPM) ⟨by simpa[hdB] using hb1,trivial⟩ (by simp) (by simp),by simp,(hfr.trans (fr_turned hT (by simp))),by simp⟩
   · rw[List.concat_eq_append] at hl0
     subst hl0
     have hls:lsB (l0++[(y,c)])=some c:=lsB_snoc l0 y c
     obtain⟨c0,c1,c2,f0,f1,f2⟩:=lk3 h.hd
     rw[hls] at c2
     simp only[ptr] at c2
     have hcp:c≠p:=hpne (y,c) (by simp)
     have hcm:c≠m:=hmne (y,c) (by simp)
     have hcl:c<w.heap.size:=h.lt c (by simp)
     have hch2:=ChL.append.1 h.ch
     obtain⟨k0,k1,k2,g0,g1,g2⟩:=lk3 hch2.2.1
     simp only[hdB,Option.or_none,Option.none_or,ptr] at k2
     have hcnd:∀q∈l0,q.2≠c:=by
      intro q hq e
      rw[List.map_append,List.map_cons,List.map_nil,List.nodup_append] at hnb
      exact hnb.2.2 q.2 (List.mem_map.2 ⟨q,hq,rfl⟩) c (by simp) e
     obtain⟨V,hV⟩:∃V,((w.setCell ⟨c,2,none⟩ (pv w.heap.size)).setCell ⟨p,2,none⟩ (pv w.heap.size)).alloc (.cells #[vU x,pv c,.pointer none] 236)=V:=⟨_,rfl⟩
     have hfr:Fr (Bl p m (l0++[(y,c)])) w V:=by
      rw[←hV]
      exact((fr_setCell w ⟨c,2,none⟩ (pv w.heap.size) (by simp)).trans (fr_setCell _ ⟨p,2,none⟩ (pv w.heap.size) (by simp))).trans (Ext.fr (Ext.alloc _ _))
     have hfr2:Fr [c,p] w V:=by
      rw[←hV]
      exact((fr_setCell w ⟨c,2,none⟩ (pv w.heap.size) (by simp)).trans (fr_setCell _ ⟨p,2,none⟩ (pv w.heap.size) (by simp))).trans (Ext.fr (Ext.alloc _ _))
     obtain⟨w',hrun,hPM,hT⟩:=(h.mp.fr hfr2 (by simp;exact⟨hcm.symm,hpm.symm⟩)).store (by omega) hlk w.heap.size
     have hd1:V.heap[p]? =some (laneO m ((l0++[(y,c)])++[(x,w.heap.size)])):=by
      rw[←hV]
      refine(Ext.alloc _ _).obj ?_
      have h1:(w.setCell ⟨c,2,none⟩ (pv w.heap.size)).heap[p]? =_:=(heap_setCell_other _ _ _ _ (by dsimp only;exact hcp.symm)).trans h.hd
      have:=Go.Joins.block_setCell (i:=2) h1 (pv w.heap.size)
      have e1:hdB (l0++[(y,c)]++[(x,w.heap.size)])=hdB (l0++[(y,c)]):=by cases l0<;>rfl
      unfold laneO
      rw[e1,lsB_snoc]
      simpa[ptr] using this
     have hb1:V.heap[w.heap.size]? =some (linkO x (some c) none):=by
      rw[←hV]
      have:=heap_alloc_new ((w.setCell ⟨c,2,none⟩ (pv w.heap.size)).setCell ⟨p,2,none⟩ (pv w.heap.size)) (.cells #[vU x,pv c,.pointer none] 236)
      simpa[linkO,ptr] using this
     have hc1:ChL V none (l0++[(y,c)]) (some w.heap.size):=by
      rw[←hV]
      have h1:=ChL.setBehind (some w.heap.size) h.ch hcnd
      have h2:=ChL.fr (fr_setCell (S:=[p]) _ ⟨p,2,none⟩ (pv w.heap.size) (by simp)) h1 (fun q hq=>by simpa using hpne q hq)
      exact ChL.fr (S:=[]) (Ext.fr (Ext.alloc _ _)) h2 (by simp)
     rw[←hV] at hrun
     have hni2:(((l0++[(y,c)])++[(x,w.heap.size)]).map (·.1)).Nodup:=by
      rw[List.map_append,List.nodup_append]
      refine⟨hni,by simp,fun a ha b hb e=> ?_⟩
      simp only[List.map_cons,List.map_nil,List.mem_singleton] at hb
      subst hb;subst e
      exact HX.out ha
     have hnb2:(((l0++[(y,c)])++[(x,w.heap.size)]).map (·.2)).Nodup:=by
      rw[List.map_append,List.nodup_append]
      refine⟨hnb,by simp,fun a ha b hb e=> ?_⟩
      simp only[List.map_cons,List.map_nil,List.mem_singleton] at hb
      subst hb;subst e
      obtain⟨q,hq,e⟩:=List.mem_map.1 ha
      exact hfresh q hq e
     have hmn2:∀q∈(l0++[(y,c)])++[(x,w.heap.size)],q.2≠m:=by
      intro q hq
      rcases List.mem_append.1 hq with hq|hq
      · exact hmne q hq
      · simp at hq;subst hq;exact Nat.ne_of_gt hml
     have HF:=hid (And.intro hPM (And.intro hT (And.intro hd1 (And.intro hb1 (And.intro hc1 (And.intro hfr (And.intro hni2 (And.intro hnb2 hmn2))))))))
     clear hPM hT hd1 hb1 hfr hfr2 hV hc1 hni2 hnb2 hmn2 hnb hni hmne hpne hcnd hfresh hch2 hls
     go_enter Tryz.func166,Tryz.ntmps166
     go_wp2_with fail
     refine hch.mono ?_
     rintro e w1 ⟨rfl,rfl⟩
     clear hch
     go_wp2
     go_ret
     unfold PutP
     obtain⟨hPM,hT,hd1,hb1,hc1,hfr,hni2,hnb2,hmn2⟩:=HF.out
     have hx:=HX.out
     refine⟨by rw[decide_eq_true hx];rfl,_,lane_end hT hpm hmn2 hd1 hPM (ChL.append.2 ⟨by simpa[hdB] using hc1,by simpa[hdB,lsB_snoc] using hb1,trivial⟩) hni2 hnb2,by rw[if_neg hx];simp,(hfr.trans (fr_turned hT (by simp))),fun q hq=> ?_⟩
     rcases List.mem_append.1 hq with hq|hq
     · exact .inl hq
     · simp at hq;subst hq;exact .inr (Nat.le_refl _)
end Go.Proofs.YtcfgafododiioaaGreatDoor
