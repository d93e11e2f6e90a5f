/- For every input the law IndexTicks returns true and leaves what was there as it was; no condition but the sizes of the row. -/
import Derived.Test.YtcfgafododiioaaGreatDoorC45
import Derived.Test.YtcfgafododiioaaGreatDoorC44
import Derived.Test.YtcfgafododiioaaGreatDoorC33
import Derived.Laws.Rows
import Derived.Laws.Tables
import Derived.Test.YtcfgafododiioaaGreatDoorCards
import Derived.Test.YtcfgafododiioaaGreatDoorTie
import Derived.WalkKit
import Derived.ProofKit
import Derived.OpenShut
import Derived.Below
import Derived.Deep.DeepHandedRow
import Derived.SizedLaws
import Derived.Lib.LaidU8
import Derived.Deep.DeepLaidRun
import Derived.ShutString
import Derived.Test.YtcfgafododiioaaGreatDoorC1
import Derived.Lib.SmallJoins
set_option linter.unusedSimpArgs false
set_option linter.unusedVariables false
set_option maxRecDepth 100000
namespace Go.Proofs.YtcfgafododiioaaGreatDoor
open Go Go.RowKit Go.Tum Go.ChangeMaps Go.Sort
open Go.ParB (upd Lof)
open Go.ParE (putS slotsR slots Closed)
set_option maxHeartbeats 2000000 in
theorem isame_eq {w:World} {a:An} {u v:Value} (hu:Vec uv w u a.ids) (hv:Vec uv w v a.ids):
 Calls Tryz.prog 18 #[anV a u,anV a v] w fun e w'=>e= .returned (.bool true)∧Ext w w':=by
 obtain⟨E,Id,⟨id,la,st,ct,du,tk,tu,sg,ps,sz⟩,Many,Is,Ids⟩:=a
 obtain⟨W1,hW1⟩:∃W,w.alloc (.cells #[.int .i64 E,vU Id,vU id,.int .i64 la,.int .i64 st,.int .i64 ct,vU du,vU tk,vU tu,vU sg,vU ps,.int .i64 sz,.int .i64 Many,.bool Is,u] 49 (0,0))=W:=⟨_,rfl⟩
 obtain⟨W2,hW2⟩:∃W,W1.alloc (.cells #[.int .i64 E,vU Id,vU id,.int .i64 la,.int .i64 st,.int .i64 ct,vU du,vU tk,vU tu,vU sg,vU ps,.int .i64 sz,.int .i64 Many,.bool Is,v] 49 (0,0))=W:=⟨_,rfl⟩
 have e1:Ext w W1:=by rw[←hW1];exact Ext.alloc _ _
 have e2:Ext W1 W2:=by rw[←hW2];exact Ext.alloc _ _
 have b1:=e2.obj (show W1.heap[w.heap.size]? =some (.cells #[.int .i64 E,vU Id,vU id,.int .i64 la,.int .i64 st,.int .i64 ct,vU du,vU tk,vU tu,vU sg,vU ps,.int .i64 sz,.int .i64 Many,.bool Is,u] 49 (0,0)) by rw[←hW1];exact heap_alloc_new _ _)
 have b2:W2.heap[W1.heap.size]? =some (.cells #[.int .i64 E,vU Id,vU id,.int .i64 la,.int .i64 st,.int .i64 ct,vU du,vU tk,vU tu,vU sg,vU ps,.int .i64 sz,.int .i64 Many,.bool Is,v] 49 (0,0)):=by rw[←hW2];exact heap_alloc_new _ _
 obtain⟨x0,x1,x2,x3,x4,x5,x6,x7,x8,x9,x10,x11,x12,x13,x14,-⟩:=blk15 b1
 obtain⟨y0,y1,y2,y3,y4,y5,y6,y7,y8,y9,y10,y11,y12,y13,y14,-⟩:=blk15 b2
 have HX:=hid (e1.trans e2)
 have HU:=hid (hu.ext (e1.trans e2))
 have HV:=hid (hv.ext (e1.trans e2))
 clear e1 e2 b1 b2 hu hv
 go_enter Tryz.func18,Tryz.ntmps18
 go_wp2_with fail
 clear hW1 hW2 x0 x1 x2 x3 x4 x5 x6 x7 x8 x9 x10 x11 x12 x13 x14 y0 y1 y2 y3 y4 y5 y6 y7 y8 y9 y10 y11 y12 y13 y14
 refine(rsame64_any u v Ids Ids W2 HU.out HV.out).mono ?_
 rintro e w3 ⟨rfl,hx⟩
 have hb:(Ids==Ids)=true:=by simp
 go_wp2
 go_returns
 exact⟨rfl,HX.out.trans hx⟩
end Go.Proofs.YtcfgafododiioaaGreatDoor
set_option maxRecDepth 100000
namespace Go.Proofs.YtcfgafododiioaaGreatDoor
open Go Go.RowKit Go.Tum Go.ChangeMaps Go.Sort
theorem IX.bs {B:Nat} {w:World} {p:Nat} {x:XP} {q:QR} (h:IX B w p x q):B≤w.heap.size:=by
 have:=h.blk_lo p (XP.mem_blk.2 ⟨0,by decide,by simp[XP.comp]⟩)
 omega
structure I2 (B:Nat) (w:World) (p:Nat) (x:XP) (q:QR) (p2:Nat) (y:XP) (r:QR):Prop where
 a:IX B w p x q
 b:IX B w p2 y r
 ap:∀c∈x.blk p,c∉y.blk p2
section
variable {B : Nat} {w w' : World} {p p2 : Nat} {x y : XP} {q r : QR}
theorem I2.ext (h:I2 B w p x q p2 y r) (k:Ext w w'):I2 B w' p x q p2 y r:=⟨h.a.ext k,h.b.ext k,h.ap⟩
theorem I2.symm (h:I2 B w p x q p2 y r):I2 B w p2 y r p x q:=⟨h.b,h.a,fun c hc hm=>h.ap c hm hc⟩
theorem IX.off_fr (h:IX B w p2 y r) {S:List Nat} (f:Fr S w w') (hs:∀c∈S,c∉y.blk p2):IX B w' p2 y r:=
 h.fr f fun i hi a ha hm=>hs a hm (XP.mem_blk.2 ⟨i,hi,ha⟩)
theorem I2.left (h:I2 B w p x q p2 y r) {q':QR} (s:XStp B w p x q' w'):∃x',I2 B w' p x' q' p2 y r∧Fr (x.blk p) w w'∧(∀a∈x'.blk p,a∈x.blk p∨w.heap.size≤a):=by
 obtain⟨x',i,f,n⟩:=s
 refine⟨x',⟨i,h.b.off_fr f h.ap,fun c hc hm=> ?_⟩,f,n⟩
 rcases n c hc with k|k
 · exact h.ap c k hm
 · have:=(h.b.blk_lo c hm).2
   omega
theorem I2.right (h:I2 B w p x q p2 y r) {r':QR} (s:XStp B w p2 y r' w'):∃y',I2 B w' p x q p2 y' r'∧Fr (y.blk p2) w w'∧(∀a∈y'.blk p2,a∈y.blk p2∨w.heap.size≤a):=by
 obtain⟨y',i,f,n⟩:=h.symm.left s
 exact⟨y',i.symm,f,n⟩
theorem I2.made {w1:World} (h:IX B w p x q) (k:IX w.heap.size w1 p2 y r) (e:Ext w w1) (hB:B≤w.heap.size):I2 B w1 p x q p2 y r:=
 ⟨h.ext e,k.lower hB,fun c hc hm=>by have:=(h.blk_lo c hc).2;have:=(k.blk_lo c hm).1;omega⟩
end
def SrX (s:SR) (V:Value) (w:World):Prop:=∃b vi vd vc,V=srV s vi vd vc∧SrO b w s vi vd vc
def RsX (s:SR) (V:Value) (w:World):Prop:=∃b x y z,V=srV s x y z∧RSt b w s x y z
theorem SrX.ext {s:SR} {V:Value} {w w':World} (h:SrX s V w) (k:Ext w w'):SrX s V w':=by
 obtain⟨b,vi,vd,vc,e,h⟩:=h
 exact⟨b,vi,vd,vc,e,h.ext k⟩
theorem RsX.ext {s:SR} {V:Value} {w w':World} (h:RsX s V w) (k:Ext w w'):RsX s V w':=by
 obtain⟨b,x,y,z,e,h⟩:=h
 exact⟨b,x,y,z,e,h.ext k⟩
theorem st_val {B n:Nat} {w:World} {p:Nat} {x:XP} {q:QR} (h:IX B w p x q) (hq:XQ n q) (ht:TB w) {s:SR} (hs:stateQ q=s):
 Calls Tryz.prog 23 #[pv p] w fun e w'=>(∃V,e= .returned V∧SrX s V w')∧Ext w w':=
 (st_any h hq ht hs).mono fun e w' ⟨⟨vi,vd,vc,he,ho⟩,hx⟩=>⟨⟨_,he,_,vi,vd,vc,rfl,ho⟩,hx⟩
theorem lst_val {w:World} {s:SR} {V:Value} (h:SrX s V w) (hs:SmS s):
 Calls Tryz.prog 22 #[V] w fun e w'=>(∃V',e= .returned V'∧RsX s V' w')∧Ext w w':=by
 obtain⟨b,vi,vd,vc,rfl,ho⟩:=h
 exact(lst_any ho hs).mono fun e w' ⟨⟨x,y,z,he,hr⟩,hx⟩=>⟨⟨_,he,_,x,y,z,rfl,hr⟩,hx⟩
theorem rsame_val {w:World} {s:SR} {U V:Value} (h:RsX s U w) (k:RsX s V w) (hs:SmS s):
 Calls Tryz.prog 21 #[U,V] w fun e w'=>e= .returned (.bool true)∧Ext w w':=by
 obtain⟨b,x,y,z,rfl,hr⟩:=h
 obtain⟨b2,x2,y2,z2,rfl,hr2⟩:=k
 exact rsame11_eq hr hr2 (by have:=hs.it;omega)
def FrmX (B n:Nat) (q:QR) (X:Nat) (w:World):Prop:=∃y r,IX B w X y r∧MadeR n q.lanes q.pay q.del (stateQ q) r
theorem FrmX.ext {B n:Nat} {q:QR} {X:Nat} {w w':World} (h:FrmX B n q X w) (k:Ext w w'):FrmX B n q X w':=by
 obtain⟨y,r,a,b⟩:=h
 exact⟨y,r,a.ext k,b⟩
theorem FrmX.low {B B' n:Nat} {q:QR} {X:Nat} {w:World} (h:FrmX B n q X w) (k:B'≤B):FrmX B' n q X w:=by
 obtain⟨y,r,a,b⟩:=h
 exact⟨y,r,a.lower k,b⟩
theorem from_val {n:Nat} {w:World} {q:QR} {V:Value} (hs:XQ n q) (hn:n≤4611686018427387904) (h:SrX (stateQ q) V w) (ht:TB w):
 Calls Tryz.prog 28 #[ccV q.lanes q.pay q.del,V] w fun e w'=>(∃X,e= .returned (.tuple #[pv X,.int .i64 0])∧FrmX w.heap.size n q X w')∧Ext w w':=by
 obtain⟨b,vi,vd,vc,rfl,h⟩:=h
 obtain⟨o1,k1,rfl⟩:=row_shape h.it
 obtain⟨o2,k2,rfl⟩:=row_shape h.dd
 obtain⟨o3,k3,rfl⟩:=row_shape h.cu
 refine(ifrom_any n q.lanes q.pay q.del (Sl.of_owns h.it) (Sl.of_owns h.dd) (Sl.of_owns h.cu) ht (by have:=dead_len hs.wi.wq hs.wi.wd;omega) (state_curs hs.wi.wd) (fun _=>⟨hs.wi.lo.le,hs.wi.lo.tu,hs.wi.lo.de⟩)).mono ?_
 rintro e w' ⟨hf,hx⟩
 rw[state_ok hs hn,hs.wi.wq.right,if_pos (by rfl)] at hf
 obtain⟨X,x,r,rfl,hI,hM⟩:=hf
 exact⟨⟨X,rfl,x,r,hI,hM⟩,hx⟩
end Go.Proofs.YtcfgafododiioaaGreatDoor
namespace Go.Proofs.YtcfgafododiioaaGreatDoor
open Go Go.RowKit Go.Tum Go.ChangeMaps Go.Sort
theorem leastI_eq {l:List It} {z:It} (hz:z∈l) (h:∀y∈l,ltW y z=false) (hu:∀y∈l,y.id=z.id→y=z):leastI l=some z:=by
 cases hl:leastI l with
 |none=>rw[leastI_none.1 hl] at hz;simp at hz
 |some y=>
  obtain⟨k1,k2⟩:=leastI_some hl
  have h1:=h y k1
  have h2:=k2 z hz
  refine congrArg some (hu y k1 ?_)
  simp only[ltW,decide_eq_false_iff_not,UInt64.lt_iff_toNat_lt,←UInt64.toNat_inj] at h1 h2⊢
  omega
theorem due_uniq {q:QR} (h:WQ q) {z y:It} (hz:z∈dueI q) (hy:y∈dueI q) (e:y.id=z.id):y=z:=by
 have h1:=(due_in h hz).1
 have h2:=(due_in h hy).1
 rw[e,h1] at h2
 exact(Option.some.inj h2).symm
theorem due_clock {q:QR} (h:WQ q) {T:UInt64} (hT:q.now≤T) {z:It} (hl:leastI (dueI q)=some z):leastI (dueI {q with now:=T})=some z:=by
 obtain⟨k1,k2⟩:=leastI_some hl
 have hm:∀y,y∈dueI q→y∈dueI {q with now:=T}:=fun y hy=>by
  unfold dueI at hy⊢
  rw[List.mem_filter,decide_eq_true_eq] at hy⊢
  exact⟨hy.1,hy.2.1,UInt64.le_trans hy.2.2 hT⟩
 refine leastI_eq (hm z k1) (fun y hy=> ?_) fun y hy e=>due_uniq (h.clock T) (hm z k1) hy e
 by_cases hd:y.due≤q.now
 · refine k2 y ?_
   unfold dueI at hy⊢
   rw[List.mem_filter,decide_eq_true_eq] at hy⊢
   exact⟨hy.1,hy.2.1,hd⟩
 · have hz:=(due_in h k1).2.2
   simp only[ltW,decide_eq_false_iff_not,UInt64.lt_iff_toNat_lt,UInt64.le_iff_toNat_le,←UInt64.toNat_inj] at hd hz⊢
   omega
theorem leaveQ_now (q:QR) (z:It) (n:UInt64):leaveQ {q with now:=n} z={leaveQ q z with now:=n}:=by
 unfold leaveQ
 dsimp only
 repeat' split
 all_goals rfl
theorem enterQ_now (q:QR) (z:It) (n:UInt64):enterQ {q with now:=n} z={enterQ q z with now:=n}:=by
 unfold enterQ putI
 dsimp only
 repeat' split
 all_goals rfl
theorem becQ_now (q:QR) (z:It) (l:L) (n:UInt64):becQ {q with now:=n} z l={becQ q z l with now:=n}:=by
 unfold becQ
 dsimp only
 rw[leaveQ_now]
 exact enterQ_now {leaveQ q z with turns:=if l.s=1 then(leaveQ q z).turns+1 else(leaveQ q z).turns} _ n
theorem pass_now (l:L) {a b:Nat} (de:Int) (h:¬(a:Int)<l.d) (k:¬(b:Int)<l.d):passL l a de=passL l b de:=by
 unfold passL
 rw[if_neg h,if_neg k]
theorem tick_more:∀(k j:Nat) {q:QR},WQ q→q.turns.toNat+k<18446744073709551615→(dueI q).length≤k→k≤j→tickL j q=tickL k q
 |0,j,q,h,hb,hd,_=>by
  have e:leastI (dueI q)=none:=leastI_none.2 (List.length_eq_zero_iff.1 (Nat.le_zero.1 hd))
  cases j with
  |zero=>rfl
  |succ j=>unfold tickL;rw[e]
 |k+1,0,q,_,_,_,hj=>by omega
 |k+1,j+1,q,h,hb,hd,hj=>by
  unfold tickL
  cases hl:leastI (dueI q) with
  |none=>rfl
  |some z=>
   dsimp only
   have hz:=(leastI_some hl).1
   obtain⟨h1,h2,h3⟩:=due_in h hz
   have a7:=(becQ_same q z (passL z.l q.now.toNat q.del)).2.2.2.2.2.2
   have hw:=h.pass h1 h2 h3 (by omega)
   have htn:(becQ q z (passL z.l q.now.toNat q.del)).turns.toNat≤q.turns.toNat+1:=by
    rw[a7]
    split
    · rw[UInt64.toNat_add,show(1:UInt64).toNat=1 from rfl];omega
    · omega
   have hd:=due_less h hz
   rw[tick_more k j hw (by omega) (by omega) (by omega)]
theorem tick_parts:∀(k K J:Nat) {q:QR} {T:UInt64},WQ q→q.now≤T→q.turns.toNat+k+K+J<18446744073709551615→(dueI q).length≤k→(dueI {q with now:=T}).length≤K→(dueI {(tickL k q).2 with now:=T}).length≤J→
 tickL K {q with now:=T}=((tickL k q).1+(tickL J {(tickL k q).2 with now:=T}).1,(tickL J {(tickL k q).2 with now:=T}).2)
 |k,K,J,q,T,h,hT,hb,h1,h2,h3=>by
  cases hl:leastI (dueI q) with
  |none=>
   have e:tickL k q=(0,q):=by
    cases k with
    |zero=>rfl
    |succ k=>unfold tickL;rw[hl]
   rw[e] at h3⊢
   dsimp only at h3⊢
   rw[Nat.zero_add]
   have hw:WQ {q with now:=T}:=h.clock T
   by_cases hKJ:K≤J
   · rw[tick_more K J hw (by show q.turns.toNat+K<_;omega) h2 hKJ]
   · rw[tick_more J K hw (by show q.turns.toNat+J<_;omega) h3 (by omega)]
  |some z=>
   have hz:=(leastI_some hl).1
   have hl2:=due_clock h hT hl
   obtain⟨d1,d2,d3⟩:=due_in h hz
   have hk:0<(dueI q).length:=List.length_pos_of_mem hz
   have hK:0<(dueI {q with now:=T}).length:=List.length_pos_of_mem (leastI_some hl2).1
   obtain⟨k,rfl⟩:∃j,k=j+1:=⟨k - 1,by omega⟩
   obtain⟨K,rfl⟩:∃j,K=j+1:=⟨K - 1,by omega⟩
   have hw:=h.pass d1 d2 d3 (by omega)
   have a4:=(becQ_same q z (passL z.l q.now.toNat q.del)).2.2.2.1
   have a7:=(becQ_same q z (passL z.l q.now.toNat q.del)).2.2.2.2.2.2
   have htn:(becQ q z (passL z.l q.now.toNat q.del)).turns.toNat≤q.turns.toNat+1:=by
    rw[a7]
    split
    · rw[UInt64.toNat_add,show(1:UInt64).toNat=1 from rfl];omega
    · omega
   have hp:passL z.l q.now.toNat q.del=passL z.l T.toNat q.del:=pass_now _ _ (by
    show¬(q.now.toNat:Int)<(z.due.toNat:Int)
    rw[UInt64.le_iff_toNat_le] at d3;omega) (by
    show¬(T.toNat:Int)<(z.due.toNat:Int)
    rw[UInt64.le_iff_toNat_le] at d3 hT;omega)
   have hdl:=due_less h hz
   have hdl2:=due_less (h.clock T) (leastI_some hl2).1
   have e1:tickL (k+1) q=((tickL k (becQ q z (passL z.l q.now.toNat q.del))).1+1,(tickL k (becQ q z (passL z.l q.now.toNat q.del))).2):=by rw[tickL,hl]
   have e2:tickL (K+1) {q with now:=T}=((tickL K {becQ q z (passL z.l q.now.toNat q.del) with now:=T}).1+1,(tickL K {becQ q z (passL z.l q.now.toNat q.del) with now:=T}).2):=by
    rw[tickL,hl2]
    dsimp only
    rw[←hp,becQ_now]
   rw[e1] at h3⊢
   rw[e2]
   dsimp only at h3 hdl2⊢
   rw[←hp,becQ_now] at hdl2
   have ih:=tick_parts k K J (q:=becQ q z (passL z.l q.now.toNat q.del)) (T:=T) hw (by rw[a4];exact hT) (by omega) (by omega) (Nat.le_of_succ_le_succ (Nat.le_trans (Nat.le_of_eq hdl2) h2)) h3
   rw[ih]
   dsimp only
   rw[Nat.add_right_comm]
termination_by k=>k
theorem ticks_two {N:Nat} {q:QR} (h:WI N q) (hN:N+1000≤5000000000000000000) {a b:UInt64} (e:(tickQ q a).2.1=0) (f:(tickQ (tickQ q a).2.2 b).2.1=0):
 (tickQ q (a+b)).2.1=0∧(tickQ q (a+b)).1=(tickQ q a).1+(tickQ (tickQ q a).2.2 b).1∧(tickQ q (a+b)).2.2=(tickQ (tickQ q a).2.2 b).2.2:=by
 have hlen:∀{r:QR},WQ r→(dueI r).length≤201:=fun{r} hr=>by
  unfold dueI
  refine Nat.le_trans (List.length_filter_le _ _) ?_
  rw[List.length_map]
  have:=hr.ln
  omega
 have hw1:WQ {q with now:=q.now+a}:=h.wq.clock _
 have ht:=h.lo.tu
 obtain⟨k1,k2,k3,k4,k5⟩:=tick_all 201 {q with now:=q.now+a} hw1 (by show q.turns.toNat+201<_;omega)
 have hov:¬18446744073709551615 - q.now<a:=fun k=>by
  unfold tickQ at e;rw[if_pos k] at e;simp at e
 have e1:tickQ q a=((tickL 201 {q with now:=q.now+a}).1,0,(tickL 201 {q with now:=q.now+a}).2):=by unfold tickQ;rw[if_neg hov]
 have hp:=tick_parts 201 201 201 (q:={q with now:=q.now+a}) (T:=q.now+a+b) hw1
 rw[e1] at f⊢
 obtain⟨R,hR⟩:∃R,tickL 201 {q with now:=q.now+a}=R:=⟨_,rfl⟩
 rw[hR] at f k1 k2 k3 k4 k5 hp⊢
 dsimp only at f k4 hp⊢
 have hov2:¬18446744073709551615 - R.2.now<b:=fun k=>by
  unfold tickQ at f;rw[if_pos k] at f;simp at f
 have e2:tickQ R.2 b=((tickL 201 {R.2 with now:=R.2.now+b}).1,0,(tickL 201 {R.2 with now:=R.2.now+b}).2):=by unfold tickQ;rw[if_neg hov2]
 rw[k4] at hov2
 rw[e2,k4]
 have hle:∀x:UInt64,x≤18446744073709551615:=fun x=>by rw[UInt64.le_iff_toNat_le];have:=x.toNat_lt;show _≤18446744073709551615;omega
 have h1:q.now.toNat+a.toNat≤18446744073709551615:=by
  rw[UInt64.lt_iff_toNat_lt,UInt64.toNat_sub_of_le _ _ (hle _)] at hov
  have:(18446744073709551615:UInt64).toNat=18446744073709551615:=rfl
  have:=q.now.toNat_lt
  omega
 have h2:(q.now+a).toNat=q.now.toNat+a.toNat:=by rw[UInt64.toNat_add];omega
 have h3:q.now.toNat+a.toNat+b.toNat≤18446744073709551615:=by
  rw[UInt64.lt_iff_toNat_lt,UInt64.toNat_sub_of_le _ _ (hle _),h2] at hov2
  have:(18446744073709551615:UInt64).toNat=18446744073709551615:=rfl
  omega
 have h4:(q.now+a+b).toNat=q.now.toNat+a.toNat+b.toNat:=by rw[UInt64.toNat_add,h2];omega
 have h5:(a+b).toNat=a.toNat+b.toNat:=by rw[UInt64.toNat_add];omega
 have hov3:¬18446744073709551615 - q.now<a+b:=fun k=>by
  rw[UInt64.lt_iff_toNat_lt,UInt64.toNat_sub_of_le _ _ (hle _),h5] at k
  have:(18446744073709551615:UInt64).toNat=18446744073709551615:=rfl
  omega
 have hp2:=hp (by rw[UInt64.le_iff_toNat_le,h4,h2];omega) (by show q.turns.toNat+201+201+201<_;omega) (hlen hw1) (hlen (h.wq.clock _)) (hlen (k1.clock _))
 have e3:tickQ q (a+b)=((tickL 201 {q with now:=q.now+a+b}).1,0,(tickL 201 {q with now:=q.now+a+b}).2):=by
  unfold tickQ;rw[if_neg hov3,UInt64.add_assoc]
 rw[e3,hp2]
 exact⟨rfl,rfl,rfl⟩
end Go.Proofs.YtcfgafododiioaaGreatDoor
namespace Go.Proofs.YtcfgafododiioaaGreatDoor
open Go Go.RowKit Go.Tum Go.ChangeMaps Go.Sort
def Set3 (q r:QR):Prop:=r.lanes=q.lanes∧r.pay=q.pay∧r.del=q.del
theorem Set3.refl (q:QR):Set3 q q:=⟨rfl,rfl,rfl⟩
theorem Set3.trans {a b c:QR} (h:Set3 a b) (k:Set3 b c):Set3 a c:=⟨k.1.trans h.1,k.2.1.trans h.2.1,k.2.2.trans h.2.2⟩
theorem Set3.bec (q:QR) (z:It) (l:L):Set3 q (becQ q z l):=by
 obtain⟨a1,a2,a3,-⟩:=becQ_same q z l
 exact⟨a1,a2,a3⟩
theorem Set3.tickL:∀(k:Nat) (q:QR),Set3 q (Go.Proofs.YtcfgafododiioaaGreatDoor.tickL k q).2
 |0,q=>Set3.refl q
 |k+1,q=>by
  unfold Go.Proofs.YtcfgafododiioaaGreatDoor.tickL
  split
  · exact Set3.refl q
  · exact(Set3.bec q _ _).trans (Set3.tickL k _)
theorem Set3.resL (d:Int):∀(l:List It) (q:QR),Set3 q (Go.Proofs.YtcfgafododiioaaGreatDoor.resL d l q)
 |[],q=>Set3.refl q
 |z::r,q=>by
  unfold Go.Proofs.YtcfgafododiioaaGreatDoor.resL
  exact(Set3.bec q _ _).trans (Set3.resL d r _)
theorem Set3.with (q:QR) (t:UInt64) (f:L→L×Int):Set3 q (withQ q t f).2.2:=by
 unfold withQ
 split
 · exact Set3.refl q
 · dsimp only
   split
   · exact Set3.refl q
   · exact Set3.bec q _ _
theorem Set3.dead (q:QR) (i:UInt64) (s:Int):Set3 q (deadQ q i s).2:=by
 unfold deadQ
 dsimp only
 split
 · exact Set3.refl q
 · exact Set3.bec q _ _
theorem Set3.actB (q:QR) (a:Ai):∀k:Kd,Set3 q (Go.Proofs.YtcfgafododiioaaGreatDoor.actB q a k).2
 | .a0=>by
  rw[actB0]
  show Set3 q (putQ q a.lane a.n a.sg a.ps a.size).2.2
  unfold putQ
  split
  · exact Set3.refl q
  split
  · exact Set3.refl q
  split
  · exact Set3.refl q
  split
  · exact Set3.refl q
  exact Set3.bec q _ _
 | .a1=>by
  rw[actB1]
  show Set3 q (leaseQ q a.lane a.n).2.2
  unfold leaseQ
  split
  · exact Set3.refl q
  split
  · exact Set3.refl q
  dsimp only
  split
  · exact Set3.refl q
  exact Set3.bec {q with leases:=q.leases+1} _ _
 | .a2=>by rw[actB2];exact Set3.with q _ _
 | .a3=>by rw[actB3];exact Set3.with q _ _
 | .a4=>by rw[actB4];exact Set3.with q _ _
 | .a5=>by
  have hk:Set3 q (tickQ q a.n).2.2:=by
   unfold tickQ
   split
   · exact Set3.refl q
   · have:=Set3.tickL 201 {q with now:=q.now+a.n}
     generalize Go.Proofs.YtcfgafododiioaaGreatDoor.tickL 201 {q with now:=q.now+a.n}=T at this⊢
     exact this
  obtain⟨T,hT⟩:∃T,tickQ q a.n=T:=⟨_,rfl⟩
  rw[actB5,hT]
  rw[hT] at hk
  exact hk
 | .a6=>by rw[actB6];exact Set3.dead q _ _
 | .a7=>by rw[actB7];exact Set3.dead q _ _
 | .a8=>by rw[actB8];exact Set3.refl q
 | .a9=>by rw[actB9];exact Set3.resL _ _ q
 | .a10=>by rw[actB10];exact Set3.refl q
 | .a11=>by rw[actB11];exact Set3.refl q
theorem Set3.act (q:QR) (a:Ai):Set3 q (actI q a).2:=Set3.actB q a _
theorem act_tick (q:QR) (t:UInt64) {T:Nat×Int×QR} (hT:tickQ q t=T):actI q ⟨5,0,0,0,t,[],0,0,0⟩=({an0 with many:=(T.1:Int),e:=T.2.1},T.2.2):=by
 show actB q _ (kindI _)=_
 rw[show kindI ⟨5,0,0,0,t,[],0,0,0⟩=Kd.a5 by unfold kindI;simp,actB5]
 dsimp only
 rw[hT]
theorem act_tick2 {N:Nat} {q:QR} (h:XQ N q) (hN:N+300≤5000000000000000000) (t:UInt64) {T:Nat×Int×QR} (hT:tickQ q t=T):XQ (N+300) T.2.2:=by
 have:=h.act hN ⟨5,0,0,0,t,[],0,0,0⟩
 rw[act_tick q t hT] at this
 exact this
end Go.Proofs.YtcfgafododiioaaGreatDoor
set_option maxRecDepth 100000
namespace Go.Proofs.YtcfgafododiioaaGreatDoor
open Go Go.RowKit Go.Tum Go.ChangeMaps Go.Sort
open Go.ParB (upd Lof)
open Go.ParE (putS slotsR slots Closed)
theorem tickL_le:∀(k:Nat) (q:QR),(tickL k q).1≤k
 |0,_=>Nat.le_refl _
 |k+1,q=>by
  unfold tickL
  split
  · exact Nat.zero_le _
  · exact Nat.succ_le_succ (tickL_le k _)
theorem tickQ_le (q:QR) (n:UInt64):(tickQ q n).1≤201:=by
 unfold tickQ
 split
 · exact Nat.zero_le _
 · exact tickL_le _ _
theorem ticks_law {N:Nat} {q r:QR} (h:WI N q) (k:WI N r) (hN:N+1000≤5000000000000000000) (s:SameQ q r) (a b:UInt64) {m n c:Nat×Int×QR}
 (h1:tickQ q a=m) (h2:tickQ m.2.2 b=n) (h3:tickQ r (a+b)=c):
 (m.2.1≠0→m.1=0)∧(n.2.1≠0→n.1=0)∧(m.2.1=0→n.2.1=0→c.2.1=0∧c.1=m.1+n.1∧stateQ n.2.2=stateQ c.2.2)∧m.1≤201∧n.1≤201:=by
 obtain⟨S,hS⟩:∃S,tickQ q (a+b)=S:=⟨_,rfl⟩
 have e1:= @tick_err q a
 have e2:= @tick_err m.2.2 b
 have l1:=tickQ_le q a
 have l2:=tickQ_le m.2.2 b
 have k0:= @ticks_two N q h hN a b
 have hs:=SameQ.act h k (by omega) s ⟨5,0,0,0,a+b,[],0,0,0⟩
 have hq:=h.act (by omega) ⟨5,0,0,0,a+b,[],0,0,0⟩
 have hr:=k.act (by omega) ⟨5,0,0,0,a+b,[],0,0,0⟩
 rw[act_tick q (a+b) hS,act_tick r (a+b) h3] at hs
 rw[act_tick q (a+b) hS] at hq
 rw[act_tick r (a+b) h3] at hr
 rw[hS,h1,h2] at k0
 rw[h1] at e1 l1
 rw[h2] at e2 l2
 clear hS h1 h2 h3
 refine⟨fun e=>(e1 e).2,fun e=>(e2 e).2,fun e f=> ?_,l1,l2⟩
 obtain⟨k1,k2,k3⟩:=k0 e f
 dsimp only at hs hq hr
 obtain⟨hs1,hs2⟩:=hs
 have a1:=congrArg An.e hs1
 have a2:=congrArg An.many hs1
 dsimp only at a1 a2
 exact⟨by rw[←a1];exact k1,by omega,by rw[←k3];exact hs2.state hq.wq hr.wq⟩
set_option maxHeartbeats 2000000 in
theorem indexTicks_law (la pa de:Int) (v:Value) (m:List Ai) (a b:UInt64) (w:World) (hA:ActsI w v m) (ht:TB w):
 Calls Tryz.prog 10 #[ccV la pa de,v,vU a,vU b] w fun e w'=>e= .returned (.bool true)∧Ext w w':=by
 have HA:=hid hA
 have HT:=hid ht
 obtain⟨hrow,hokk⟩:=hA
 obtain⟨ao,cap,rfl,hle,hm,hnn,hcell⟩:=hrow.open
 have HNN:=hid hnn
 have HC:=hid hcell
 obtain⟨W1,hW1⟩:∃W,w.alloc (ccO la pa de)=W:=⟨_,rfl⟩
 have HE1:Hid (Ext w W1):=hid (by rw[←hW1];exact Ext.alloc _ _)
 have HB1:Hid (W1.heap[w.heap.size]? =some (ccO la pa de)):=hid (by rw[←hW1];exact heap_alloc_new _ _)
 clear hrow hokk hcell hnn ht
 go_enter Tryz.func10,Tryz.ntmps10
 go_wp2_with fail
 clear hW1
 refine(awake11_any W1 (TBx HT.out HE1.out)).mono ?_
 rintro e w2 ⟨rfl,hx⟩
 have HE2:=hid (HE1.out.trans hx)
 have HB2:=hid (hx.obj HB1.out)
 obtain⟨x0,x1,x2,-⟩:=lk3 HB2.out
 clear hx
 go_wp2_with fail
 clear x0 x1 x2
 refine(inew_any la pa de (TBx HT.out HE2.out)).mono ?_
 rintro e w3 ⟨hn,hx⟩
 have HE3:=hid (HE2.out.trans hx)
 obtain⟨x0,x1,x2,-⟩:=lk3 (hx.obj HB2.out)
 clear hx
 obtain⟨rc,hrc⟩:∃b,rightC la pa de=b:=⟨_,rfl⟩
 have HRC:=hid hrc
 rw[hrc] at hn
 clear hrc
 cases rc
 case false=>
  rw[if_neg (by simp)] at hn
  subst hn
  go_wp2_with fail
  clear x0 x1 x2
  refine(inew_any la pa de (TBx HT.out HE3.out)).mono ?_
  rintro e w4 ⟨hn,hx⟩
  have HE4:=hid (HE3.out.trans hx)
  rw[HRC.out,if_neg (by simp)] at hn
  subst hn
  clear hx
  go_wp2
  go_returns
  exact⟨rfl,HE4.out⟩
 rw[if_pos rfl] at hn
 obtain⟨p,x,q,rfl,hI,hM⟩:=hn
 have HI3:=hid (hI.lower HE2.out.size)
 have HM3:=hid hM
 clear hI hM
 go_wp2_with fail
 clear x0 x1 x2
 refine(inew_any la pa de (TBx HT.out HE3.out)).mono ?_
 rintro e w4 ⟨hn,hx⟩
 rw[HRC.out,if_pos rfl] at hn
 obtain⟨p2,y,r,rfl,hI,hM⟩:=hn
 have HE4:=hid (HE3.out.trans hx)
 have HI4:=hid (I2.made HI3.out hI hx HE3.out.size)
 have HS4:Hid (SameQ q r):=hid (by
  have k:=HM3.out
  rw[←k.la,←k.pa,←k.de,←k.st] at hM
  exact MadeR.same k.xq hM)
 have HQ4:=hid (And.intro HM3.out.xq hM.xq)
 clear hx hI hM HI3 HM3
 go_wp2_with fail
 refine(ilarge_any _ m w4 (HA.out.ext HE4.out)).mono ?_
 rintro e w5 ⟨⟨rl,rfl,hr⟩,hx⟩
 have HE5:=hid (HE4.out.trans hx)
 have HI5:=hid (HI4.out.ext hx)
 clear hx
 cases rl
 case true=>
  clear hr
  go_wp2
  go_returns
  exact⟨rfl,HE5.out⟩
 have HS:=hid (hr rfl)
 clear hr
 go_wp2
 go_loopw [45] (fun i wr=>∃(k:Nat) (x:XP) (q:QR) (y:XP) (r:QR),k≤m.length∧i= .int .i64 (k:Int)∧Hid (I2 w.heap.size wr p x q p2 y r)∧Hid (XQ (300*k) q∧XQ (300*k) r)∧Hid (SameQ q r)∧Hid (Ext w wr)) (fun i _=>m.length - (intOf i).toNat)
 case atStart=>exact⟨0,x,q,y,r,Nat.zero_le _,rfl,HI5,HQ4,HS4,HE5⟩
 case round=>
  clear HI4 HI5 HQ4 HS4 HE5 HE4 HE3 HE2 HE1 HB1 HB2 x y q r
  obtain⟨k,x,q,y,r,hk,rfl,HI,HQ,HSM,HE⟩:=hrel
  by_cases hlt:k<m.length
  · obtain⟨a0,rfl⟩:=HNN.out (by omega)
    have c0:=cell_first (HE.out.cell (HC.out a0 rfl k hlt 0 _ rfl))
    have c1:=cell_next (HE.out.cell (HC.out a0 rfl k hlt 1 _ rfl)) (by decide)
    have c2:=cell_next (HE.out.cell (HC.out a0 rfl k hlt 2 _ rfl)) (by decide)
    have c3:=cell_next (HE.out.cell (HC.out a0 rfl k hlt 3 _ rfl)) (by decide)
    have c4:=cell_next (HE.out.cell (HC.out a0 rfl k hlt 4 _ rfl)) (by decide)
    have c5:=cell_next (HE.out.cell (HC.out a0 rfl k hlt 5 _ rfl)) (by decide)
    have c6:=cell_next (HE.out.cell (HC.out a0 rfl k hlt 6 _ rfl)) (by decide)
    have c7:=cell_next (HE.out.cell (HC.out a0 rfl k hlt 7 _ rfl)) (by decide)
    have c8:=cell_next (HE.out.cell (HC.out a0 rfl k hlt 8 _ rfl)) (by decide)
    have HOK:=hid (HA.out.2 m[k] (List.getElem_mem hlt))
    have HSN:=hid (HS.out.2 m[k] (List.getElem_mem hlt))
    have HLM:=hid HS.out.1
    obtain⟨aq,haq⟩:∃z,m[k]=z:=⟨_,rfl⟩
    rw[haq] at c0 c1 c2 c3 c4 c5 c6 c7 c8 HOK HSN
    clear haq
    obtain⟨dn,lane,many,aid,an,name,asg,aps,asz⟩:=aq
    dsimp only at c0 c1 c2 c3 c4 c5 c6 c7 c8
    have hi1:decide ((k:Int)<m.length)=true:=by simp;omega
    have HKM:=hid hlt
    obtain⟨w5,hw5⟩:∃W,wr.alloc (.cells #[.int .i64 dn,.int .i64 lane,.int .i64 many,vU aid,vU an,vN name,vU asg,vU aps,.int .i64 asz] 40 (0,0))=W:=⟨_,rfl⟩
    have e5:Ext wr w5:=by rw[←hw5];exact Ext.alloc _ _
    have HB5:Hid (w5.heap[wr.heap.size]? =some (.cells #[.int .i64 dn,.int .i64 lane,.int .i64 many,vU aid,vU an,vN name,vU asg,vU aps,.int .i64 asz] 40 (0,0))):=hid (by rw[←hw5];exact heap_alloc_new _ _)
    have HI5:=hid (HI.out.ext e5)
    have HE5:=hid (HE.out.trans e5)
    have HLO5:Hid ((∀a∈x.blk p,a<wr.heap.size)∧wr.heap.size<w5.heap.size):=hid ⟨fun a ha=>(HI.out.a.blk_lo a ha).2,by rw[←hw5];simp⟩
    clear e5 hlt hk
    obtain⟨d0,d1,d2,d3,d4,d5,d6,d7,d8,-⟩:=blk9 HB5.out
    go_wp2_with fail
    clear hw5 c0 c1 c2 c3 c4 c5 c6 c7 c8 hi1 d0 d1 d2 d3 d4 d5 d6 d7 d8
    obtain⟨b8,hb8⟩:∃b,wr.heap.size=b:=⟨_,rfl⟩
    rw[hb8] at HB5 HLO5
    try rw[hb8]
    clear hb8 HI HE
    have hcall:=do_any11 ⟨dn,lane,many,aid,an,name,asg,aps,asz⟩ HI5.out.a HE5.out.size HQ.out.1.wi (by have:=HKM.out;have:=HLM.out;omega) (TBx HT.out HE5.out) (Nat.le_trans HSN.out (by decide)) HOK.out.mn
    have hsm:=SameQ.act HQ.out.1.wi HQ.out.2.wi (by have:=HKM.out;have:=HLM.out;omega) HSM.out ⟨dn,lane,many,aid,an,name,asg,aps,asz⟩
    have hq9:=HQ.out.1.act (by have:=HKM.out;have:=HLM.out;omega) ⟨dn,lane,many,aid,an,name,asg,aps,asz⟩
    have hr9:=HQ.out.2.act (by have:=HKM.out;have:=HLM.out;omega) ⟨dn,lane,many,aid,an,name,asg,aps,asz⟩
    have HCR:=hid (fun W (h2:IX w.heap.size W p2 y r) (h3:Ext w W)=>do_any11 ⟨dn,lane,many,aid,an,name,asg,aps,asz⟩ h2 h3.size HQ.out.2.wi (by have:=HKM.out;have:=HLM.out;omega) (TBx HT.out h3) (Nat.le_trans HSN.out (by decide)) HOK.out.mn)
    obtain⟨R,hR⟩:∃R,actI q ⟨dn,lane,many,aid,an,name,asg,aps,asz⟩=R:=⟨_,rfl⟩
    obtain⟨R2,hR2⟩:∃R,actI r ⟨dn,lane,many,aid,an,name,asg,aps,asz⟩=R:=⟨_,rfl⟩
    rw[hR] at hcall hsm hq9
    rw[hR2] at hsm hr9 HCR
    clear hR hR2
    obtain⟨A1,q9⟩:=R
    obtain⟨A2,r9⟩:=R2
    dsimp only at hsm hq9 hr9
    have HSM9:=hid hsm.2
    have HQ9:Hid (XQ (300*k+300) q9∧XQ (300*k+300) r9):=hid ⟨hq9,hr9⟩
    clear hsm hq9 hr9 HQ HSM
    refine hcall.mono ?_
    clear hcall
    rintro e w9 ⟨⟨ro,rcap,rfl,hown⟩,hs⟩
    obtain⟨x9,i9,f9,n9⟩:=HI5.out.left hs
    have HI9:=hid i9
    have HE9:Hid (Ext w w9):=hid (Below.trans HE5.out (f9.below HI5.out.a.blo HE5.out.size))
    have HB9:=hid ((f9.block b8 (Array.getElem?_eq_some_iff.1 HB5.out).1 (fun hm=>by have:=HLO5.out.1 _ hm;omega)).trans HB5.out)
    obtain⟨d0,d1,d2,d3,d4,d5,d6,d7,d8,-⟩:=blk9 HB9.out
    clear hown hs i9 f9 n9 HI5 HE5 HB5 HLO5
    go_wp2_with fail
    clear d0 d1 d2 d3 d4 d5 d6 d7 d8
    refine(HCR.out _ HI9.out.b HE9.out).mono ?_
    rintro e w10 ⟨⟨ro2,rcap2,rfl,hown⟩,hs⟩
    obtain⟨y10,i10,f10,n10⟩:=HI9.out.right hs
    have HI10:=hid i10
    have HE10:Hid (Ext w w10):=hid (Below.trans HE9.out (f10.below HI9.out.b.blo HE9.out.size))
    clear hown hs i10 f10 n10 HI9 HE9 HCR
    go_wp2
    go_roundw
    case rel=>exact⟨k+1,x9,_,y10,_,HKM.out,by go_num,HI10,hid ⟨HQ9.out.1.mono (by omega),HQ9.out.2.mono (by omega)⟩,HSM9,HE10⟩
    case measure=>simp[intOf];have:=HKM.out;omega
  · have hki:decide (k<m.length)=false:=by simp;omega
    have HKL:Hid (300*k≤78000):=hid (by have:=HS.out.1;omega)
    clear hk hlt
    go_wp2_with fail
    clear hki
    have hc1:=tick_any11 a HI.out.a HE.out.size HQ.out.1.wi.wq (by have:=HQ.out.1.wi.lo.tu;have:=HKL.out;omega)
    obtain⟨T1,hT1⟩:∃T,tickQ q a=T:=⟨_,rfl⟩
    obtain⟨T2,hT2⟩:∃T,tickQ T1.2.2 b=T:=⟨_,rfl⟩
    obtain⟨T3,hT3⟩:∃T,tickQ r (a+b)=T:=⟨_,rfl⟩
    have hlaw:=ticks_law HQ.out.1.wi HQ.out.2.wi (by have:=HKL.out;omega) HSM.out a b hT1 hT2 hT3
    have hq1:=act_tick2 HQ.out.1 (by have:=HKL.out;omega) a hT1
    have hq2:=act_tick2 hq1 (by have:=HKL.out;omega) b hT2
    have hr3:=act_tick2 HQ.out.2 (by have:=HKL.out;omega) (a+b) hT3
    have HCB:=hid (fun W (h2:IX w.heap.size W p2 y r) (h3:Ext w W)=>tick_any11 (a+b) h2 h3.size HQ.out.2.wi.wq (by have:=HQ.out.2.wi.lo.tu;have:=HKL.out;omega))
    rw[hT3] at HCB
    have HCA:=hid (fun W x (h2:IX w.heap.size W p x T1.2.2) (h3:Ext w W)=>tick_any11 b h2 h3.size hq1.wi.wq (by have:=hq1.wi.lo.tu;have:=HKL.out;omega))
    rw[hT2] at HCA
    rw[hT1] at hc1
    have HQ1:=hid hq1
    have HQ2:=hid hq2
    have HR3:=hid hr3
    have HLAW:=hid hlaw
    clear hT1 hT2 hT3 hlaw hq1 hq2 hr3 HQ HSM
    refine hc1.mono ?_
    clear hc1
    rintro e w6 ⟨rfl,hs⟩
    obtain⟨x6,i6,f6,-⟩:=HI.out.left hs
    have HI6:=hid i6
    have HE6:Hid (Ext w w6):=hid (Below.trans HE.out (f6.below HI.out.a.blo HE.out.size))
    clear hs i6 f6 HI HE
    go_wp2_with fail
    refine(HCA.out _ _ HI6.out.a HE6.out).mono ?_
    rintro e w7 ⟨rfl,hs⟩
    obtain⟨x7,i7,f7,-⟩:=HI6.out.left hs
    have HI7:=hid i7
    have HE7:Hid (Ext w w7):=hid (Below.trans HE6.out (f7.below HI6.out.a.blo HE6.out.size))
    clear hs i7 f7 HI6 HE6 HCA
    obtain⟨M,E,q7⟩:=T1
    obtain⟨n,F,q8⟩:=T2
    obtain⟨c,G,r8⟩:=T3
    dsimp only at HI7 HQ1 HQ2 HR3 HLAW HCB
    by_cases hE:E=0
    · by_cases hF:F=0
      · obtain⟨hl1,hl2,hl3,hl4,hl5⟩:=HLAW.out
        obtain⟨hG,hc,hst⟩:=hl3 hE hF
        subst hE hF hG hc
        have HST:=hid hst
        have HML:=hid hl4
        have HNL:=hid hl5
        clear hl1 hl2 hl3 hl4 hl5 hst HLAW
        have hadd:=u64_add a b
        go_wp2_with fail
        clear hadd
        refine(HCB.out _ HI7.out.b HE7.out).mono ?_
        rintro e w8 ⟨rfl,hs⟩
        obtain⟨y8,i8,f8,-⟩:=HI7.out.right hs
        have HI8:=hid i8
        have HE8:Hid (Ext w w8):=hid (Below.trans HE7.out (f8.below HI7.out.b.blo HE7.out.size))
        clear hs i8 f8 HI7 HE7 HCB
        obtain⟨s,hs⟩:∃s,stateQ q8=s:=⟨_,rfl⟩
        rw[hs] at HST
        have HSQ:=hid hs
        have HSR:=hid HST.out.symm
        have HSM:Hid (SmS s):=hid (by rw[←hs];exact sms_of HQ2.out)
        clear hs HST
        have HWR:Hid (wrap64 ((M:Int)+(n:Int))=((M+n:Nat):Int)):=hid (by have:=HML.out;have:=HNL.out;unfold wrap64;omega)
        obtain⟨C,hC⟩:∃C:Int,((M+n:Nat):Int)=C:=⟨_,rfl⟩
        rw[hC] at HWR
        try rw[hC]
        clear hC
        have hwr:=HWR.out
        go_wp2_with fail
        clear hwr
        refine(st_val HI8.out.a HQ2.out (TBx HT.out HE8.out) HSQ.out).mono ?_
        rintro e w9 ⟨⟨U1,rfl,h1⟩,hx⟩
        have HE9:=hid (HE8.out.trans hx)
        have HU1:=hid h1
        have HI9:=hid (HI8.out.ext hx)
        clear hx h1 HI8 HE8
        go_wp2_with fail
        refine(lst_val HU1.out HSM.out).mono ?_
        rintro e w10 ⟨⟨U2,rfl,h1⟩,hx⟩
        have HE10:=hid (HE9.out.trans hx)
        have HU2:=hid h1
        have HI10:=hid (HI9.out.ext hx)
        clear hx h1 HI9 HE9 HU1
        go_wp2_with fail
        refine(st_val HI10.out.b HR3.out (TBx HT.out HE10.out) HSR.out).mono ?_
        rintro e w11 ⟨⟨U3,rfl,h1⟩,hx⟩
        have HE11:=hid (HE10.out.trans hx)
        have HU3:=hid h1
        have HU4:=hid (HU2.out.ext hx)
        clear hx h1 HI10 HE10 HU2
        go_wp2_with fail
        refine(lst_val HU3.out HSM.out).mono ?_
        rintro e w12 ⟨⟨U5,rfl,h1⟩,hx⟩
        have HE12:=hid (HE11.out.trans hx)
        have HU5:=hid h1
        have HU6:=hid (HU4.out.ext hx)
        clear hx h1 HE11 HU3 HU4
        go_wp2_with fail
        refine(rsame_val HU6.out HU5.out HSM.out).mono ?_
        rintro e w13 ⟨rfl,hx⟩
        have HE13:=hid (HE12.out.trans hx)
        clear hx HE12 HU5 HU6
        go_wp2
        go_returns
        exact⟨rfl,HE13.out⟩
      · obtain⟨-,hl2,-⟩:=HLAW.out
        obtain rfl:=hl2 hF
        subst hE
        have hF2:(F==0)=false:=by simpa using hF
        have hF3:(F !=0)=true:=by simpa using hF
        have HF:=hid hF3
        clear hF hl2 HLAW
        cases hM:((M:Int)==0)
        all_goals
         go_wp2
         go_returns
         exact⟨by simp,HE7.out⟩
    · obtain⟨hl1,-⟩:=HLAW.out
      obtain rfl:=hl1 hE
      have hE2:(E==0)=false:=by simpa using hE
      have hE3:(E !=0)=true:=by simpa using hE
      clear hE hl1 HLAW
      go_wp2
      go_returns
      exact⟨by simp,HE7.out⟩
end Go.Proofs.YtcfgafododiioaaGreatDoor
namespace Go.Proofs.YtcfgafododiioaaGreatDoor.indexTicks
open Go.ChangeShapes Go.WideShapes Go.ChangeAt Go.RowKit
open Go.ChangeMaps (open_string shut_string)
theorem own:ownKnob Tryz.prog.godebug=none:=by kernel_rfl
theorem kid1:laidOutB Tryz.prog=true:=by kernel_rfl
theorem kid2:mapsRowed Tryz.prog=true:=by kernel_rfl
theorem kid3:((List.range Tryz.prog.types.size).all fun t=>match Tryz.prog.underlying t with|some (.slice e)=>decide (0<Tryz.prog.cellsOf e)|_=>true)=true:=by kernel_rfl
theorem kid4:∀t∈Tryz.f10.params.toList,t<Tryz.prog.types.size:=by decide+kernel
theorem firstIs:Go.Pinned.utf8First=Lib.firstData:=by kernel_rfl
theorem acceptIs:(Rows.laid_unicode_utf8_acceptRanges:DataW Unit)=Lib.acceptData:=by kernel_rfl
theorem table {W:World} (h:laidMetH Tryz.prog Rows.indexTicksRow.laid W):TB W:=by
 have h' : laidMet Tryz.prog [("unicode/utf8.acceptRanges", Lib.acceptData), ("unicode/utf8.first", Lib.firstData)] W := by
  rw[←acceptIs,←firstIs]
  exact h
 exact utf8Tabs_of_reads (ρ:=Tryz.lays230_ren) {Tryz.lays230 with} ⟨by kernel_rfl,by kernel_rfl,by kernel_rfl,by kernel_rfl,by kernel_rfl,by kernel_rfl,by kernel_rfl⟩ (Lib.laidMet.reads h' (.tail _ (.head _))) (Lib.laidMet.reads h' (.head _))
set_option maxRecDepth 100000 in
theorem contract (H:Type) (enc:TypeId×Value→H) (W:World) (base:Nat) (args:Array Value) (ds gs:List (DataW H)) (before:List MemPlace)
 (hval:∀(j:Nat) t v,Tryz.f10.params[j]? =some t→args[j]? =some v→Value.okWide Tryz.prog W .any base t v)
 (hW:DataW.Whole enc Tryz.prog Tryz.f10.params.toList Rows.indexTicksSpec.vars false W args.toList ds gs before) (hL:laidMetH Tryz.prog Rows.indexTicksRow.laid W):
 Calls Tryz.prog 10 args W fun e W'=>∃v,e= .returned v∧Rows.indexTicksSpec.post enc Tryz.prog Tryz.f10 false true false false W args v W':=by
 have hW':=hW
 obtain⟨p,q,hA0,hV,rfl,hfz,hnd⟩:=hW
 have hA:DataW.TrodAll enc Tryz.prog W 0 (fun _=>true) true Tryz.f10.params.toList args.toList ds p:=hA0
 rw[Tryz.params10] at hA hval
 obtain⟨v0,vs0,d0,ds0,p0,q0,hargs,rfl,rfl,h0,r0⟩:=trodAll_cons hA
 obtain⟨v1,vs1,d1,ds1,p1,q1,rfl,rfl,rfl,h1,r1⟩:=trodAll_cons r0
 obtain⟨v2,vs2,d2,ds2,p2,q2,rfl,rfl,rfl,h2,r2⟩:=trodAll_cons r1
 obtain⟨v3,vs3,d3,ds3,p3,q3,rfl,rfl,rfl,h3,r3⟩:=trodAll_cons r2
 obtain⟨rfl,rfl,rfl⟩:=trodAll_nil r3
 obtain rfl:args= #[v0,v1,v2,v3]:=by cases args;simp_all
 obtain⟨rfl,rfl⟩:=trodVars_none hV
 obtain⟨la,pa,de,rfl⟩:=open_conf (hval 0 23 v0 rfl rfl) h0
 obtain⟨m1,hm1⟩:=open_actsI (hval 1 24 v1 rfl rfl) h1
 obtain⟨a2,rfl,rfl,rfl,w2⟩:=open_int Tryz.underlying36 (hval 2 36 v2 rfl rfl) h2
 obtain⟨u2,rfl⟩:=Go.Tum.u64_of w2
 obtain⟨a3,rfl,rfl,rfl,w3⟩:=open_int Tryz.underlying36 (hval 3 36 v3 rfl rfl) h3
 obtain⟨u3,rfl⟩:=Go.Tum.u64_of w3
 refine(indexTicks_law la pa de v1 m1 u2 u3 W hm1 (table hL)).mono fun e W' ⟨he,hg⟩=> ?_
 subst he
 exact⟨_,rfl,Go.Tum.law_post kid1 kid2 kid3 kid4 rfl Tryz.underlying4 hW' rfl rfl hg⟩
noncomputable def laidWorld (os:Os):World:=
 let w0:=World.holding Tryz.prog os ⟨#[],#[],[]⟩
 let put (h:Array Obj) (g:Nat) (cs:Array Value):Array Obj:=h.modify g fun
  | .cells _ t frozen=> .cells cs t frozen
  |o=>o
 {w0 with heap:=put (put w0.heap 0 (Lib.firstTab.map fun z=>Value.int .u8 z).toArray) 1 ((List.range 16).flatMap fun i=>[Value.int .u8 (Lib.accLo i),Value.int .u8 (Lib.accHi i)]).toArray}
theorem laid_met (os:Os):laidMet Tryz.prog Rows.indexTicksRow.laid ((laidWorld os).forCall (fun _ _=>0) ⟨#[],#[.agg #[.int .i64 0,.int .i64 0,.int .i64 0],.slice none 0 0,.int .u64 0,.int .u64 0],[]⟩).memory:=
 laidMet_of_run3 10 (by kernel_rfl) (by kernel_rfl) (by kernel_rfl)
theorem reads (os:Os) {H:Type} (enc:TypeId×Value→H):∃places,DataW.whole enc Tryz.prog ((laidWorld os).forCall (fun _ _=>0) ⟨#[],#[.agg #[.int .i64 0,.int .i64 0,.int .i64 0],.slice none 0 0,.int .u64 0,.int .u64 0],[]⟩).memory Tryz.f10.params.toList Rows.indexTicksSpec.vars false #[Value.agg #[.int .i64 0,.int .i64 0,.int .i64 0],.slice none 0 0,.int .u64 0,.int .u64 0].toList 8=some ([.agg [.lit (.int .i64 0),.lit (.int .i64 0),.lit (.int .i64 0)],.nil,.lit (.int .u64 0),.lit (.int .u64 0)],[],places):=
 ⟨[],by kernel_rfl⟩
set_option maxRecDepth 100000 in
theorem lifted (os:Os) (started:os.Started) (H:Type) (enc:TypeId×Value→H) (F:Stop.Interp):
 ReturnsInHanded {} Tryz.checked os 10 .any ((OpenSpec.ofChange Rows.indexTicksSpec).preRow enc Tryz.prog Tryz.f10 Rows.indexTicksRow.domain false Rows.indexTicksRow.laid) (((OpenSpec.ofChange Rows.indexTicksSpec).at F).post enc Tryz.prog Tryz.f10 false true false false):=by
 obtain⟨places,hx⟩:=reads os enc
 refine returnsInHanded_of_row (C:=Tryz.checked) (s:=OpenSpec.ofChange Rows.indexTicksSpec) own started (by kernel_rfl) Tryz.func10
  (witness_row_at (enc:=enc) (C:=Tryz.checked) false (laidWorld os) #[.agg #[.int .i64 0,.int .i64 0,.int .i64 0],.slice none 0 0,.int .u64 0,.int .u64 0] rfl (by kernel_rfl) (by kernel_rfl) (by kernel_rfl)
   (OpenSpec.preRow_of_cond 8 hx (by kernel_rfl) (fun k hk=>by cases hk) (by kernel_rfl) (laid_met os))) ?_
 intro W base args ds gs before hval hW _ _ _ hL _ _
 exact contract H enc W base args ds gs before hval hW hL
theorem said:Rows.IndexTicksSaid:=
 OpenClaim.holds_of_cond 10 Tryz.f10 rfl rfl rfl rfl rfl rfl rfl ⟨rfl,rfl,rfl,rfl,rfl⟩ rfl rfl rfl rfl rfl (by kernel_rfl) Tryz.func10 (by kernel_rfl)
  (of_decide_eq_true (by kernel_rfl)) (by unfold Func.isWrapper;first|(rw[if_pos (by decide+kernel)];kernel_rfl)|(rw[if_neg (by decide+kernel)];exact⟨rfl,rfl⟩))
  (fun os started H enc _ F=>by rw[OpenClaim.pre_eq_preRow];exact lifted os started H enc F)
theorem plain (f : FuncId) (fn : Func) (hf : Tryz.pinned.checked.prog.funcNamed "tumbrel/tumbrellaw11.IndexTicks" = some f) (hfn : Tryz.pinned.checked.prog.funcs[f]? = some fn) :
 false=Tryz.pinned.checked.prog.looks []∧∀(j:Nat) t,fn.params[j]? =some t→Tryz.pinned.checked.prog.wantsStandIn t=false:=by
 obtain rfl : f = 10 := Option.some.inj ((show Tryz.prog.funcNamed "tumbrel/tumbrellaw11.IndexTicks" = some 10 by kernel_rfl).symm.trans hf) |>.symm
 obtain rfl:fn=Tryz.f10:=(Option.some.inj (Tryz.func10.symm.trans hfn)).symm
 refine⟨by kernel_rfl,fun j t ht=> ?_⟩
 rw[Tryz.params10] at ht
 have hm:=Array.mem_of_getElem? ht
 have hall:∀t∈Tryz.f10.params.toList,Tryz.prog.wantsStandIn t=false:=by decide+kernel
 rw[Tryz.params10] at hall
 exact hall t (by simpa using hm)
theorem proved:Rows.IndexTicksCardSaid:=
 Claim7.holds_tied_plain_at .later [] _ _ _ _ said (fun _ h=>by cases h) (by kernel_rfl) (fun _ h=>by cases h) indexTicks_row_tie rfl ⟨rfl,rfl⟩ (by kernel_rfl) rfl plain (by kernel_rfl)
end Go.Proofs.YtcfgafododiioaaGreatDoor.indexTicks
