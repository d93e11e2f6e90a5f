/- Texts of a claim, side by side. -/
import Derived.Test.YtcfgafododiioaaGreatDoorC19
set_option linter.unusedSimpArgs false
set_option linter.unusedVariables false
namespace Go.Proofs.YtcfgafododiioaaGreatDoor
open Go Go.RowKit Go.Tum Go.ChangeMaps
def newI (q:QR) (lane:Int) (sg ps:UInt64) (size:Int):It:=⟨q.next,lane,0,0,0,0,0,sg,ps,size⟩
def putQ (q:QR) (lane:Int) (delay sg ps:UInt64) (size:Int):UInt64×Int×QR:=
 if lane<0∨q.lanes≤lane∨size<0∨q.pay<size then(0,1,q)
 else if 200≤q.its.length then(0,4,q)
 else if q.next=0 then(0,10,q)
 else if(waitL l0 q.now.toNat delay.toNat).2≠0 then(0,(waitL l0 q.now.toNat delay.toNat).2,q)
 else(q.next,0,{becQ q (newI q lane sg ps size) (waitL l0 q.now.toNat delay.toNat).1 with next:=q.next+1})
def getI (q:QR) (i:UInt64):It:=(look q i).getD it0
def peekL (q:QR) (lane:Int):List Nat→It×Int
 |[]=>(it0,11)
 |n::r=>if lane≠ -1∧lane≠(n:Int) then peekL q lane r else match q.rows n with
  |[]=>peekL q lane r
  |i::_=>(getI q i,0)
def peekQ (q:QR) (lane:Int):It×Int:=if lane< -1∨q.lanes≤lane then(it0,1) else peekL q lane (List.range q.lanes.toNat)
def leaseQ (q:QR) (lane:Int) (span:UInt64):It×Int×QR:=
 if span=0 then(it0,1,q)
 else if(peekQ q lane).2≠0 then(it0,(peekQ q lane).2,q)
 else
  let r:=leaseL (peekQ q lane).1.l q.now.toNat span.toNat (q.leases+1).toNat
  if r.2≠0 then(it0,r.2,q)
  else(becI q (peekQ q lane).1 r.1,0,becQ {q with leases:=q.leases+1} (peekQ q lane).1 r.1)
def withQ (q:QR) (tok:UInt64) (f:L→L×Int):It×Int×QR:=match q.hld.lookup tok with
 |none=>(it0,9,q)
 |some i=>
  let r:=f (getI q i).l
  if r.2≠0 then(it0,r.2,q) else(becI q (getI q i) r.1,0,becQ q (getI q i) r.1)
def ackQ (q:QR) (tok:UInt64):It×Int×QR:=withQ q tok fun l=>ackL l tok.toNat
def nackQ (q:QR) (tok delay:UInt64):It×Int×QR:=withQ q tok fun l=>nackL l tok.toNat q.now.toNat delay.toNat q.del
def extendQ (q:QR) (tok span:UInt64):It×Int×QR:=withQ q tok fun l=>extendL l tok.toNat q.now.toNat span.toNat
def deadQ (q:QR) (i:UInt64) (s:Int):Int×QR:=
 let r:=deadL (getI q i).l s
 if r.2≠0 then(r.2,q) else(0,becQ q (getI q i) r.1)
def dueI (q:QR):List It:=(q.its.map Prod.snd).filter fun z=>decide ((z.st=2∨z.st=3)∧z.due≤q.now)
def ltW (a b:It):Bool:=decide (a.due<b.due∨a.due=b.due∧a.id<b.id)
def leastI:List It→Option It
 |[]=>none
 |a::r=>match leastI r with
  |none=>some a
  |some b=>if ltW b a then some b else some a
def tickL:Nat→QR→Nat×QR
 |0,q=>(0,q)
 |k+1,q=>match leastI (dueI q) with
  |none=>(0,q)
  |some z=>((tickL k (becQ q z (passL z.l q.now.toNat q.del))).1+1,(tickL k (becQ q z (passL z.l q.now.toNat q.del))).2)
def tickQ (q:QR) (n:UInt64):Nat×Int×QR:=
 if 18446744073709551615 - q.now<n then(0,10,q) else((tickL 201 {q with now:=q.now+n}).1,0,(tickL 201 {q with now:=q.now+n}).2)
theorem WQ.get {q:QR} (h:WQ q) {i:UInt64} {z:It} (hz:look q i=some z):getI q i=z∧z.id=i:=by
 refine⟨?_,(h.idz hz).symm⟩
 unfold getI
 rw[hz];rfl
structure Lo (N:Nat) (q:QR):Prop where
 tu:q.turns.toNat≤N
 le:q.leases.toNat≤N
 de:q.dd.last.toNat≤N
theorem leaveQ_next (q:QR) (z:It) (n:UInt64):leaveQ {q with next:=n} z={leaveQ q z with next:=n}:=by
 unfold leaveQ
 dsimp only
 repeat' split
 all_goals rfl
theorem enterQ_next (q:QR) (z:It) (n:UInt64):enterQ {q with next:=n} z={enterQ q z with next:=n}:=by
 unfold enterQ putI
 dsimp only
 repeat' split
 all_goals rfl
theorem becQ_next (q:QR) (z:It) (l:L) (n:UInt64):becQ {q with next:=n} z l={becQ q z l with next:=n}:=by
 unfold becQ
 dsimp only
 rw[leaveQ_next]
 exact enterQ_next {leaveQ q z with turns:=if l.s=1 then(leaveQ q z).turns+1 else(leaveQ q z).turns} _ n
theorem wait_lf {q:QR} (x:L) (now more:Int) (h0:0≤x.c) (h1:x.c<q.del) (he:(waitL x now more).2=0):LfR q (waitL x now more).1∧(waitL x now more).1.t=0∧((waitL x now more).1.s=1∨(waitL x now more).1.s=2):=by
 unfold waitL at he⊢
 split
 · exact⟨.inl ⟨rfl,h0,h1,rfl,rfl⟩,rfl,.inl rfl⟩
 · rename_i h2
   rw[if_neg h2] at he
   split
   · rename_i h3
     rw[if_pos h3] at he
     simp at he
   · exact⟨.inr (.inl ⟨rfl,h0,h1,rfl⟩),rfl,.inr rfl⟩
theorem WQ.next {q:QR} (h:WQ q) (h0:q.next≠0):WQ {q with next:=q.next+1}:=by
 refine⟨h.cf,h.ln,h.nd,h.ky,fun z hz=> ?_,⟨h.co.row,h.co.srt,h.co.wat,h.co.hld,h.co.ded⟩,h.hn,h.dn⟩
 obtain⟨a1,a2,a3,a4,a5,a6⟩:=h.it z hz
 refine⟨a1,?_,a3,a4,a5,a6⟩
 rcases a2 with a2|a2
 · exact absurd a2 h0
 · by_cases e:q.next+1=0
   · exact .inl e
   · right
     show z.2.id<q.next+1
     rw[UInt64.lt_iff_toNat_lt] at a2⊢
     have:=q.next.toNat_lt
     have e2:(q.next+1).toNat≠0:=fun k=>e (UInt64.toNat_inj.1 k)
     rw[UInt64.toNat_add,show(1:UInt64).toNat=1 from rfl] at e2⊢
     omega
theorem WQ.put {q:QR} (h:WQ q) {N:Nat} (hN:N≤5000000000000000000) (hb:Lo N q) (lane:Int) (delay sg ps:UInt64) (size:Int):WQ (putQ q lane delay sg ps size).2.2:=by
 unfold putQ
 split
 · exact h
 rename_i h1
 split
 · exact h
 rename_i h2
 split
 · exact h
 rename_i h3
 split
 · exact h
 rename_i h4
 obtain⟨k1,k2,k3⟩:=wait_lf (q:=q) l0 q.now.toNat delay.toNat (Int.le_refl _) (by have:=h.cf;show(0:Int)<q.del;omega) (by simpa using h4)
 show WQ {becQ q (newI q lane sg ps size) _ with next:=q.next+1}
 rw[←becQ_next]
 have hfr:look q q.next=none:=by
  cases hz:look q q.next with
  |none=>rfl
  |some z=>
   have h5:=(h.it _ (look_in hz)).idn
   have h6:=h.idz hz
   rcases h5 with h5|h5
   · exact absurd h5 h3
   · have h5:z.id<q.next:=h5
     rw[←h6] at h5
     exact absurd h5 (UInt64.lt_irrefl _)
 have hn0:1≤q.next.toNat:=by
  have:q.next.toNat≠0:=fun k=>h3 (UInt64.toNat_inj.1 k)
  omega
 have hb1:=hb.tu
 refine(h.next h3).become (.inr ⟨hfr,rfl,by show q.its.length<200;omega,hn0,?_,?_,?_⟩) k1 (by show q.turns.toNat<_;omega) (by rw[k2];omega) (fun k=>by omega)
 · show q.next+1=0∨q.next<q.next+1
   by_cases e:q.next+1=0
   · exact .inl e
   · right
     have:=q.next.toNat_lt
     have e2:(q.next+1).toNat≠0:=fun k=>e (UInt64.toNat_inj.1 k)
     rw[UInt64.lt_iff_toNat_lt]
     rw[UInt64.toNat_add,show(1:UInt64).toNat=1 from rfl] at e2⊢
     omega
 · show 0≤lane∧lane<q.lanes
   omega
 · show 0≤size∧size≤q.pay
   omega
theorem peekL_some {q:QR} (h:WQ q) (lane:Int):∀(l:List Nat),(∀n∈l,n<8)→(peekL q lane l).2=0→∃i,look q i=some (peekL q lane l).1∧(peekL q lane l).1.st=1
 |[],_,he=>by simp[peekL] at he
 |n::r,hn,he=>by
  unfold peekL at he⊢
  split
  · rename_i h1
    rw[if_pos h1] at he
    exact peekL_some h lane r (fun m hm=>hn m (List.mem_cons_of_mem _ hm)) he
  · rename_i h1
    rw[if_neg h1] at he
    cases hr:q.rows n with
    |nil=>
     rw[hr] at he
     exact peekL_some h lane r (fun m hm=>hn m (List.mem_cons_of_mem _ hm)) he
    |cons i t=>
     dsimp only
     obtain⟨z,h1,h2,-⟩:=(h.co.row n (hn n (by simp)) i).1 (by rw[hr];simp)
     have:=(h.get h1).1
     rw[this]
     exact⟨i,h1,h2⟩
theorem peekQ_some {q:QR} (h:WQ q) (lane:Int) (he:(peekQ q lane).2=0):∃i,look q i=some (peekQ q lane).1∧(peekQ q lane).1.st=1:=by
 unfold peekQ at he⊢
 split
 · rename_i h1
   rw[if_pos h1] at he
   simp at he
 · rename_i h1
   rw[if_neg h1] at he
   refine peekL_some h lane _ (fun n hn=> ?_) he
   have:=h.cf
   rw[List.mem_range] at hn
   omega
theorem WQ.leases {q:QR} (h:WQ q) (hb:q.leases.toNat<18446744073709551615):WQ {q with leases:=q.leases+1}:=by
 refine⟨h.cf,h.ln,h.nd,h.ky,fun z hz=> ?_,⟨h.co.row,h.co.srt,h.co.wat,h.co.hld,h.co.ded⟩,h.hn,h.dn⟩
 obtain⟨a1,a2,a3,a4,a5,a6⟩:=h.it z hz
 refine⟨a1,a2,a3,a4,a5,?_⟩
 rcases a6 with a6|a6|⟨b1,b2,b3,b4,b5,b6⟩|a6
 · exact .inl a6
 · exact .inr (.inl a6)
 · refine .inr (.inr (.inl ⟨b1,b2,b3,b4,?_,b6⟩))
   show z.2.tok≤q.leases+1
   rw[UInt64.le_iff_toNat_le] at b5⊢
   rw[UInt64.toNat_add,show(1:UInt64).toNat=1 from rfl]
   omega
 · exact .inr (.inr (.inr a6))
theorem wrap_small {n:Int} (h0:0≤n) (h1:n≤1000):wrap64 (n+1)=n+1:=by
 unfold wrap64;omega
theorem WQ.lease {q:QR} (h:WQ q) {N:Nat} (hN:N≤5000000000000000000) (hb:Lo N q) (lane:Int) (span:UInt64):WQ (leaseQ q lane span).2.2:=by
 unfold leaseQ
 split
 · exact h
 split
 · exact h
 rename_i h1 h2
 dsimp only
 split
 · exact h
 rename_i h3
 have h2:(peekQ q lane).2=0:=by simpa using h2
 obtain⟨i,hz,hs⟩:=peekQ_some h lane h2
 obtain⟨z,hzz⟩:∃z,(peekQ q lane).1=z:=⟨_,rfl⟩
 rw[hzz] at hz hs h3⊢
 have hid:=h.idz hz
 subst hid
 have hr:=(h.it _ (look_in hz)).lf
 dsimp only at hr
 have hcf:=h.cf
 have hb1:=hb.tu
 have hb2:=hb.le
 have hle:(q.leases+1).toNat=q.leases.toNat+1:=by
  rw[UInt64.toNat_add,show(1:UInt64).toNat=1 from rfl];omega
 have hL:leaseL z.l q.now.toNat span.toNat (q.leases+1).toNat=(⟨3,z.ct+1,q.now.toNat+span.toNat,(q.leases+1).toNat⟩,0):=by
  unfold leaseL at h3⊢
  have e1:z.l.s=1:=hs
  rw[if_neg (by omega)] at h3⊢
  have e2:¬(span.toNat:Int)=0:=fun k=>h1 (UInt64.toNat_inj.1 (by rw[show(0:UInt64).toNat=0 from rfl];omega))
  rw[if_neg e2] at h3⊢
  split
  · rename_i h4
    rw[if_pos h4] at h3
    simp at h3
  · have:wrap64 (z.l.c+1)=z.ct+1:=wrap_small (n:=z.ct) (by omega) (by omega)
    rw[this]
 rw[hL]
 refine(h.leases (by omega)).become (l:=⟨3,z.ct+1,q.now.toNat+span.toNat,(q.leases+1).toNat⟩) (.inl hz) ?_ (by show q.turns.toNat<_;omega) ⟨Int.natCast_nonneg _,by have:=(q.leases+1).toNat_lt;show((q.leases+1).toNat:Int)≤_;omega⟩ fun _ j y hj hy hst=> ?_
 · refine .inr (.inr (.inl ⟨rfl,?_,?_,?_,?_⟩))
   · show 1≤z.ct+1;omega
   · show z.ct+1≤q.del;omega
   · show(1:Int)≤((q.leases+1).toNat:Int);omega
   · exact Int.le_refl _
 · have hy':=(h.it _ (look_in (q:=q) hy)).lf
   dsimp only at hy'
   rw[hst] at hy'
   simp only[show¬(3:Int)=1 by omega,show¬(3:Int)=2 by omega,show¬(3:Int)=4 by omega,false_and,false_or,or_false] at hy'
   intro e
   have e:y.tok=UInt64.ofNat (((q.leases+1).toNat:Int)).toNat:=e
   have h5:=hy'.2.2.2.2.1
   rw[e,UInt64.le_iff_toNat_le,UInt64.toNat_ofNat'] at h5
   omega
theorem end_lf {q:QR} (x:L) (h0:0≤x.c) (h1:x.c≤q.del):LfR q (endL x q.del)∧(endL x q.del).t=0∧(endL x q.del).s≠3:=by
 unfold endL
 split
 · exact⟨.inr (.inr (.inr (.inl ⟨rfl,by show x.c=q.del;omega,rfl,rfl⟩))),rfl,by show(4:Int)≠3;omega⟩
 · exact⟨.inl ⟨rfl,h0,by show x.c<q.del;omega,rfl,rfl⟩,rfl,by show(1:Int)≠3;omega⟩
theorem WQ.holder {q:QR} (h:WQ q) {t i:UInt64} (hi:q.hld.lookup t=some i):∃z,look q i=some z∧getI q i=z∧z.id=i∧z.st=3∧z.tok=t:=by
 obtain⟨z,h1,h2,h3⟩:=(h.co.hld t i).1 hi
 exact⟨z,h1,(h.get h1).1,(h.get h1).2,h2,h3⟩
theorem WQ.with {q:QR} (h:WQ q) {N:Nat} (hN:N≤5000000000000000000) (hb:Lo N q) (tok:UInt64) (f:L→L×Int)
 (hf:∀z:It,z.st=3→1≤z.ct→z.ct≤q.del→z.tok=tok→tok≤q.leases→1≤tok.toNat→(f z.l).2=0→LfR q (f z.l).1∧((f z.l).1.t=0∧(f z.l).1.s≠3∨(f z.l).1.t=tok.toNat)):WQ (withQ q tok f).2.2:=by
 unfold withQ
 cases hi:q.hld.lookup tok with
 |none=>exact h
 |some i=>
  obtain⟨z,h1,h2,h3,h4,h5⟩:=h.holder hi
  dsimp only
  rw[h2]
  split
  · exact h
  rename_i he
  have hr:=(h.it _ (look_in h1)).lf
  dsimp only at hr
  rw[h4] at hr
  simp only[show¬(3:Int)=1 by omega,show¬(3:Int)=2 by omega,show¬(3:Int)=4 by omega,false_and,false_or,or_false,true_and] at hr
  obtain⟨r1,r2,r3,r4,r5⟩:=hr
  rw[h5] at r3 r4
  obtain⟨k1,k2⟩:=hf z h4 r1 r2 h5 r4 r3 (by simpa using he)
  have hb1:=hb.tu
  have hlt:=tok.toNat_lt
  refine h.become (.inl (by rw[h3];exact h1)) k1 (by omega) (by omega) fun hs j y hj hy hst e=> ?_
  rcases k2 with ⟨-,k2⟩|k2
  · exact k2 hs
  · rw[k2] at e
    have e2:y.tok=tok:=by rw[e];simp
    have:=(h.co.hld tok j).2 ⟨y,hy,hst,e2⟩
    rw[hi] at this
    cases this
    exact hj h3.symm
theorem WQ.ack {q:QR} (h:WQ q) {N:Nat} (hN:N≤5000000000000000000) (hb:Lo N q) (tok:UInt64):WQ (ackQ q tok).2.2:=by
 refine h.with hN hb tok _ fun z h1 h2 h3 h4 h5 h6 he=> ?_
 have e:ackL z.l tok.toNat=(⟨5,0,0,0⟩,0):=by
  unfold ackL
  rw[if_pos]
  exact⟨h1,by show(z.tok.toNat:Int)=_;rw[h4]⟩
 rw[e]
 exact⟨.inr (.inr (.inr (.inr rfl))),.inl ⟨rfl,by show(5:Int)≠3;omega⟩⟩
theorem WQ.nack {q:QR} (h:WQ q) {N:Nat} (hN:N≤5000000000000000000) (hb:Lo N q) (tok delay:UInt64):WQ (nackQ q tok delay).2.2:=by
 refine h.with hN hb tok _ fun z h1 h2 h3 h4 h5 h6 he=> ?_
 have hc:z.l.s=3∧z.l.t=tok.toNat:=⟨h1,by show(z.tok.toNat:Int)=_;rw[h4]⟩
 unfold nackL at he⊢
 rw[if_pos hc] at he⊢
 split
 · have:=end_lf (q:=q) z.l (by show 0≤z.ct;omega) h3
   exact⟨this.1,.inl this.2⟩
 · rename_i hm
   rw[if_neg hm] at he
   obtain⟨k1,k2,k3⟩:=wait_lf (q:=q) z.l q.now.toNat delay.toNat (by show 0≤z.ct;omega) (by show z.ct<q.del;have:¬q.del≤z.ct:=hm;omega) he
   exact⟨k1,.inl ⟨k2,by omega⟩⟩
theorem WQ.extend {q:QR} (h:WQ q) {N:Nat} (hN:N≤5000000000000000000) (hb:Lo N q) (tok span:UInt64):WQ (extendQ q tok span).2.2:=by
 refine h.with hN hb tok _ fun z h1 h2 h3 h4 h5 h6 he=> ?_
 have hc:z.l.s=3∧z.l.t=tok.toNat:=⟨h1,by show(z.tok.toNat:Int)=_;rw[h4]⟩
 unfold extendL at he⊢
 rw[if_pos hc] at he⊢
 split
 · rename_i hm
   rw[if_pos hm] at he
   simp at he
 · rename_i hm
   rw[if_neg hm] at he
   split
   · rename_i hm2
     rw[if_pos hm2] at he
     simp at he
   · rw[UInt64.le_iff_toNat_le] at h5
     exact⟨.inr (.inr (.inl ⟨rfl,h2,h3,by show(1:Int)≤(tok.toNat:Int);omega,by show(tok.toNat:Int)≤_;omega⟩)),.inr rfl⟩
theorem WQ.deadQ {q:QR} (h:WQ q) {N:Nat} (hN:N≤5000000000000000000) (hb:Lo N q) (i:UInt64) (s:Int) (hs:s=1∨s=5):WQ (deadQ q i s).2:=by
 unfold Go.Proofs.YtcfgafododiioaaGreatDoor.deadQ
 dsimp only
 split
 · exact h
 rename_i he
 have hst:(getI q i).st=4:=by
  refine Classical.byContradiction fun k=>he ?_
  unfold deadL
  rw[if_neg (show¬(getI q i).l.s=4 from k)]
  show(5:Int)≠0
  omega
 have hd:deadL (getI q i).l s=(⟨s,0,0,0⟩,0):=by
  unfold deadL
  rw[if_pos (show(getI q i).l.s=4 from hst)]
 have hz:look q i=some (getI q i):=by
  unfold getI at hst⊢
  cases hq:look q i with
  |none=>rw[hq] at hst;simp[it0] at hst
  |some z=>rfl
 have hid:=h.idz hz
 have hcf:=h.cf
 have hb1:=hb.tu
 rw[hd]
 refine h.become (.inl (by rw[←hid];exact hz)) ?_ (by omega) ⟨Int.le_refl _,by show(0:Int)≤_;omega⟩ fun k=> ?_
 · rcases hs with rfl|rfl
   · exact .inl ⟨rfl,Int.le_refl _,by show(0:Int)<q.del;omega,rfl,rfl⟩
   · exact .inr (.inr (.inr (.inr rfl)))
 · have:s=3:=k
   omega
end Go.Proofs.YtcfgafododiioaaGreatDoor
namespace Go.Proofs.YtcfgafododiioaaGreatDoor
open Go Go.RowKit Go.Tum Go.ChangeMaps
theorem ltW_asymm {a b:It} (h:ltW a b=true):ltW b a=false:=by
 simp only[ltW,decide_eq_true_eq,decide_eq_false_iff_not,UInt64.lt_iff_toNat_lt,←UInt64.toNat_inj] at*
 omega
theorem ltW_total {a b c:It} (h1:ltW b a=false) (h2:ltW c b=false):ltW c a=false:=by
 simp only[ltW,decide_eq_true_eq,decide_eq_false_iff_not,UInt64.lt_iff_toNat_lt,←UInt64.toNat_inj] at*
 omega
theorem ltW_irrefl (a:It):ltW a a=false:=by
 simp only[ltW,decide_eq_false_iff_not,UInt64.lt_iff_toNat_lt]
 omega
theorem leastI_none {l:List It}:leastI l=none↔l=[]:=by
 cases l with
 |nil=>simp[leastI]
 |cons a r=>
  simp only[leastI,reduceCtorEq,iff_false]
  split
  · simp
  · split<;>simp
theorem leastI_some:∀{l:List It} {z:It},leastI l=some z→z∈l∧∀y∈l,ltW y z=false
 |[],_,h=>by simp[leastI] at h
 |a::r,z,h=>by
  unfold leastI at h
  cases hr:leastI r with
  |none=>
   rw[hr] at h
   cases h
   have:=leastI_none.1 hr
   subst this
   exact⟨by simp,fun y hy=>by rw[List.mem_singleton] at hy;subst hy;exact ltW_irrefl _⟩
  |some b=>
   rw[hr] at h
   obtain⟨k1,k2⟩:=leastI_some hr
   dsimp only at h
   cases hb:ltW b a with
   |true=>
    rw[hb,if_pos rfl] at h
    cases h
    refine⟨List.mem_cons_of_mem _ k1,fun y hy=> ?_⟩
    rcases List.mem_cons.1 hy with rfl|hy
    · exact ltW_asymm hb
    · exact k2 y hy
   |false=>
    rw[hb,if_neg (by simp)] at h
    cases h
    refine⟨by simp,fun y hy=> ?_⟩
    rcases List.mem_cons.1 hy with rfl|hy
    · exact ltW_irrefl _
    · exact ltW_total hb (k2 y hy)
theorem due_in {q:QR} {z:It} (h:WQ q) (hz:z∈dueI q):look q z.id=some z∧(z.st=2∨z.st=3)∧z.due≤q.now:=by
 unfold dueI at hz
 rw[List.mem_filter] at hz
 obtain⟨y,hy,rfl⟩:=List.mem_map.1 hz.1
 have h2:=hz.2
 rw[decide_eq_true_eq] at h2
 have h3:=h.lkz hy
 rw[h.ky y hy] at h3
 exact⟨h3,h2⟩
theorem pass_lf {q:QR} {z:It} (hr:ItR q z) (hs:z.st=2∨z.st=3) (hd:z.due≤q.now):
 LfR q (passL z.l q.now.toNat q.del)∧(passL z.l q.now.toNat q.del).t=0∧((passL z.l q.now.toNat q.del).s=1∨(passL z.l q.now.toNat q.del).s=4):=by
 have hlf:=hr.lf
 have e0:¬(q.now.toNat:Int)<z.l.d:=by
  show¬(q.now.toNat:Int)<(z.due.toNat:Int)
  rw[UInt64.le_iff_toNat_le] at hd
  omega
 unfold passL
 rw[if_neg e0]
 rcases hs with hs|hs
 · rw[if_pos (show z.l.s=2 from hs)]
   rw[hs] at hlf
   simp only[show¬(2:Int)=1 by omega,show¬(2:Int)=3 by omega,show¬(2:Int)=4 by omega,false_and,false_or,or_false,true_and] at hlf
   have ht:z.l.t=0:=by show(z.tok.toNat:Int)=0;rw[hlf.2.2.1];rfl
   exact⟨.inl ⟨rfl,hlf.1,hlf.2.1,rfl,ht⟩,ht,.inl rfl⟩
 · rw[if_neg (show¬z.l.s=2 by show¬z.st=2;omega),if_pos (show z.l.s=3 from hs)]
   rw[hs] at hlf
   simp only[show¬(3:Int)=1 by omega,show¬(3:Int)=2 by omega,show¬(3:Int)=4 by omega,false_and,false_or,or_false,true_and] at hlf
   obtain⟨k1,k2,-⟩:=end_lf (q:=q) z.l (by show 0≤z.ct;omega) hlf.2.1
   refine⟨k1,k2,?_⟩
   unfold endL
   split
   · exact .inr rfl
   · exact .inl rfl
theorem WQ.pass {q:QR} (h:WQ q) {z:It} (hz:look q z.id=some z) (hs:z.st=2∨z.st=3) (hd:z.due≤q.now) (ht:q.turns.toNat<18446744073709551615):WQ (becQ q z (passL z.l q.now.toNat q.del)):=by
 have hr:ItR q z:=h.it _ (look_in hz)
 obtain⟨k1,k2,k3⟩:=pass_lf hr hs hd
 exact h.become (.inl hz) k1 ht (by omega) fun k=>by omega
theorem bec_its {q:QR} {z:It} {l:L} (hs:l.s=1∨l.s=2∨l.s=3∨l.s=4):(becQ q z l).its=(z.id,becI q z l)::noK q.its z.id:=by
 unfold becQ
 dsimp only
 rw[enterQ_its _ _ (by show l.s=1∨l.s=2∨l.s=3∨l.s=4∨l.s=5;omega)]
 dsimp only
 rw[leaveQ_its]
 have:¬(becI q z l).st=5:=by show¬l.s=5;omega
 rw[if_neg this]
 rfl
theorem due_less {q:QR} (h:WQ q) {z:It} (hz:z∈dueI q):(dueI (becQ q z (passL z.l q.now.toNat q.del))).length+1=(dueI q).length:=by
 obtain⟨h1,h2,h3⟩:=due_in h hz
 have hr:ItR q z:=h.it _ (look_in h1)
 obtain⟨k1,k2,k3⟩:=pass_lf hr h2 h3
 obtain⟨l,hl⟩:∃l,passL z.l q.now.toNat q.del=l:=⟨_,rfl⟩
 rw[hl] at k3⊢
 have hn:(becQ q z l).now=q.now:=(becQ_same q z l).2.2.2.1
 have hp:=noK_perm (look_in h1) h.nd
 have hq:=(hp.map Prod.snd).filter fun z=>decide ((z.st=2∨z.st=3)∧z.due≤q.now)
 have hlen:=hq.length_eq
 unfold dueI
 rw[hn,bec_its (by omega),←hlen]
 rw[List.map_cons,List.map_cons,List.filter_cons_of_neg,List.filter_cons_of_pos]
 · simp
 · simpa using⟨h2,h3⟩
 · have:(becI q z l).st=l.s:=rfl
   simp only[decide_eq_true_eq,not_and]
   intro k
   omega
theorem tick_all:∀(k:Nat) (q:QR),WQ q→q.turns.toNat+k<18446744073709551615→WQ (tickL k q).2∧(tickL k q).2.turns.toNat≤q.turns.toNat+k∧(tickL k q).2.leases=q.leases∧(tickL k q).2.now=q.now∧((dueI q).length≤k→dueI (tickL k q).2=[])
 |0,q,h,_=>⟨h,Nat.le_refl _,rfl,rfl,fun e=>List.length_eq_zero_iff.1 (Nat.le_zero.1 e)⟩
 |k+1,q,h,hb=>by
  unfold tickL
  cases hl:leastI (dueI q) with
  |none=>exact⟨h,Nat.le_add_right _ _,rfl,rfl,fun _=>leastI_none.1 hl⟩
  |some z=>
   dsimp only
   have hz:=(leastI_some hl).1
   obtain⟨h1,h2,h3⟩:=due_in h hz
   obtain⟨a1,a2,a3,a4,a5,a6,a7⟩:=becQ_same q z (passL z.l q.now.toNat q.del)
   have hw:=h.pass h1 h2 h3 (by omega)
   have htn:(becQ q z (passL z.l q.now.toNat q.del)).turns.toNat≤q.turns.toNat+1:=by
    rw[a7]
    split
    · rw[UInt64.toNat_add,show(1:UInt64).toNat=1 from rfl];omega
    · omega
   obtain⟨b1,b2,b3,b4,b5⟩:=tick_all k _ hw (by omega)
   have hd:=due_less h hz
   exact⟨b1,by omega,b3.trans a6,b4.trans a4,fun e=>b5 (by omega)⟩
theorem WQ.clock {q:QR} (h:WQ q) (n:UInt64):WQ {q with now:=n}:=⟨h.cf,h.ln,h.nd,h.ky,fun z hz=>by
 obtain⟨a1,a2,a3,a4,a5,a6⟩:=h.it z hz
 exact⟨a1,a2,a3,a4,a5,a6⟩,⟨h.co.row,h.co.srt,h.co.wat,h.co.hld,h.co.ded⟩,h.hn,h.dn⟩
def lesI (q:QR):List It:=(q.its.map Prod.snd).filter fun z=>decide (z.st=3)
def sortW (l:List It):List It:=l.mergeSort fun x y=> !(ltW y x)
theorem sortW_perm (l:List It):(sortW l).Perm l:=List.mergeSort_perm _ _
def resL (d:Int):List It→QR→QR
 |[],q=>q
 |z::r,q=>resL d r (becQ q z (resetL z.l d))
def resetQ (q:QR):QR:=resL q.del (sortW (lesI q)) q
theorem reset_lf {q:QR} {z:It} (hr:ItR q z) (hs:z.st=3):LfR q (resetL z.l q.del)∧(resetL z.l q.del).t=0∧((resetL z.l q.del).s=1∨(resetL z.l q.del).s=4):=by
 have hlf:=hr.lf
 unfold resetL
 rw[if_pos (show z.l.s=3 from hs)]
 rw[hs] at hlf
 simp only[show¬(3:Int)=1 by omega,show¬(3:Int)=2 by omega,show¬(3:Int)=4 by omega,false_and,false_or,or_false,true_and] at hlf
 obtain⟨k1,k2,-⟩:=end_lf (q:=q) z.l (by show 0≤z.ct;omega) hlf.2.1
 refine⟨k1,k2,?_⟩
 unfold endL
 split
 · exact .inr rfl
 · exact .inl rfl
theorem les_in {q:QR} (h:WQ q) {z:It} (hz:z∈lesI q):look q z.id=some z∧z.st=3:=by
 unfold lesI at hz
 rw[List.mem_filter] at hz
 obtain⟨y,hy,rfl⟩:=List.mem_map.1 hz.1
 have h3:=h.lkz hy
 rw[h.ky y hy] at h3
 exact⟨h3,by simpa using hz.2⟩
theorem WQ.ids {q:QR} (h:WQ q):(q.its.map Prod.snd).map It.id=q.its.map Prod.fst:=by
 rw[List.map_map]
 exact List.map_congr_left fun z hz=>(h.ky z hz).symm
end Go.Proofs.YtcfgafododiioaaGreatDoor
namespace Go.Proofs.YtcfgafododiioaaGreatDoor
open Go Go.RowKit Go.Tum Go.ChangeMaps
structure SameQ (q r:QR):Prop where
 la:q.lanes=r.lanes
 pa:q.pay=r.pay
 de:q.del=r.del
 no:q.now=r.now
 ne:q.next=r.next
 le:q.leases=r.leases
 tu:q.turns=r.turns
 lk:look q=look r
 dd:q.dd=r.dd
theorem nodup_of_map {α β:Type} {f:α→β} {l:List α} (h:(l.map f).Nodup):l.Nodup:=by
 unfold List.Nodup at*
 rw[List.pairwise_map] at h
 exact h.imp fun h e=>h (by rw[e])
section
variable {q r : QR} (hq : WQ q) (hr : WQ r) (h : SameQ q r)
include hq hr h
theorem SameQ.perm:q.its.Perm r.its:=by
 refine(List.perm_ext_iff_of_nodup (nodup_of_map hq.nd) (nodup_of_map hr.nd)).2 fun z=> ?_
 have h1:∀s:QR,WQ s→(z∈s.its↔look s z.1=some z.2):=fun s hs=>⟨fun k=>hs.lkz k,fun k=>look_in k⟩
 rw[h1 q hq,h1 r hr,h.lk]
theorem SameQ.rows {n:Nat} (hn:n<8):q.rows n=r.rows n:=by
 have hp:(q.rows n).Perm (r.rows n):=by
  refine(List.perm_ext_iff_of_nodup (hq.rowlen hn).2 (hr.rowlen hn).2).2 fun i=> ?_
  rw[hq.co.row n hn,hr.co.row n hn,h.lk]
 refine List.Perm.eq_of_pairwise (le:=fun a b=>∀y z,look q a=some y→look q b=some z→y.turn<z.turn) (fun a b ha hb h1 h2=> ?_) (hq.co.srt n hn) (by rw[h.lk];exact hr.co.srt n hn) hp
 obtain⟨y,hy,-⟩:=(hq.co.row n hn a).1 ha
 obtain⟨z,hz,-⟩:=(hr.co.row n hn b).1 hb
 rw[←h.lk] at hz
 have k1:=h1 y z hy hz
 have k2:=h2 z y hz hy
 rw[UInt64.lt_iff_toNat_lt] at k1 k2
 omega
theorem SameQ.hld (t:UInt64):q.hld.lookup t=r.hld.lookup t:=by
 have h1:∀i,q.hld.lookup t=some i↔r.hld.lookup t=some i:=fun i=>by rw[hq.co.hld,hr.co.hld,h.lk]
 cases hx:q.hld.lookup t with
 |some i=>exact((h1 i).1 hx).symm
 |none=>
  cases hy:r.hld.lookup t with
  |none=>rfl
  |some i=>rw[(h1 i).2 hy] at hx;cases hx
end
theorem SameQ.bec {q r:QR} (h:SameQ q r) (z:It) (l:L) (hs:l.s=1∨l.s=2∨l.s=3∨l.s=4∨l.s=5):SameQ (becQ q z l) (becQ r z l)∧becI q z l=becI r z l:=by
 obtain⟨a1,a2,a3,a4,a5,a6,a7⟩:=becQ_same q z l
 obtain⟨b1,b2,b3,b4,b5,b6,b7⟩:=becQ_same r z l
 have hi:becI q z l=becI r z l:=by unfold becI;rw[h.tu]
 refine⟨⟨by rw[a1,b1,h.la],by rw[a2,b2,h.pa],by rw[a3,b3,h.de],by rw[a4,b4,h.no],by rw[a5,b5,h.ne],by rw[a6,b6,h.le],by rw[a7,b7,h.tu],?_,?_⟩,hi⟩
 · have k:∀s:QR,look (becQ s z l)=entG (delG (look s) z.id) (becI s z l):=fun s=>by
    unfold becQ
    dsimp only
    rw[look_enter _ _ hs]
    have:look {leaveQ s z with turns:=if l.s=1 then(leaveQ s z).turns+1 else(leaveQ s z).turns}=look s:=by unfold look;rw[leaveQ_its]
    rw[this]
    rfl
   rw[k q,k r,h.lk,hi]
 · have h1:(leaveQ q z).dd=(leaveQ r z).dd:=by
    unfold leaveQ
    split
    · exact h.dd
    split
    · exact h.dd
    split
    · exact h.dd
    split
    · show(dropD q.dd z.id).2=(dropD r.dd z.id).2
      rw[h.dd]
    · exact h.dd
   have h2:∀(s t:QR) (y:It),s.dd=t.dd→(enterQ s y).dd=(enterQ t y).dd:=fun s t y e=>by
    unfold enterQ putI
    split
    · exact e
    split
    · exact e
    split
    · exact e
    split
    · show(addD s.dd y.id).2=(addD t.dd y.id).2
      rw[e]
    split
    · exact e
    · exact e
   unfold becQ
   dsimp only
   rw[hi]
   exact h2 _ _ _ h1
theorem wait_s (x:L) (now more:Int) (he:(waitL x now more).2=0):(waitL x now more).1.s=1∨(waitL x now more).1.s=2:=by
 unfold waitL at he⊢
 split
 · exact .inl rfl
 · rename_i h2
   rw[if_neg h2] at he
   split
   · rename_i h3
     rw[if_pos h3] at he
     simp at he
   · exact .inr rfl
section
variable {q r : QR} (hq : WQ q) (hr : WQ r) (h : SameQ q r)
include hq hr h
theorem SameQ.put (lane:Int) (delay sg ps:UInt64) (size:Int):(putQ q lane delay sg ps size).1=(putQ r lane delay sg ps size).1∧(putQ q lane delay sg ps size).2.1=(putQ r lane delay sg ps size).2.1∧SameQ (putQ q lane delay sg ps size).2.2 (putQ r lane delay sg ps size).2.2:=by
 have hl:=(h.perm hq hr).length_eq
 unfold putQ newI
 rw[←h.la,←h.pa,←hl,←h.ne,←h.no]
 split
 · exact⟨rfl,rfl,h⟩
 split
 · exact⟨rfl,rfl,h⟩
 split
 · exact⟨rfl,rfl,h⟩
 split
 · exact⟨rfl,rfl,h⟩
 rename_i h4
 refine⟨rfl,rfl,?_⟩
 have k:=(h.bec ⟨q.next,lane,0,0,0,0,0,sg,ps,size⟩ (waitL l0 q.now.toNat delay.toNat).1 (by have:=wait_s l0 q.now.toNat delay.toNat (by simpa using h4);omega)).1
 exact⟨k.la,k.pa,k.de,k.no,rfl,k.le,k.tu,k.lk,k.dd⟩
theorem SameQ.peekL (lane:Int):∀l:List Nat,(∀n∈l,n<8)→Go.Proofs.YtcfgafododiioaaGreatDoor.peekL q lane l=Go.Proofs.YtcfgafododiioaaGreatDoor.peekL r lane l
 |[],_=>rfl
 |n::t,hn=>by
  unfold Go.Proofs.YtcfgafododiioaaGreatDoor.peekL
  rw[SameQ.peekL lane t fun m hm=>hn m (List.mem_cons_of_mem _ hm),h.rows hq hr (hn n (by simp))]
  unfold getI
  rw[h.lk]
theorem SameQ.peek (lane:Int):peekQ q lane=peekQ r lane:=by
 unfold peekQ
 rw[←h.la,h.peekL hq hr lane _ fun n hn=>by
  have:=hq.cf
  rw[List.mem_range] at hn
  omega]
theorem SameQ.lease (lane:Int) (span:UInt64):(leaseQ q lane span).1=(leaseQ r lane span).1∧(leaseQ q lane span).2.1=(leaseQ r lane span).2.1∧SameQ (leaseQ q lane span).2.2 (leaseQ r lane span).2.2:=by
 unfold leaseQ
 rw[h.peek hq hr lane,←h.no,←h.le]
 split
 · exact⟨rfl,rfl,h⟩
 split
 · exact⟨rfl,rfl,h⟩
 dsimp only
 split
 · exact⟨rfl,rfl,h⟩
 rename_i h3
 have hs:(leaseL (peekQ r lane).1.l q.now.toNat span.toNat (q.leases+1).toNat).1.s=3:=by
  unfold leaseL at h3⊢
  repeat' split
  all_goals first|rfl|(exfalso;simp_all)
 have h':SameQ {q with leases:=q.leases+1} {r with now:=q.now,leases:=q.leases+1}:=⟨h.la,h.pa,h.de,rfl,h.ne,rfl,h.tu,h.lk,h.dd⟩
 refine⟨?_,rfl,(h'.bec (peekQ r lane).1 (leaseL (peekQ r lane).1.l q.now.toNat span.toNat (q.leases+1).toNat).1 (by omega)).1⟩
 unfold becI;rw[h.tu]
theorem SameQ.with (tok:UInt64) (f:L→L×Int) (hf:∀x,(f x).2=0→(f x).1.s=1∨(f x).1.s=2∨(f x).1.s=3∨(f x).1.s=4∨(f x).1.s=5):(withQ q tok f).1=(withQ r tok f).1∧(withQ q tok f).2.1=(withQ r tok f).2.1∧SameQ (withQ q tok f).2.2 (withQ r tok f).2.2:=by
 unfold withQ
 rw[h.hld hq hr]
 cases r.hld.lookup tok with
 |none=>exact⟨rfl,rfl,h⟩
 |some i=>
  have hg:getI q i=getI r i:=by unfold getI;rw[h.lk]
  dsimp only
  rw[hg]
  split
  · exact⟨rfl,rfl,h⟩
  · rename_i he
    have k:=h.bec (getI r i) (f (getI r i).l).1 (hf _ (by simpa using he))
    exact⟨k.2,rfl,k.1⟩
end
theorem SameQ.deadq {q r:QR} (h:SameQ q r) (i:UInt64) (s:Int) (hs:s=1∨s=5):(deadQ q i s).1=(deadQ r i s).1∧SameQ (deadQ q i s).2 (deadQ r i s).2:=by
 have hg:getI q i=getI r i:=by unfold getI;rw[h.lk]
 unfold deadQ
 dsimp only
 rw[hg]
 split
 · exact⟨rfl,h⟩
 · rename_i he
   refine⟨rfl,(h.bec _ _ ?_).1⟩
   unfold deadL at he⊢
   split
   · show s=1∨s=2∨s=3∨s=4∨s=5
     omega
   · rename_i hd
     rw[if_neg hd] at he
     simp at he
theorem SameQ.due {q r:QR} (hq:WQ q) (hr:WQ r) (h:SameQ q r):leastI (dueI q)=leastI (dueI r):=by
 have hp:(dueI q).Perm (dueI r):=by
  unfold dueI
  rw[←h.no]
  exact((h.perm hq hr).map Prod.snd).filter _
 cases hx:leastI (dueI q) with
 |none=>
  have:=leastI_none.1 hx
  rw[this] at hp
  rw[leastI_none.2 (List.nil_perm.1 hp)]
 |some z=>
  obtain⟨z1,z2⟩:=leastI_some hx
  cases hy:leastI (dueI r) with
  |none=>
   have:=leastI_none.1 hy
   rw[this] at hp
   rw[List.perm_nil.1 hp] at z1
   simp at z1
  |some y=>
   obtain⟨y1,y2⟩:=leastI_some hy
   have k1:=z2 y (hp.mem_iff.2 y1)
   have k2:=y2 z (hp.mem_iff.1 z1)
   have l1:=(due_in hq z1).1
   have l2:=(due_in hq (hp.mem_iff.2 y1)).1
   have hid:z.id=y.id:=by
    simp only[ltW,decide_eq_false_iff_not,UInt64.lt_iff_toNat_lt,←UInt64.toNat_inj] at k1 k2⊢
    omega
   rw[hid,l2] at l1
   cases l1
   rfl
theorem SameQ.tickL:∀(k:Nat) {q r:QR},WQ q→WQ r→SameQ q r→q.turns.toNat+k<18446744073709551615→(Go.Proofs.YtcfgafododiioaaGreatDoor.tickL k q).1=(Go.Proofs.YtcfgafododiioaaGreatDoor.tickL k r).1∧SameQ (Go.Proofs.YtcfgafododiioaaGreatDoor.tickL k q).2 (Go.Proofs.YtcfgafododiioaaGreatDoor.tickL k r).2
 |0,q,r,_,_,h,_=>⟨rfl,h⟩
 |k+1,q,r,hq,hr,h,hb=>by
  unfold Go.Proofs.YtcfgafododiioaaGreatDoor.tickL
  rw[←h.due hq hr]
  cases hl:leastI (dueI q) with
  |none=>exact⟨rfl,h⟩
  |some z=>
   dsimp only
   have hz:=(leastI_some hl).1
   obtain⟨h1,h2,h3⟩:=due_in hq hz
   have hzr:ItR q z:=hq.it _ (look_in h1)
   obtain⟨k1,k2,k3⟩:=pass_lf hzr h2 h3
   rw[←h.no,←h.de]
   have hs:=(h.bec z (passL z.l q.now.toNat q.del) (by omega)).1
   have hwq:=hq.pass h1 h2 h3 (by omega)
   have h1r:look r z.id=some z:=by rw[←h.lk];exact h1
   have hwr:WQ (becQ r z (passL z.l r.now.toNat r.del)):=hr.pass h1r h2 (by rw[←h.no];exact h3) (by rw[←h.tu];omega)
   rw[←h.no,←h.de] at hwr
   obtain⟨a1,a2,a3,a4,a5,a6,a7⟩:=becQ_same q z (passL z.l q.now.toNat q.del)
   have htn:(becQ q z (passL z.l q.now.toNat q.del)).turns.toNat≤q.turns.toNat+1:=by
    rw[a7]
    split
    · rw[UInt64.toNat_add,show(1:UInt64).toNat=1 from rfl];omega
    · omega
   obtain⟨b1,b2⟩:=SameQ.tickL k hwq hwr hs (by omega)
   exact⟨by rw[b1],b2⟩
theorem SameQ.tick {q r:QR} (hq:WQ q) (hr:WQ r) (h:SameQ q r) (hb:q.turns.toNat+201<18446744073709551615) (n:UInt64):(tickQ q n).1=(tickQ r n).1∧(tickQ q n).2.1=(tickQ r n).2.1∧SameQ (tickQ q n).2.2 (tickQ r n).2.2:=by
 unfold tickQ
 rw[←h.no]
 split
 · exact⟨rfl,rfl,h⟩
 · have h':SameQ {q with now:=q.now+n} {r with now:=q.now+n}:=⟨h.la,h.pa,h.de,rfl,h.ne,h.le,h.tu,h.lk,h.dd⟩
   obtain⟨a,b⟩:=SameQ.tickL 201 (hq.clock _) (hr.clock _) h' hb
   exact⟨a,rfl,b⟩
theorem sortW_same {l m:List It} (h:l.Perm m) (hn:(l.map It.id).Nodup):sortW l=sortW m:=by
 have hle:∀k:List It,(sortW k).Pairwise fun x y=>ltW y x=false:=fun k=>by
  have:=List.pairwise_mergeSort (le:=fun x y=> !(ltW y x)) (fun a b c h1 h2=>by
   simp only[Bool.not_eq_true'] at*
   exact ltW_total h1 h2) (fun a b=>by
   cases hb:ltW b a with
   |false=>rfl
   |true=>simp[ltW_asymm hb]) k
  exact this.imp fun h=>by simpa using h
 refine List.Perm.eq_of_pairwise (le:=fun x y=>ltW y x=false) (fun a b ha hb h1 h2=> ?_) (hle l) (hle m) (((sortW_perm l).trans h).trans (sortW_perm m).symm)
 have hid:a.id=b.id:=by
  simp only[ltW,decide_eq_false_iff_not,UInt64.lt_iff_toNat_lt,←UInt64.toNat_inj] at h1 h2⊢
  omega
 have ha':a∈l:=(sortW_perm l).mem_iff.1 ha
 have hb':b∈l:=h.mem_iff.2 ((sortW_perm m).mem_iff.1 hb)
 have hp:=hn
 unfold List.Nodup at hp
 rw[List.pairwise_map] at hp
 obtain⟨i,hi,e1⟩:=List.mem_iff_getElem.1 ha'
 obtain⟨j,hj,e2⟩:=List.mem_iff_getElem.1 hb'
 have hij:i=j:=by
  have:=List.pairwise_iff_getElem.1 hp
  rcases Nat.lt_trichotomy i j with k|k|k
  · exact absurd (by rw[e1,e2];exact hid) (this i j hi hj k)
  · exact k
  · exact absurd (by rw[e1,e2];exact hid.symm) (this j i hj hi k)
 subst hij
 rw[←e1,←e2]
theorem les_nd {q:QR} (h:WQ q):((lesI q).map It.id).Nodup:=by
 have:(lesI q).map It.id=((q.its.map Prod.snd).filter fun z=>decide (z.st=3)).map It.id:=rfl
 rw[this]
 refine(List.filter_sublist.map It.id).nodup ?_
 rw[h.ids]
 exact h.nd
theorem SameQ.resL:∀(l:List It) {q r:QR} (d:Int),SameQ q r→(∀z∈l,(resetL z.l d).s=1∨(resetL z.l d).s=4)→SameQ (Go.Proofs.YtcfgafododiioaaGreatDoor.resL d l q) (Go.Proofs.YtcfgafododiioaaGreatDoor.resL d l r)
 |[],_,_,_,h,_=>h
 |z::t,q,r,d,h,hs=>by
  unfold Go.Proofs.YtcfgafododiioaaGreatDoor.resL
  exact SameQ.resL t d (h.bec z (resetL z.l d) (by have:=hs z (by simp);omega)).1 fun y hy=>hs y (List.mem_cons_of_mem _ hy)
theorem SameQ.reset {q r:QR} (hq:WQ q) (hr:WQ r) (h:SameQ q r):SameQ (resetQ q) (resetQ r):=by
 have hp:(lesI q).Perm (lesI r):=((h.perm hq hr).map Prod.snd).filter _
 unfold resetQ
 rw[←sortW_same hp (les_nd hq),←h.de]
 refine SameQ.resL _ _ h fun z hz=> ?_
 obtain⟨h1,h2⟩:=les_in hq ((sortW_perm _).mem_iff.1 hz)
 have hzr:ItR q z:=hq.it _ (look_in h1)
 exact(reset_lf hzr h2).2.2
end Go.Proofs.YtcfgafododiioaaGreatDoor
