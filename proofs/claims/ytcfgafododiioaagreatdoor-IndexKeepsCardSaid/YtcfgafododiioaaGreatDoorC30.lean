/- Texts of a claim, side by side. -/
import Derived.Test.YtcfgafododiioaaGreatDoorC20
set_option linter.unusedSimpArgs false
set_option linter.unusedVariables false
namespace Go.Proofs.YtcfgafododiioaaGreatDoor
open Go Go.RowKit Go.Tum Go.ChangeMaps
structure Ai where
 dn:Int
 lane:Int
 many:Int
 id:UInt64
 n:UInt64
 name:Nm
 sg:UInt64
 ps:UInt64
 size:Int
structure An where
 e:Int
 id:UInt64
 it:It
 many:Int
 is:Bool
 ids:List UInt64
def an0:An:=⟨0,0,it0,0,false,[]⟩
inductive Kd|a0|a1|a2|a3|a4|a5|a6|a7|a8|a9|a10|a11
def actB (q:QR) (a:Ai):Kd→An×QR
 | .a0=>({an0 with id:=(putQ q a.lane a.n a.sg a.ps a.size).1,e:=(putQ q a.lane a.n a.sg a.ps a.size).2.1},(putQ q a.lane a.n a.sg a.ps a.size).2.2)
 | .a1=>({an0 with it:=(leaseQ q a.lane a.n).1,e:=(leaseQ q a.lane a.n).2.1},(leaseQ q a.lane a.n).2.2)
 | .a2=>({an0 with it:=(ackQ q a.id).1,e:=(ackQ q a.id).2.1},(ackQ q a.id).2.2)
 | .a3=>({an0 with it:=(nackQ q a.id a.n).1,e:=(nackQ q a.id a.n).2.1},(nackQ q a.id a.n).2.2)
 | .a4=>({an0 with it:=(extendQ q a.id a.n).1,e:=(extendQ q a.id a.n).2.1},(extendQ q a.id a.n).2.2)
 | .a5=>({an0 with many:=((tickQ q a.n).1:Int),e:=(tickQ q a.n).2.1},(tickQ q a.n).2.2)
 | .a6=>({an0 with e:=(deadQ q a.id 1).1},(deadQ q a.id 1).2)
 | .a7=>({an0 with e:=(deadQ q a.id 5).1},(deadQ q a.id 5).2)
 | .a8=>({an0 with ids:=(nextD q.dd a.name a.many).1,e:=(nextD q.dd a.name a.many).2.1},{q with dd:=(nextD q.dd a.name a.many).2.2})
 | .a9=>(an0,resetQ q)
 | .a10=>({an0 with it:=(peekQ q a.lane).1,e:=(peekQ q a.lane).2},q)
 | .a11=>({an0 with it:=getI q a.id,is:=(look q a.id).isSome},q)
theorem actB0 (q:QR) (a:Ai):actB q a .a0=({an0 with id:=(putQ q a.lane a.n a.sg a.ps a.size).1,e:=(putQ q a.lane a.n a.sg a.ps a.size).2.1},(putQ q a.lane a.n a.sg a.ps a.size).2.2):=rfl
theorem actB1 (q:QR) (a:Ai):actB q a .a1=({an0 with it:=(leaseQ q a.lane a.n).1,e:=(leaseQ q a.lane a.n).2.1},(leaseQ q a.lane a.n).2.2):=rfl
theorem actB2 (q:QR) (a:Ai):actB q a .a2=({an0 with it:=(ackQ q a.id).1,e:=(ackQ q a.id).2.1},(ackQ q a.id).2.2):=rfl
theorem actB3 (q:QR) (a:Ai):actB q a .a3=({an0 with it:=(nackQ q a.id a.n).1,e:=(nackQ q a.id a.n).2.1},(nackQ q a.id a.n).2.2):=rfl
theorem actB4 (q:QR) (a:Ai):actB q a .a4=({an0 with it:=(extendQ q a.id a.n).1,e:=(extendQ q a.id a.n).2.1},(extendQ q a.id a.n).2.2):=rfl
theorem actB5 (q:QR) (a:Ai):actB q a .a5=({an0 with many:=((tickQ q a.n).1:Int),e:=(tickQ q a.n).2.1},(tickQ q a.n).2.2):=rfl
theorem actB6 (q:QR) (a:Ai):actB q a .a6=({an0 with e:=(deadQ q a.id 1).1},(deadQ q a.id 1).2):=rfl
theorem actB7 (q:QR) (a:Ai):actB q a .a7=({an0 with e:=(deadQ q a.id 5).1},(deadQ q a.id 5).2):=rfl
theorem actB8 (q:QR) (a:Ai):actB q a .a8=({an0 with ids:=(nextD q.dd a.name a.many).1,e:=(nextD q.dd a.name a.many).2.1},{q with dd:=(nextD q.dd a.name a.many).2.2}):=rfl
theorem actB9 (q:QR) (a:Ai):actB q a .a9=(an0,resetQ q):=rfl
theorem actB10 (q:QR) (a:Ai):actB q a .a10=({an0 with it:=(peekQ q a.lane).1,e:=(peekQ q a.lane).2},q):=rfl
theorem actB11 (q:QR) (a:Ai):actB q a .a11=({an0 with it:=getI q a.id,is:=(look q a.id).isSome},q):=rfl
def kindI (a:Ai):Kd:=if a.dn=0 then .a0 else if a.dn=1 then .a1 else if a.dn=2 then .a2 else if a.dn=3 then .a3 else if a.dn=4 then .a4 else if a.dn=5 then .a5 else if a.dn=6 then .a6 else if a.dn=7 then .a7 else if a.dn=8 then .a8 else if a.dn=9 then .a9 else if a.dn=10 then .a10 else .a11
def actI (q:QR) (a:Ai):An×QR:=actB q a (kindI a)
theorem put_err {q:QR} {lane:Int} {d sg ps:UInt64} {size:Int} (h:(putQ q lane d sg ps size).2.1≠0):(putQ q lane d sg ps size).2.2=q∧(putQ q lane d sg ps size).1=0:=by
 unfold putQ at h⊢
 repeat' split
 all_goals first|exact⟨rfl,rfl⟩|(exfalso;simp_all)
theorem lease_err {q:QR} {lane:Int} {n:UInt64} (h:(leaseQ q lane n).2.1≠0):(leaseQ q lane n).2.2=q∧(leaseQ q lane n).1=it0:=by
 unfold leaseQ at h⊢
 dsimp only at h⊢
 repeat' split
 all_goals first|exact⟨rfl,rfl⟩|(exfalso;simp_all)
theorem with_err {q:QR} {t:UInt64} {f:L→L×Int} (h:(withQ q t f).2.1≠0):(withQ q t f).2.2=q∧(withQ q t f).1=it0:=by
 unfold withQ at h⊢
 cases hl:q.hld.lookup t with
 |none=>exact⟨rfl,rfl⟩
 |some i=>
  rw[hl] at h
  dsimp only at h⊢
  split
  · exact⟨rfl,rfl⟩
  · rename_i k
    rw[if_neg k] at h
    exact absurd rfl h
theorem tick_err {q:QR} {n:UInt64} (h:(tickQ q n).2.1≠0):(tickQ q n).2.2=q∧(tickQ q n).1=0:=by
 unfold tickQ at h⊢
 split
 · exact⟨rfl,rfl⟩
 · rename_i k
   rw[if_neg k] at h
   exact absurd rfl h
theorem dead_err {q:QR} {i:UInt64} {s:Int} (h:(deadQ q i s).1≠0):(deadQ q i s).2=q:=by
 unfold deadQ at h⊢
 dsimp only at h⊢
 split
 · rfl
 · rename_i k
   rw[if_neg k] at h
   exact absurd rfl h
theorem seen_err {s:PD} {name:Nm} {n:Int} (h:(nextD s name n).2.1≠0):(nextD s name n).2.2=s∧(nextD s name n).1=[]:=by
 unfold nextD at h⊢
 repeat' split
 all_goals first|exact⟨rfl,rfl⟩|(exfalso;simp_all)
theorem actB_err {q:QR} {a:Ai}:∀{k:Kd},(actB q a k).1.e≠0→(actB q a k).2=q∧(actB q a k).1.id=0∧(actB q a k).1.many=0∧(actB q a k).1.ids=[]∧(actB q a k).1.it=it0∨k= .a10
 | .a0,h=>by rw[actB0] at h⊢;have:=put_err (q:=q) h;exact .inl ⟨this.1,this.2,rfl,rfl,rfl⟩
 | .a1,h=>by rw[actB1] at h⊢;have:=lease_err (q:=q) h;exact .inl ⟨this.1,rfl,rfl,rfl,this.2⟩
 | .a2,h=>by rw[actB2] at h⊢;have:=with_err (q:=q) h;exact .inl ⟨this.1,rfl,rfl,rfl,this.2⟩
 | .a3,h=>by rw[actB3] at h⊢;have:=with_err (q:=q) h;exact .inl ⟨this.1,rfl,rfl,rfl,this.2⟩
 | .a4,h=>by rw[actB4] at h⊢;have:=with_err (q:=q) h;exact .inl ⟨this.1,rfl,rfl,rfl,this.2⟩
 | .a5,h=>by
  rw[actB5] at h⊢
  have hk:=tick_err (q:=q) (n:=a.n)
  obtain⟨T,hT⟩:∃T,tickQ q a.n=T:=⟨_,rfl⟩
  rw[hT] at h hk⊢
  have:=hk h
  exact .inl ⟨this.1,rfl,by show((T.1:Nat):Int)=0;rw[this.2];rfl,rfl,rfl⟩
 | .a6,h=>by rw[actB6] at h⊢;have:=dead_err (q:=q) h;exact .inl ⟨this,rfl,rfl,rfl,rfl⟩
 | .a7,h=>by rw[actB7] at h⊢;have:=dead_err (q:=q) h;exact .inl ⟨this,rfl,rfl,rfl,rfl⟩
 | .a8,h=>by rw[actB8] at h⊢;have:=seen_err (s:=q.dd) h;exact .inl ⟨by show{q with dd:=(nextD q.dd a.name a.many).2.2}=q;rw[this.1],rfl,rfl,this.2,rfl⟩
 | .a9,h=>by rw[actB9] at h;exact absurd rfl h
 | .a10,_=> .inr rfl
 | .a11,h=>by rw[actB11] at h;exact absurd rfl h
theorem peek_err {q:QR} {lane:Int} (h:(peekQ q lane).2≠0):(peekQ q lane).1=it0:=by
 have hl:∀l,(peekL q lane l).2≠0→(peekL q lane l).1=it0:=by
  intro l
  induction l with
  |nil=>exact fun _=>rfl
  |cons n r ih=>
   intro h
   unfold peekL at h⊢
   split
   · rename_i k;rw[if_pos k] at h;exact ih h
   · rename_i k
     rw[if_neg k] at h
     cases hr:q.rows n with
     |nil=>rw[hr] at h;exact ih h
     |cons i t=>rw[hr] at h;exact absurd rfl h
 unfold peekQ at h⊢
 split
 · rfl
 · rename_i k;rw[if_neg k] at h;exact hl _ h
theorem act_err {q:QR} {a:Ai} (h:(actI q a).1.e≠0):(actI q a).2=q∧(actI q a).1.id=0∧(actI q a).1.many=0∧(actI q a).1.ids=[]∧(actI q a).1.it=it0:=by
 unfold actI at h⊢
 rcases actB_err h with k|k
 · exact k
 · rw[k] at h⊢
   rw[actB10] at h⊢
   exact⟨rfl,rfl,rfl,rfl,peek_err h⟩
theorem act_look {q:QR} {a:Ai} (h:a.dn<0∨9<a.dn):(actI q a).2=q:=by
 unfold actI kindI
 rw[if_neg (by omega),if_neg (by omega),if_neg (by omega),if_neg (by omega),if_neg (by omega),if_neg (by omega),if_neg (by omega),if_neg (by omega),if_neg (by omega),if_neg (by omega)]
 split
 · exact congrArg Prod.snd (actB10 q a)
 · exact congrArg Prod.snd (actB11 q a)
structure WI (N:Nat) (q:QR):Prop where
 wq:WQ q
 wd:WD q.dd
 lo:Lo N q
theorem WD.leave {q:QR} (h:WD q.dd) (z:It):WD (leaveQ q z).dd∧(leaveQ q z).dd.last=q.dd.last:=by
 unfold leaveQ
 repeat' split
 all_goals first|exact⟨h,rfl⟩|exact⟨h.drop _,rfl⟩
theorem WD.enter {q:QR} (h:WD q.dd) (z:It) (hl:q.dd.last.toNat+1<18446744073709551616):WD (enterQ q z).dd∧(enterQ q z).dd.last.toNat≤q.dd.last.toNat+1:=by
 have ha:(addD q.dd z.id).2.last.toNat≤q.dd.last.toNat+1:=by
  unfold addD
  split
  · exact Nat.le_succ _
  · show(q.dd.last+1).toNat≤_
    rw[UInt64.toNat_add,show(1:UInt64).toNat=1 from rfl];omega
 unfold enterQ putI
 repeat' split
 all_goals first|exact⟨h,Nat.le_succ _⟩|exact⟨h.add _ hl,ha⟩
theorem WI.bec {N:Nat} {q:QR} (h:WI N q) (hN:N≤5000000000000000000) (z:It) (l:L) (hw:WQ (becQ q z l)):WI (N+1) (becQ q z l):=by
 obtain⟨a1,a2,a3,a4,a5,a6,a7⟩:=becQ_same q z l
 obtain⟨b1,b2,b3⟩:=h.lo
 obtain⟨c1,c2⟩:=WD.leave h.wd z
 have c3:WD (becQ q z l).dd∧(becQ q z l).dd.last.toNat≤(leaveQ q z).dd.last.toNat+1:=by
  have:=WD.enter (q:={leaveQ q z with turns:=if l.s=1 then(leaveQ q z).turns+1 else(leaveQ q z).turns}) c1 (becI q z l) (by show(leaveQ q z).dd.last.toNat+1<_;rw[c2];omega)
  exact this
 refine⟨hw,c3.1,?_,by rw[a6];omega,by have:=c3.2;rw[c2] at this;omega⟩
 rw[a7]
 split
 · rw[UInt64.toNat_add,show(1:UInt64).toNat=1 from rfl];omega
 · omega
theorem WI.mono {N M:Nat} {q:QR} (h:WI N q) (k:N≤M):WI M q:=⟨h.wq,h.wd,by have:=h.lo.tu;omega,by have:=h.lo.le;omega,by have:=h.lo.de;omega⟩
theorem WI.tickL:∀(k:Nat) {N:Nat} {q:QR},WI N q→N+k≤5000000000000000000→WI (N+k) (Go.Proofs.YtcfgafododiioaaGreatDoor.tickL k q).2
 |0,_,_,h,_=>h
 |k+1,N,q,h,hN=>by
  unfold Go.Proofs.YtcfgafododiioaaGreatDoor.tickL
  cases hl:leastI (dueI q) with
  |none=>exact h.mono (by omega)
  |some z=>
   dsimp only
   have hz:=(leastI_some hl).1
   obtain⟨h1,h2,h3⟩:=due_in h.wq hz
   have:=WI.tickL k (h.bec (by omega) z _ (h.wq.pass h1 h2 h3 (by have:=h.lo.tu;omega))) (by omega)
   exact this.mono (by omega)
theorem WI.resL:∀(l:List It) {N:Nat} {q:QR},WI N q→N+l.length≤5000000000000000000→(∀z∈l,look q z.id=some z∧z.st=3)→(l.map It.id).Nodup→WI (N+l.length) (Go.Proofs.YtcfgafododiioaaGreatDoor.resL q.del l q)
 |[],_,_,h,_,_,_=>h
 |z::r,N,q,h,hN,hz,hn=>by
  rw[List.map_cons,List.nodup_cons] at hn
  simp only[List.length_cons] at hN⊢
  obtain⟨h1,h2⟩:=hz z (by simp)
  have hr:ItR q z:=h.wq.it _ (look_in h1)
  obtain⟨k1,k2,k3⟩:=reset_lf hr h2
  have hw:WQ (becQ q z (resetL z.l q.del)):=h.wq.become (.inl h1) k1 (by have:=h.lo.tu;omega) (by omega) fun k=>by omega
  obtain⟨a1,a2,a3,a4,a5,a6,a7⟩:=becQ_same q z (resetL z.l q.del)
  have:=WI.resL r (h.bec (by omega) z _ hw) (by omega) (fun y hy=> ?_) hn.2
  · rw[a3] at this
    exact WI.mono this (by omega)
  · obtain⟨h3,h4⟩:=hz y (List.mem_cons_of_mem _ hy)
    have hne:y.id≠z.id:=fun e=>hn.1 (List.mem_map.2 ⟨y,hy,e⟩)
    refine⟨?_,h4⟩
    unfold look
    rw[bec_its (by omega),lku_cons,if_neg hne,lookup_noK,if_neg hne]
    exact h3
theorem WI.dd {N:Nat} {q:QR} (h:WI N q) {d:PD} (hd:WD d) (hr:d.rows=q.dd.rows) (hl:d.last=q.dd.last):WI N {q with dd:=d}:=by
 refine⟨⟨h.wq.cf,h.wq.ln,h.wq.nd,h.wq.ky,fun z hz=> ?_,⟨h.wq.co.row,h.wq.co.srt,h.wq.co.wat,h.wq.co.hld,by show∀i,(d.rows.lookup i).isSome=true↔_;rw[hr];exact h.wq.co.ded⟩,h.wq.hn,by show(d.rows.map Prod.fst).Nodup;rw[hr];exact h.wq.dn⟩,hd,h.lo.tu,h.lo.le,by show d.last.toNat≤_;rw[hl];exact h.lo.de⟩
 obtain⟨a1,a2,a3,a4,a5,a6⟩:=h.wq.it z hz
 exact⟨a1,a2,a3,a4,a5,a6⟩
theorem seen_rows (s:PD) (name:Nm) (n:Int):(nextD s name n).2.2.rows=s.rows∧(nextD s name n).2.2.last=s.last:=by
 unfold nextD
 repeat' split
 all_goals exact⟨rfl,rfl⟩
theorem WI.with {N:Nat} {q:QR} (h:WI N q) (hN:N≤5000000000000000000) (t:UInt64) (f:L→L×Int) (hw:WQ (withQ q t f).2.2):WI (N+1) (withQ q t f).2.2:=by
 unfold withQ at hw⊢
 cases hl:q.hld.lookup t with
 |none=>exact h.mono (by omega)
 |some i=>
  rw[hl] at hw
  dsimp only at hw⊢
  split
  · exact h.mono (by omega)
  · rename_i k
    rw[if_neg k] at hw
    exact h.bec hN _ _ hw
theorem WI.dead {N:Nat} {q:QR} (h:WI N q) (hN:N≤5000000000000000000) (i:UInt64) (s:Int) (hs:s=1∨s=5):WI (N+1) (deadQ q i s).2:=by
 have hw:=h.wq.deadQ hN h.lo i s hs
 unfold deadQ at hw⊢
 dsimp only at hw⊢
 split
 · exact h.mono (by omega)
 · rename_i k
   rw[if_neg k] at hw
   exact h.bec hN _ _ hw
theorem WI.tick {N:Nat} {q:QR} (h:WI N q) (hN:N+300≤5000000000000000000) (n:UInt64):WI (N+300) (tickQ q n).2.2:=by
 unfold tickQ
 split
 · exact h.mono (by omega)
 · have h':WI N {q with now:=q.now+n}:=⟨h.wq.clock _,h.wd,h.lo.tu,h.lo.le,h.lo.de⟩
   have:=(WI.tickL 201 h' (by omega)).mono (M:=N+300) (by omega)
   generalize Go.Proofs.YtcfgafododiioaaGreatDoor.tickL 201 {q with now:=q.now+n}=T at this⊢
   exact this
end Go.Proofs.YtcfgafododiioaaGreatDoor
namespace Go.Proofs.YtcfgafododiioaaGreatDoor
open Go Go.RowKit Go.Tum Go.ChangeMaps
theorem WI.act0 {N:Nat} {q:QR} (h:WI N q) (hN:N+300≤5000000000000000000) (a:Ai):WI (N+300) (Go.Proofs.YtcfgafododiioaaGreatDoor.actB q a .a0).2:=by
 rw[actB0]
 have hw:=h.wq.put (by omega) h.lo a.lane a.n a.sg a.ps a.size
 dsimp only
 unfold putQ at hw⊢
 split
 · exact h.mono (by omega)
 split
 · exact h.mono (by omega)
 split
 · exact h.mono (by omega)
 split
 · exact h.mono (by omega)
 rename_i k1 k2 k3 k4
 rw[if_neg k1,if_neg k2,if_neg k3,if_neg k4] at hw
 obtain⟨c1,c2⟩:=WD.leave h.wd (newI q a.lane a.sg a.ps a.size)
 obtain⟨l,hl⟩:∃l,(waitL l0 q.now.toNat a.n.toNat).1=l:=⟨_,rfl⟩
 rw[hl] at hw⊢
 obtain⟨a1,a2,a3,a4,a5,a6,a7⟩:=becQ_same q (newI q a.lane a.sg a.ps a.size) l
 have c3:WD (becQ q (newI q a.lane a.sg a.ps a.size) l).dd∧(becQ q (newI q a.lane a.sg a.ps a.size) l).dd.last.toNat≤(leaveQ q (newI q a.lane a.sg a.ps a.size)).dd.last.toNat+1:=
  WD.enter (q:={leaveQ q (newI q a.lane a.sg a.ps a.size) with turns:=if l.s=1 then(leaveQ q (newI q a.lane a.sg a.ps a.size)).turns+1 else(leaveQ q (newI q a.lane a.sg a.ps a.size)).turns}) c1 (becI q (newI q a.lane a.sg a.ps a.size) l) (by show(leaveQ q (newI q a.lane a.sg a.ps a.size)).dd.last.toNat+1<_;rw[c2];have:=h.lo.de;omega)
 have b1:=h.lo.tu
 have b2:=h.lo.le
 have b3:=h.lo.de
 refine⟨hw,c3.1,?_,by show(becQ q _ l).leases.toNat≤_;rw[a6];omega,by have:=c3.2;rw[c2] at this;show(becQ q _ l).dd.last.toNat≤_;omega⟩
 show(becQ q _ l).turns.toNat≤_
 rw[a7]
 split
 · rw[UInt64.toNat_add,show(1:UInt64).toNat=1 from rfl];omega
 · omega
theorem WI.act1 {N:Nat} {q:QR} (h:WI N q) (hN:N+300≤5000000000000000000) (a:Ai):WI (N+300) (Go.Proofs.YtcfgafododiioaaGreatDoor.actB q a .a1).2:=by
 rw[actB1]
 have hw:=h.wq.lease (by omega) h.lo a.lane a.n
 dsimp only
 unfold leaseQ at hw⊢
 split
 · exact h.mono (by omega)
 split
 · exact h.mono (by omega)
 rename_i k1 k2
 rw[if_neg k1,if_neg k2] at hw
 dsimp only at hw⊢
 split
 · exact h.mono (by omega)
 rename_i k3
 rw[if_neg k3] at hw
 have hb:=h.lo.le
 have hle:(q.leases+1).toNat=q.leases.toNat+1:=by
  rw[UInt64.toNat_add,show(1:UInt64).toNat=1 from rfl];omega
 have h':WI (N+1) {q with leases:=q.leases+1}:=⟨h.wq.leases (by omega),h.wd,by have:=h.lo.tu;show q.turns.toNat≤_;omega,by show(q.leases+1).toNat≤_;omega,by have:=h.lo.de;show q.dd.last.toNat≤_;omega⟩
 exact(h'.bec (by omega) _ _ hw).mono (by omega)
theorem WI.act2 {N:Nat} {q:QR} (h:WI N q) (hN:N+300≤5000000000000000000) (a:Ai):WI (N+300) (Go.Proofs.YtcfgafododiioaaGreatDoor.actB q a .a2).2:=by
 rw[actB2]
 exact(h.with (by omega) _ _ (h.wq.ack (by omega) h.lo a.id)).mono (by omega)
theorem WI.act3 {N:Nat} {q:QR} (h:WI N q) (hN:N+300≤5000000000000000000) (a:Ai):WI (N+300) (Go.Proofs.YtcfgafododiioaaGreatDoor.actB q a .a3).2:=by
 rw[actB3]
 exact(h.with (by omega) _ _ (h.wq.nack (by omega) h.lo a.id a.n)).mono (by omega)
theorem WI.act4 {N:Nat} {q:QR} (h:WI N q) (hN:N+300≤5000000000000000000) (a:Ai):WI (N+300) (Go.Proofs.YtcfgafododiioaaGreatDoor.actB q a .a4).2:=by
 rw[actB4]
 exact(h.with (by omega) _ _ (h.wq.extend (by omega) h.lo a.id a.n)).mono (by omega)
theorem WI.act5 {N:Nat} {q:QR} (h:WI N q) (hN:N+300≤5000000000000000000) (a:Ai):WI (N+300) (Go.Proofs.YtcfgafododiioaaGreatDoor.actB q a .a5).2:=by
 have hk:=h.tick hN a.n
 obtain⟨T,hT⟩:∃T,tickQ q a.n=T:=⟨_,rfl⟩
 rw[actB5,hT]
 rw[hT] at hk
 exact hk
theorem WI.act6 {N:Nat} {q:QR} (h:WI N q) (hN:N+300≤5000000000000000000) (a:Ai):WI (N+300) (Go.Proofs.YtcfgafododiioaaGreatDoor.actB q a .a6).2:=by
 rw[actB6]
 exact(h.dead (by omega) a.id 1 (.inl rfl)).mono (by omega)
theorem WI.act7 {N:Nat} {q:QR} (h:WI N q) (hN:N+300≤5000000000000000000) (a:Ai):WI (N+300) (Go.Proofs.YtcfgafododiioaaGreatDoor.actB q a .a7).2:=by
 rw[actB7]
 exact(h.dead (by omega) a.id 5 (.inr rfl)).mono (by omega)
theorem WI.act8 {N:Nat} {q:QR} (h:WI N q) (hN:N+300≤5000000000000000000) (a:Ai):WI (N+300) (Go.Proofs.YtcfgafododiioaaGreatDoor.actB q a .a8).2:=by
 rw[actB8]
 exact(h.dd (h.wd.next a.name a.many) (seen_rows _ _ _).1 (seen_rows _ _ _).2).mono (by omega)
theorem WI.act9 {N:Nat} {q:QR} (h:WI N q) (hN:N+300≤5000000000000000000) (a:Ai):WI (N+300) (Go.Proofs.YtcfgafododiioaaGreatDoor.actB q a .a9).2:=by
 rw[actB9]
 have hp:=sortW_perm (lesI q)
 have hl1:(lesI q).length≤200:=Nat.le_trans (List.length_filter_le _ _) (by rw[List.length_map];exact h.wq.ln)
 have hl2:(sortW (lesI q)).length≤200:=by rw[hp.length_eq];exact hl1
 exact(WI.resL _ h (by omega) (fun z hz=>les_in h.wq (hp.mem_iff.1 hz)) (by rw[(hp.map It.id).nodup_iff];exact les_nd h.wq)).mono (by omega)
theorem WI.act10 {N:Nat} {q:QR} (h:WI N q) (hN:N+300≤5000000000000000000) (a:Ai):WI (N+300) (Go.Proofs.YtcfgafododiioaaGreatDoor.actB q a .a10).2:=by
 rw[actB10]
 exact h.mono (by omega)
theorem WI.act11 {N:Nat} {q:QR} (h:WI N q) (hN:N+300≤5000000000000000000) (a:Ai):WI (N+300) (Go.Proofs.YtcfgafododiioaaGreatDoor.actB q a .a11).2:=by
 rw[actB11]
 exact h.mono (by omega)
theorem WI.actB {N:Nat} {q:QR} (h:WI N q) (hN:N+300≤5000000000000000000) (a:Ai) (k:Kd):WI (N+300) (Go.Proofs.YtcfgafododiioaaGreatDoor.actB q a k).2:=by
 cases k
 · exact h.act0 hN a
 · exact h.act1 hN a
 · exact h.act2 hN a
 · exact h.act3 hN a
 · exact h.act4 hN a
 · exact h.act5 hN a
 · exact h.act6 hN a
 · exact h.act7 hN a
 · exact h.act8 hN a
 · exact h.act9 hN a
 · exact h.act10 hN a
 · exact h.act11 hN a
theorem WI.act {N:Nat} {q:QR} (h:WI N q) (hN:N+300≤5000000000000000000) (a:Ai):WI (N+300) (actI q a).2:=h.actB hN a _
theorem SameQ.act0 {N:Nat} {q r:QR} (hq:WI N q) (hr:WI N r) (hN:N+300≤5000000000000000000) (h:SameQ q r) (a:Ai):(Go.Proofs.YtcfgafododiioaaGreatDoor.actB q a .a0).1=(Go.Proofs.YtcfgafododiioaaGreatDoor.actB r a .a0).1∧SameQ (Go.Proofs.YtcfgafododiioaaGreatDoor.actB q a .a0).2 (Go.Proofs.YtcfgafododiioaaGreatDoor.actB r a .a0).2:=by
 rw[actB0,actB0]
 obtain⟨k1,k2,k3⟩:=h.put hq.wq hr.wq a.lane a.n a.sg a.ps a.size
 exact⟨by rw[k1,k2],k3⟩
theorem SameQ.act1 {N:Nat} {q r:QR} (hq:WI N q) (hr:WI N r) (hN:N+300≤5000000000000000000) (h:SameQ q r) (a:Ai):(Go.Proofs.YtcfgafododiioaaGreatDoor.actB q a .a1).1=(Go.Proofs.YtcfgafododiioaaGreatDoor.actB r a .a1).1∧SameQ (Go.Proofs.YtcfgafododiioaaGreatDoor.actB q a .a1).2 (Go.Proofs.YtcfgafododiioaaGreatDoor.actB r a .a1).2:=by
 rw[actB1,actB1]
 obtain⟨k1,k2,k3⟩:=h.lease hq.wq hr.wq a.lane a.n
 exact⟨by rw[k1,k2],k3⟩
theorem SameQ.act2 {N:Nat} {q r:QR} (hq:WI N q) (hr:WI N r) (hN:N+300≤5000000000000000000) (h:SameQ q r) (a:Ai):(Go.Proofs.YtcfgafododiioaaGreatDoor.actB q a .a2).1=(Go.Proofs.YtcfgafododiioaaGreatDoor.actB r a .a2).1∧SameQ (Go.Proofs.YtcfgafododiioaaGreatDoor.actB q a .a2).2 (Go.Proofs.YtcfgafododiioaaGreatDoor.actB r a .a2).2:=by
 rw[actB2,actB2]
 obtain⟨k1,k2,k3⟩:=h.with hq.wq hr.wq a.id (fun l=>ackL l a.id.toNat) (fun x he=>by
  unfold ackL at he⊢
  split
  · exact .inr (.inr (.inr (.inr rfl)))
  · rename_i k;rw[if_neg k] at he;simp at he)
 exact⟨by unfold ackQ;rw[k1,k2],k3⟩
theorem SameQ.act3 {N:Nat} {q r:QR} (hq:WI N q) (hr:WI N r) (hN:N+300≤5000000000000000000) (h:SameQ q r) (a:Ai):(Go.Proofs.YtcfgafododiioaaGreatDoor.actB q a .a3).1=(Go.Proofs.YtcfgafododiioaaGreatDoor.actB r a .a3).1∧SameQ (Go.Proofs.YtcfgafododiioaaGreatDoor.actB q a .a3).2 (Go.Proofs.YtcfgafododiioaaGreatDoor.actB r a .a3).2:=by
 rw[actB3,actB3]
 have k:=h.with hq.wq hr.wq a.id (fun l=>nackL l a.id.toNat q.now.toNat a.n.toNat q.del) (fun x he=>by
  unfold nackL at he⊢
  split
  · rename_i k
    rw[if_pos k] at he
    split
    · rename_i k2
      rw[show endL x q.del=⟨4,x.c,0,0⟩ from if_pos k2]
      exact .inr (.inr (.inr (.inl rfl)))
    · rename_i k2
      rw[if_neg k2] at he
      have:=wait_s x q.now.toNat a.n.toNat he
      omega
  · rename_i k;rw[if_neg k] at he;simp at he)
 obtain⟨k1,k2,k3⟩:=k
 unfold nackQ
 rw[←h.no,←h.de]
 exact⟨by rw[k1,k2],k3⟩
theorem SameQ.act4 {N:Nat} {q r:QR} (hq:WI N q) (hr:WI N r) (hN:N+300≤5000000000000000000) (h:SameQ q r) (a:Ai):(Go.Proofs.YtcfgafododiioaaGreatDoor.actB q a .a4).1=(Go.Proofs.YtcfgafododiioaaGreatDoor.actB r a .a4).1∧SameQ (Go.Proofs.YtcfgafododiioaaGreatDoor.actB q a .a4).2 (Go.Proofs.YtcfgafododiioaaGreatDoor.actB r a .a4).2:=by
 rw[actB4,actB4]
 have k:=h.with hq.wq hr.wq a.id (fun l=>extendL l a.id.toNat q.now.toNat a.n.toNat) (fun x he=>by
  unfold extendL at he⊢
  split
  · rename_i k
    rw[if_pos k] at he
    split
    · rename_i k2;rw[if_pos k2] at he;simp at he
    · rename_i k2
      rw[if_neg k2] at he
      split
      · rename_i k3;rw[if_pos k3] at he;simp at he
      · exact .inr (.inr (.inl rfl))
  · rename_i k;rw[if_neg k] at he;simp at he)
 obtain⟨k1,k2,k3⟩:=k
 unfold extendQ
 rw[←h.no]
 exact⟨by rw[k1,k2],k3⟩
theorem SameQ.act5 {N:Nat} {q r:QR} (hq:WI N q) (hr:WI N r) (hN:N+300≤5000000000000000000) (h:SameQ q r) (a:Ai):(Go.Proofs.YtcfgafododiioaaGreatDoor.actB q a .a5).1=(Go.Proofs.YtcfgafododiioaaGreatDoor.actB r a .a5).1∧SameQ (Go.Proofs.YtcfgafododiioaaGreatDoor.actB q a .a5).2 (Go.Proofs.YtcfgafododiioaaGreatDoor.actB r a .a5).2:=by
 have hb:=hq.lo.tu
 have k:=h.tick hq.wq hr.wq (by omega) a.n
 obtain⟨T,hT⟩:∃T,tickQ q a.n=T:=⟨_,rfl⟩
 obtain⟨U,hU⟩:∃T,tickQ r a.n=T:=⟨_,rfl⟩
 rw[actB5,actB5,hT,hU]
 rw[hT,hU] at k
 obtain⟨k1,k2,k3⟩:=k
 exact⟨by rw[k1,k2],k3⟩
theorem SameQ.act6 {N:Nat} {q r:QR} (hq:WI N q) (hr:WI N r) (hN:N+300≤5000000000000000000) (h:SameQ q r) (a:Ai):(Go.Proofs.YtcfgafododiioaaGreatDoor.actB q a .a6).1=(Go.Proofs.YtcfgafododiioaaGreatDoor.actB r a .a6).1∧SameQ (Go.Proofs.YtcfgafododiioaaGreatDoor.actB q a .a6).2 (Go.Proofs.YtcfgafododiioaaGreatDoor.actB r a .a6).2:=by
 rw[actB6,actB6]
 obtain⟨k1,k2⟩:=h.deadq a.id 1 (.inl rfl)
 exact⟨by rw[k1],k2⟩
theorem SameQ.act7 {N:Nat} {q r:QR} (hq:WI N q) (hr:WI N r) (hN:N+300≤5000000000000000000) (h:SameQ q r) (a:Ai):(Go.Proofs.YtcfgafododiioaaGreatDoor.actB q a .a7).1=(Go.Proofs.YtcfgafododiioaaGreatDoor.actB r a .a7).1∧SameQ (Go.Proofs.YtcfgafododiioaaGreatDoor.actB q a .a7).2 (Go.Proofs.YtcfgafododiioaaGreatDoor.actB r a .a7).2:=by
 rw[actB7,actB7]
 obtain⟨k1,k2⟩:=h.deadq a.id 5 (.inr rfl)
 exact⟨by rw[k1],k2⟩
theorem SameQ.act8 {N:Nat} {q r:QR} (hq:WI N q) (hr:WI N r) (hN:N+300≤5000000000000000000) (h:SameQ q r) (a:Ai):(Go.Proofs.YtcfgafododiioaaGreatDoor.actB q a .a8).1=(Go.Proofs.YtcfgafododiioaaGreatDoor.actB r a .a8).1∧SameQ (Go.Proofs.YtcfgafododiioaaGreatDoor.actB q a .a8).2 (Go.Proofs.YtcfgafododiioaaGreatDoor.actB r a .a8).2:=by
 rw[actB8,actB8]
 rw[←h.dd]
 exact⟨rfl,h.la,h.pa,h.de,h.no,h.ne,h.le,h.tu,h.lk,rfl⟩
theorem SameQ.act9 {N:Nat} {q r:QR} (hq:WI N q) (hr:WI N r) (hN:N+300≤5000000000000000000) (h:SameQ q r) (a:Ai):(Go.Proofs.YtcfgafododiioaaGreatDoor.actB q a .a9).1=(Go.Proofs.YtcfgafododiioaaGreatDoor.actB r a .a9).1∧SameQ (Go.Proofs.YtcfgafododiioaaGreatDoor.actB q a .a9).2 (Go.Proofs.YtcfgafododiioaaGreatDoor.actB r a .a9).2:=by
 rw[actB9,actB9]
 exact⟨rfl,h.reset hq.wq hr.wq⟩
theorem SameQ.act10 {N:Nat} {q r:QR} (hq:WI N q) (hr:WI N r) (hN:N+300≤5000000000000000000) (h:SameQ q r) (a:Ai):(Go.Proofs.YtcfgafododiioaaGreatDoor.actB q a .a10).1=(Go.Proofs.YtcfgafododiioaaGreatDoor.actB r a .a10).1∧SameQ (Go.Proofs.YtcfgafododiioaaGreatDoor.actB q a .a10).2 (Go.Proofs.YtcfgafododiioaaGreatDoor.actB r a .a10).2:=by
 rw[actB10,actB10]
 rw[h.peek hq.wq hr.wq]
 exact⟨rfl,h⟩
theorem SameQ.act11 {N:Nat} {q r:QR} (hq:WI N q) (hr:WI N r) (hN:N+300≤5000000000000000000) (h:SameQ q r) (a:Ai):(Go.Proofs.YtcfgafododiioaaGreatDoor.actB q a .a11).1=(Go.Proofs.YtcfgafododiioaaGreatDoor.actB r a .a11).1∧SameQ (Go.Proofs.YtcfgafododiioaaGreatDoor.actB q a .a11).2 (Go.Proofs.YtcfgafododiioaaGreatDoor.actB r a .a11).2:=by
 rw[actB11,actB11]
 have hg:getI q a.id=getI r a.id:=by unfold getI;rw[h.lk]
 rw[hg,h.lk]
 exact⟨rfl,h⟩
theorem SameQ.actB {N:Nat} {q r:QR} (hq:WI N q) (hr:WI N r) (hN:N+300≤5000000000000000000) (h:SameQ q r) (a:Ai) (k:Kd):(Go.Proofs.YtcfgafododiioaaGreatDoor.actB q a k).1=(Go.Proofs.YtcfgafododiioaaGreatDoor.actB r a k).1∧SameQ (Go.Proofs.YtcfgafododiioaaGreatDoor.actB q a k).2 (Go.Proofs.YtcfgafododiioaaGreatDoor.actB r a k).2:=by
 cases k
 · exact h.act0 hq hr hN a
 · exact h.act1 hq hr hN a
 · exact h.act2 hq hr hN a
 · exact h.act3 hq hr hN a
 · exact h.act4 hq hr hN a
 · exact h.act5 hq hr hN a
 · exact h.act6 hq hr hN a
 · exact h.act7 hq hr hN a
 · exact h.act8 hq hr hN a
 · exact h.act9 hq hr hN a
 · exact h.act10 hq hr hN a
 · exact h.act11 hq hr hN a
theorem SameQ.act {N:Nat} {q r:QR} (hq:WI N q) (hr:WI N r) (hN:N+300≤5000000000000000000) (h:SameQ q r) (a:Ai):(actI q a).1=(actI r a).1∧SameQ (actI q a).2 (actI r a).2:=h.actB hq hr hN a _
end Go.Proofs.YtcfgafododiioaaGreatDoor
