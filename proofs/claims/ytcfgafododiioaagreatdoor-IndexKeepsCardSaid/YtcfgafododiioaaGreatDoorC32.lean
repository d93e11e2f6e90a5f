/- Texts of a claim, side by side. -/
import Derived.Test.YtcfgafododiioaaGreatDoorC31
import Derived.Test.YtcfgafododiioaaGreatDoorC29
import Derived.Test.YtcfgafododiioaaGreatDoorC30
set_option linter.unusedSimpArgs false
set_option linter.unusedVariables false
namespace Go.Proofs.YtcfgafododiioaaGreatDoor
open Go Go.RowKit Go.Tum Go.ChangeMaps Go.Sort Go.Tum.Rn
open Go.ParB (upd Lof)
open Go.ParE (putS slotsR slots Closed)
def fromD (last:UInt64) (rows:List (UInt64×UInt64)) (cs:List Cur):Option PD:=match takeR 0 rows ⟨last,[],[]⟩ with
 |none=>none
 |some s=>takeCs cs s
theorem takeR_mono:∀(l:List (UInt64×UInt64)) (a:UInt64) (s s':PD),takeR a l s=some s'→s'.last=s.last∧s'.seen=s.seen∧s'.rows=s.rows++l∧(∀z∈l,a<z.2∧z.2≤s.last)∧l.Pairwise fun x y=>x.2<y.2
 |[],a,s,s',h=>by
  rw[takeR] at h;cases h;simp
 |z::r,a,s,s',h=>by
  rw[takeR] at h
  split at h
  · cases h
  · rename_i hc
    simp only[Bool.or_eq_true,decide_eq_true_eq,not_or] at hc
    obtain⟨h1,h2,h3,h4,h5⟩:=takeR_mono r z.2 _ s' h
    dsimp only at h1 h2 h3 h4
    have ha:a<z.2:=by have:=hc.1;rw[UInt64.le_iff_toNat_le] at this;rw[UInt64.lt_iff_toNat_lt];omega
    have hb:z.2≤s.last:=by have:=hc.2.1;rw[UInt64.lt_iff_toNat_lt] at this;rw[UInt64.le_iff_toNat_le];omega
    refine⟨h1,h2,by rw[h3];simp,fun y hy=> ?_,?_⟩
    · rcases List.mem_cons.1 hy with e|e
      · rw[e];exact⟨ha,hb⟩
      · have:=h4 y e
        exact⟨by rw[UInt64.lt_iff_toNat_lt] at*;omega,this.2⟩
    · rw[List.pairwise_cons];exact⟨fun y hy=>(h4 y hy).1,h5⟩
theorem takeC_mono:∀(l:List Cur) (o:Option Nm) (s s':PD),takeC o l s=some s'→s'.last=s.last∧s'.rows=s.rows∧s'.seen=s.seen++l∧(∀z∈l,rightL z.1=true∧foldL z.1=z.1∧z.2≤s.last)∧(∀z∈l,lessO o z.1=true)∧l.Pairwise fun x y=>ltC x y=true
 |[],o,s,s',h=>by
  rw[takeC] at h;cases h;simp
 |z::r,o,s,s',h=>by
  rw[takeC] at h
  split at h
  · cases h
  · rename_i hc
    simp only[Bool.or_eq_true,decide_eq_true_eq,not_or,Bool.not_eq_true',Bool.not_eq_false,decide_eq_false_iff_not,Decidable.not_not] at hc
    obtain⟨h1,h2,h3,h4,h5,h6⟩:=takeC_mono r (some z.1) _ s' h
    dsimp only at h1 h2 h3 h4
    have hb:z.2≤s.last:=by have:=hc.2.2.1;rw[UInt64.lt_iff_toNat_lt] at this;rw[UInt64.le_iff_toNat_le];omega
    refine⟨h1,h2,by rw[h3];simp,fun y hy=> ?_,fun y hy=> ?_,?_⟩
    · rcases List.mem_cons.1 hy with e|e
      · rw[e];exact⟨hc.1,hc.2.1,hb⟩
      · exact h4 y e
    · rcases List.mem_cons.1 hy with e|e
      · rw[e];exact hc.2.2.2
      · have h7:=h5 y e
        have h8:=hc.2.2.2
        unfold lessO at*
        cases o with
        |none=>rfl
        |some q=>exact lessR_trans _ _ _ h8 h7
    · rw[List.pairwise_cons];exact⟨fun y hy=>h5 y hy,h6⟩
theorem WD.from {last:UInt64} {rows:List (UInt64×UInt64)} {cs:List Cur} {s:PD} (h:fromD last rows cs=some s):WD s∧s=⟨last,rows,cs⟩:=by
 unfold fromD at h
 split at h
 · cases h
 · rename_i s1 h1
   obtain⟨a1,a2,a3,a4,a5⟩:=takeR_mono _ _ _ _ h1
   unfold takeCs at h
   split at h
   · cases h
   · rename_i h8
     obtain⟨b1,b2,b3,b4,b5,b6⟩:=takeC_mono _ _ _ _ h
     dsimp only at a1 a2 a3
     rw[a1] at b1
     rw[a3] at b2
     rw[a2] at b3
     rw[List.nil_append] at b2 b3
     rw[a1] at b4
     have e:s=⟨last,rows,cs⟩:=by cases s;simp_all
     subst e
     exact⟨⟨a5,fun z hz=>⟨(a4 z hz).2,(a4 z hz).1⟩,b4,b6,by simpa using h8⟩,rfl⟩
def FroP (w:World) (o:Option PD) (e:Ending) (w':World):Prop:=(match o with
 |some s=>∃p mp ms,e= .returned (.tuple #[pv p,.int .i64 0])∧DD w' p mp ms s∧w.heap.size≤p∧w.heap.size≤mp∧w.heap.size≤ms
 |none=>e= .returned (.tuple #[.pointer none,.int .i64 1]))∧Ext w w'
set_option maxHeartbeats 2000000 in
theorem dfrom_any {w:World} (last:UInt64) {v u:Value} (rows:List (UInt64×UInt64)) (cs:List Cur) (hr:Sl w 2 v rows.length (rows.flatMap encR)) (hc:Sl w 2 u cs.length (cs.flatMap encC)) (ht:TB w) (hlr:rows.length≤99999) (hln:∀z∈cs,z.1.length≤100000):
 Calls Tryz.prog 119 #[vU last,v,u] w fun e w'=>FroP w (fromD last rows cs) e w':=by
 have HR:=hid hr
 have HC:=hid hc
 have HT:=hid ht
 have HLN:=hid hln
 have HLR:=hid hlr
 obtain⟨a1,c1,rfl⟩:∃a c,v= .slice a rows.length c:=by obtain⟨-,a,c,e,-⟩:=hr;exact⟨a,c,e⟩
 obtain⟨a2,c2,rfl⟩:∃a c,u= .slice a cs.length c:=by obtain⟨-,a,c,e,-⟩:=hc;exact⟨a,c,e⟩
 obtain⟨R,hR⟩:∃R,fromD last rows cs=R:=⟨_,rfl⟩
 have HRR:=hid hR
 rw[hR]
 have h2:=ht.two
 clear hr hc ht hln hlr hR
 go_enter Tryz.func119,Tryz.ntmps119
 go_wp2_with fail
 refine(dnew_any w).mono ?_
 rintro e w1 ⟨⟨p,mp,ms,rfl,hD,hp,hmp,hms⟩,hE⟩
 have hcell:=lk3D hD.hd
 obtain⟨c0,-,-,ff⟩:=hcell
 have f0:=ff 0
 have hF1:Fr [p] w1 (w1.setCell ⟨p,0,none⟩ (vU last)):=fr_setCell _ _ _ (by simp)
 have HE2:Hid (Ext w (w1.setCell ⟨p,0,none⟩ (vU last))):=hid (Below.trans hE (hF1.below (by simp;omega) hE.size))
 have HD2:Hid (DD (w1.setCell ⟨p,0,none⟩ (vU last)) p mp ms ⟨last,[],[]⟩):=hid (by
  obtain⟨l,hl,pl⟩:=hD.rm
  obtain⟨k,hk,pk⟩:=hD.sm
  exact⟨block_set hD.hd 0 _,⟨l,hl.fr hF1 (by simpa using hD.pm.symm),pl⟩,⟨k,hk.fr hF1 (by simpa using hD.ps.symm),pk⟩,hD.ne,hD.nr,hD.ns,hD.lr,hD.ls⟩)
 have HLO:Hid (w.heap.size≤p∧w.heap.size≤mp∧w.heap.size≤ms∧2≤w.heap.size):=hid ⟨hp,hmp,hms,h2⟩
 clear ff hD hE hF1 hp hmp hms h2
 go_wp2_with fail
 clear c0 f0
 generalize w1.setCell ⟨p,0,none⟩ (vU last)=W2 at*
 have hfe:∀(w0 w':World),Ext w w0→Fr [p,mp,ms] w0 w'→Ext w w':=fun w0 w' hx hf=>Below.trans hx (hf.below (by have:=HLO.out;simp;omega) hx.size)
 have HFE:=hid hfe
 refine(dtakeR_any rows HD2.out (fun w' hf=>HR.out.ext (HFE.out _ _ HE2.out hf)) (by have:=HLR.out;simpa using this)).mono ?_
 rintro e w3 ⟨hF3,hT⟩
 have HE3:=hid (HFE.out _ _ HE2.out hF3)
 clear hF3 hfe HE2 HD2
 cases hq:takeR 0 rows ⟨last,[],[]⟩ with
 |none=>
  rw[hq] at hT
  subst hT
  have HN:Hid (none=R):=hid (by rw[←HRR.out];unfold fromD;rw[hq])
  clear hq
  go_wp2
  go_returns
  rw[←HN.out]
  exact⟨rfl,HE3.out⟩
 |some s1=>
  rw[hq] at hT
  obtain⟨rfl,hD3⟩:=hT
  have HD3:=hid hD3
  have HN:Hid (takeCs cs s1=R):=hid (by rw[←HRR.out];unfold fromD;rw[hq])
  have HSN:Hid (s1.seen=[]):=hid (takeR_mono _ _ _ _ hq).2.1
  clear hq hD3
  go_wp2_with fail
  refine(dtakeC_any cs HD3.out HSN.out (fun w' hf=>HC.out.ext (HFE.out _ _ HE3.out hf)) (TBx HT.out HE3.out) (by have:=HLO.out;omega) HLN.out).mono ?_
  rintro e w4 ⟨hF4,hT⟩
  have HE4:=hid (HFE.out _ _ HE3.out hF4)
  clear hF4
  cases hq:takeCs cs s1 with
  |none=>
   rw[hq] at hT
   subst hT
   have HN2:Hid (none=R):=hid (by rw[←HN.out,hq])
   clear hq
   go_wp2
   go_returns
   rw[←HN2.out]
   exact⟨rfl,HE4.out⟩
  |some s2=>
   rw[hq] at hT
   obtain⟨rfl,hD4⟩:=hT
   have HD4:=hid hD4
   have HN2:Hid (some s2=R):=hid (by rw[←HN.out,hq])
   clear hq hD4
   go_wp2
   go_returns
   rw[←HN2.out]
   have:=HLO.out
   exact⟨⟨p,mp,ms,rfl,HD4.out,this.1,this.2.1,this.2.2.1⟩,HE4.out⟩
end Go.Proofs.YtcfgafododiioaaGreatDoor
namespace Go.Proofs.YtcfgafododiioaaGreatDoor
open Go Go.RowKit Go.Tum Go.ChangeMaps Go.Sort Go.Tum.Rn
theorem takeR_ok:∀(l:List (UInt64×UInt64)) (a:UInt64) (s:PD),(∀z∈l,a<z.2∧z.2≤s.last)→(l.Pairwise fun x y=>x.2<y.2)→((s.rows++l).map Prod.fst).Nodup→takeR a l s=some {s with rows:=s.rows++l}
 |[],a,s,_,_,_=>by rw[takeR,List.append_nil]
 |z::r,a,s,h1,h2,h3=>by
  rw[takeR]
  have hz:=h1 z (by simp)
  have e1:decide (z.2≤a)=false:=by
   rw[decide_eq_false_iff_not,UInt64.le_iff_toNat_le]
   have:=hz.1;rw[UInt64.lt_iff_toNat_lt] at this;omega
  have e2:decide (s.last<z.2)=false:=by
   rw[decide_eq_false_iff_not,UInt64.lt_iff_toNat_lt]
   have:=hz.2;rw[UInt64.le_iff_toNat_le] at this;omega
  have e3:(s.rows.lookup z.1).isSome=false:=by
   have:s.rows.lookup z.1=none:=lku_none.2 (fun hm=>by
    rw[List.map_append,List.nodup_append] at h3
    exact h3.2.2 z.1 hm z.1 (by simp) rfl)
   rw[this];rfl
  rw[e1,e2,e3]
  rw[List.pairwise_cons] at h2
  have:=takeR_ok r z.2 {s with rows:=s.rows++[z]} (fun y hy=>⟨h2.1 y hy,(h1 y (by simp[hy])).2⟩) h2.2 (by simpa using h3)
  simpa using this
theorem takeC_ok:∀(l:List Cur) (o:Option Nm) (s:PD),(∀z∈l,rightL z.1=true∧foldL z.1=z.1∧z.2≤s.last)→(∀z∈l,lessO o z.1=true)→(l.Pairwise fun x y=>ltC x y=true)→takeC o l s=some {s with seen:=s.seen++l}
 |[],o,s,_,_,_=>by rw[takeC,List.append_nil]
 |z::r,o,s,h1,h2,h3=>by
  rw[takeC]
  have hz:=h1 z (by simp)
  have e2:decide (s.last<z.2)=false:=by
   rw[decide_eq_false_iff_not,UInt64.lt_iff_toNat_lt]
   have:=hz.2.2;rw[UInt64.le_iff_toNat_le] at this;omega
  rw[hz.1,decide_eq_true hz.2.1,e2,h2 z (by simp)]
  rw[List.pairwise_cons] at h3
  have:=takeC_ok r (some z.1) {s with seen:=s.seen++[z]} (fun y hy=>h1 y (by simp[hy])) (fun y hy=>h3.1 y hy) h3.2
  simpa using this
theorem from_own {s:PD} (h:WD s) (hn:(s.rows.map Prod.fst).Nodup):fromD s.last s.rows s.seen=some s:=by
 unfold fromD
 rw[takeR_ok s.rows 0 ⟨s.last,[],[]⟩ (fun z hz=>⟨(h.rl z hz).2,(h.rl z hz).1⟩) h.rs (by simpa using hn)]
 dsimp only
 unfold takeCs
 rw[if_neg (by have:=h.s8;omega)]
 rw[takeC_ok s.seen none ⟨s.last,[]++s.rows,[]⟩ (fun z hz=>h.sr z hz) (fun z hz=>rfl) h.ss]
 simp
end Go.Proofs.YtcfgafododiioaaGreatDoor
namespace Go.Proofs.YtcfgafododiioaaGreatDoor
open Go Go.RowKit Go.Tum Go.ChangeMaps Go.Sort
theorem look_bec {q:QR} {z:It} {l:L} (hs:l.s=1∨l.s=2∨l.s=3∨l.s=4∨l.s=5):look (becQ q z l)=entG (delG (look q) z.id) (becI q z l):=by
 unfold becQ
 dsimp only
 rw[look_enter _ _ hs]
 have:look {leaveQ q z with turns:=if l.s=1 then(leaveQ q z).turns+1 else(leaveQ q z).turns}=look q:=by unfold look;rw[leaveQ_its]
 rw[this]
 rfl
theorem ent_cases {G:UInt64→Option It} {j i:UInt64} {z y:It} (h:entG (delG G j) z i=some y):(y=z∧i=z.id∧z.st≠5)∨(i≠j∧G i=some y):=by
 unfold entG at h
 split at h
 · unfold delG at h
   split at h
   · cases h
   · rename_i k;exact .inr ⟨k,h⟩
 · rename_i h5
   unfold setG at h
   split at h
   · rename_i k;exact .inl ⟨(Option.some.inj h).symm,k,h5⟩
   · unfold delG at h
     split at h
     · cases h
     · rename_i k;exact .inr ⟨k,h⟩
structure Fq (q:QR):Prop where
 du:∀i z,look q i=some z→(z.st=2∨z.st=3)→q.now<z.due
 tu:∀i j y z,look q i=some y→look q j=some z→y.st=1→z.st=1→i≠j→y.turn≠z.turn
theorem Tu.bec {q:QR} (hq:WQ q) (h:∀i j y z,look q i=some y→look q j=some z→y.st=1→z.st=1→i≠j→y.turn≠z.turn) (hb:q.turns.toNat<18446744073709551615) (z:It) {l:L} (hs:l.s=1∨l.s=2∨l.s=3∨l.s=4∨l.s=5):
 ∀i j x y,look (becQ q z l) i=some x→look (becQ q z l) j=some y→x.st=1→y.st=1→i≠j→x.turn≠y.turn:=by
 intro i j x y hx hy h1 h2 hij
 rw[look_bec hs] at hx hy
 have hnew:∀k u,look q k=some u→l.s=1→u.turn≠(becI q z l).turn:=fun k u hu hl e=>by
  have k1:=(hq.it _ (look_in hu)).tn
  have k2:(becI q z l).turn=q.turns+1:=by show(if l.s=1 then q.turns+1 else 0)=_;rw[if_pos hl]
  have k1:u.turn≤q.turns:=k1
  rw[e,k2,UInt64.le_iff_toNat_le,UInt64.toNat_add,show(1:UInt64).toNat=1 from rfl] at k1
  omega
 rcases ent_cases hx with ⟨e1,e2,-⟩|⟨e1,e2⟩<;>rcases ent_cases hy with ⟨f1,f2,-⟩|⟨f1,f2⟩
 · exact absurd (e2.trans f2.symm) hij
 · subst e1
   exact Ne.symm (hnew _ _ f2 h1)
 · subst f1
   exact hnew _ _ e2 h2
 · exact h i j x y e2 f2 h1 h2 hij
theorem Du.bec {q:QR} (h:∀i z,look q i=some z→(z.st=2∨z.st=3)→q.now<z.due) (z:It) {l:L} (hs:l.s=1∨l.s=2∨l.s=3∨l.s=4∨l.s=5) (hd:l.s=2∨l.s=3→(q.now.toNat:Int)<l.d∧l.d≤18446744073709551615):
 ∀i y,look (becQ q z l) i=some y→(y.st=2∨y.st=3)→(becQ q z l).now<y.due:=by
 intro i y hy hst
 rw[(becQ_same q z l).2.2.2.1]
 rw[look_bec hs] at hy
 rcases ent_cases hy with ⟨e,-,-⟩|⟨-,e⟩
 · subst e
   have h2:=hd hst
   show q.now<UInt64.ofNat l.d.toNat
   rw[UInt64.lt_iff_toNat_lt,UInt64.toNat_ofNat']
   omega
 · exact h i y e hst
theorem Fq.bec {q:QR} (hq:WQ q) (h:Fq q) (hb:q.turns.toNat<18446744073709551615) (z:It) {l:L} (hs:l.s=1∨l.s=2∨l.s=3∨l.s=4∨l.s=5) (hd:l.s=2∨l.s=3→(q.now.toNat:Int)<l.d∧l.d≤18446744073709551615):Fq (becQ q z l):=
 ⟨Du.bec h.du z hs hd,Tu.bec hq h.tu hb z hs⟩
theorem wait_d (x:L) (now more:UInt64) (he:(waitL x now.toNat more.toNat).2=0):
 ((waitL x now.toNat more.toNat).1.s=1∨(waitL x now.toNat more.toNat).1.s=2)∧((waitL x now.toNat more.toNat).1.s=2∨(waitL x now.toNat more.toNat).1.s=3→(now.toNat:Int)<(waitL x now.toNat more.toNat).1.d∧(waitL x now.toNat more.toNat).1.d≤18446744073709551615):=by
 have hm:=more.toNat_lt
 unfold waitL overP at he⊢
 split
 · exact⟨.inl rfl,fun k=>by simp at k⟩
 · rename_i h1
   rw[if_neg h1] at he
   split
   · rename_i h2
     rw[if_pos h2] at he
     simp at he
   · refine⟨.inr rfl,fun _=> ?_⟩
     dsimp only
     omega
theorem Fq.put {q:QR} (hq:WQ q) (h:Fq q) (hb:q.turns.toNat<18446744073709551615) (lane:Int) (delay sg ps:UInt64) (size:Int):Fq (putQ q lane delay sg ps size).2.2:=by
 unfold putQ
 split
 · exact h
 split
 · exact h
 split
 · exact h
 split
 · exact h
 rename_i h4
 obtain⟨k1,k2⟩:=wait_d l0 q.now delay (by simpa using h4)
 have:=h.bec hq hb (newI q lane sg ps size) (l:=(waitL l0 q.now.toNat delay.toNat).1) (by omega) k2
 exact⟨this.du,this.tu⟩
theorem Fq.lease {q:QR} (hq:WQ q) (h:Fq q) (hb:q.turns.toNat<18446744073709551615) (lane:Int) (span:UInt64):Fq (leaseQ q lane span).2.2:=by
 unfold leaseQ
 split
 · exact h
 rename_i h0
 split
 · exact h
 dsimp only
 split
 · exact h
 rename_i h3
 have h':Fq {q with leases:=q.leases+1}:=⟨h.du,h.tu⟩
 have hm:=span.toNat_lt
 obtain⟨l,hl⟩:∃l,(leaseL (peekQ q lane).1.l q.now.toNat span.toNat (q.leases+1).toNat).1=l:=⟨_,rfl⟩
 have hk:l.s=3∧(q.now.toNat:Int)<l.d∧l.d≤18446744073709551615:=by
  rw[←hl]
  unfold leaseL overP at h3⊢
  split
  · rename_i k;rw[if_pos k] at h3;exact absurd (by decide) h3
  · rename_i k
    rw[if_neg k] at h3
    split
    · rename_i k2;rw[if_pos k2] at h3;exact absurd (by decide) h3
    · rename_i k2
      rw[if_neg k2] at h3
      split
      · rename_i k3;rw[if_pos k3] at h3;exact absurd (by decide) h3
      · dsimp only
        exact⟨rfl,by omega,by omega⟩
 rw[hl]
 have hw:∀i y,look {q with leases:=q.leases+1} i=some y→y.turn≤q.turns:=fun i y hy=>(hq.it _ (look_in (q:=q) hy)).tn
 refine⟨Du.bec h'.du _ (by omega) fun _=>hk.2,fun i j x y hx hy h1 h2 hij=> ?_⟩
 rw[look_bec (by omega)] at hx hy
 rcases ent_cases hx with ⟨e1,-,-⟩|⟨e1,e2⟩
 · subst e1
   have:l.s=1:=h1
   omega
 · rcases ent_cases hy with ⟨f1,-,-⟩|⟨f1,f2⟩
   · subst f1
     have:l.s=1:=h2
     omega
   · exact h.tu i j x y e2 f2 h1 h2 hij
theorem Fq.with {q:QR} (hq:WQ q) (h:Fq q) (hb:q.turns.toNat<18446744073709551615) (tok:UInt64) (f:L→L×Int)
 (hf:∀x,(f x).2=0→((f x).1.s=1∨(f x).1.s=2∨(f x).1.s=3∨(f x).1.s=4∨(f x).1.s=5)∧((f x).1.s=2∨(f x).1.s=3→(q.now.toNat:Int)<(f x).1.d∧(f x).1.d≤18446744073709551615)):Fq (withQ q tok f).2.2:=by
 unfold withQ
 cases q.hld.lookup tok with
 |none=>exact h
 |some i=>
  dsimp only
  split
  · exact h
  · rename_i he
    obtain⟨k1,k2⟩:=hf (getI q i).l (by simpa using he)
    exact h.bec hq hb _ k1 k2
theorem Fq.deadQ {q:QR} (hq:WQ q) (h:Fq q) (hb:q.turns.toNat<18446744073709551615) (i:UInt64) (s:Int) (hs:s=1∨s=5):Fq (Go.Proofs.YtcfgafododiioaaGreatDoor.deadQ q i s).2:=by
 unfold Go.Proofs.YtcfgafododiioaaGreatDoor.deadQ
 dsimp only
 split
 · exact h
 · rename_i he
   have hk:(deadL (getI q i).l s).1.s=s:=by
    unfold deadL at he⊢
    split
    · rfl
    · rename_i k;rw[if_neg k] at he;exact absurd (by decide) he
   exact h.bec hq hb _ (by omega) fun k=>by omega
theorem tick_tu:∀(k:Nat) {q:QR},WQ q→(∀i j y z,look q i=some y→look q j=some z→y.st=1→z.st=1→i≠j→y.turn≠z.turn)→q.turns.toNat+k<18446744073709551615→
 ∀i j y z,look (tickL k q).2 i=some y→look (tickL k q).2 j=some z→y.st=1→z.st=1→i≠j→y.turn≠z.turn
 |0,q,_,h,_=>h
 |k+1,q,hq,h,hb=>by
  unfold tickL
  cases hl:leastI (dueI q) with
  |none=>exact h
  |some z=>
   dsimp only
   have hz:=(leastI_some hl).1
   obtain⟨h1,h2,h3⟩:=due_in hq hz
   have hzr:ItR q z:=hq.it _ (look_in h1)
   obtain⟨k1,k2,k3⟩:=pass_lf hzr h2 h3
   have hwq:=hq.pass h1 h2 h3 (by omega)
   obtain⟨a1,a2,a3,a4,a5,a6,a7⟩:=becQ_same q z (passL z.l q.now.toNat q.del)
   have htn:(becQ q z (passL z.l q.now.toNat q.del)).turns.toNat≤q.turns.toNat+1:=by
    rw[a7]
    split
    · rw[UInt64.toNat_add,show(1:UInt64).toNat=1 from rfl];omega
    · omega
   exact tick_tu k hwq (Tu.bec hq h (by omega) z (by omega)) (by omega)
theorem due_none {q:QR} (hq:WQ q) (h:dueI q=[]):∀i z,look q i=some z→(z.st=2∨z.st=3)→q.now<z.due:=by
 intro i z hz hs
 rw[UInt64.lt_iff_toNat_lt]
 refine Classical.byContradiction fun k=> ?_
 have:z∈dueI q:=by
  unfold dueI
  rw[List.mem_filter,decide_eq_true_eq,UInt64.le_iff_toNat_le]
  exact⟨List.mem_map.2 ⟨_,look_in hz,rfl⟩,hs,by omega⟩
 rw[h] at this
 simp at this
theorem Fq.tick {q:QR} (hq:WQ q) (h:Fq q) (hb:q.turns.toNat+201<18446744073709551615) (n:UInt64):Fq (tickQ q n).2.2:=by
 unfold tickQ
 split
 · exact h
 have h1:=tick_all 201 {q with now:=q.now+n} (hq.clock _) (by show q.turns.toNat+201<_;omega)
 refine⟨due_none h1.1 (h1.2.2.2.2 ?_),tick_tu 201 (hq.clock _) h.tu (by show q.turns.toNat+201<_;omega)⟩
 unfold dueI
 refine Nat.le_trans (List.length_filter_le _ _) ?_
 rw[List.length_map]
 have:=hq.ln
 show q.its.length≤201
 omega
theorem Fq.resL:∀(l:List It) {q:QR},WQ q→Fq q→(∀z∈l,look q z.id=some z∧z.st=3)→(l.map It.id).Nodup→q.turns.toNat+l.length<18446744073709551615→Fq (Go.Proofs.YtcfgafododiioaaGreatDoor.resL q.del l q)
 |[],q,_,h,_,_,_=>h
 |z::r,q,hq,h,hz,hn,hb=>by
  rw[List.map_cons,List.nodup_cons] at hn
  simp only[List.length_cons] at hb
  obtain⟨h1,h2⟩:=hz z (by simp)
  have hr:ItR q z:=hq.it _ (look_in h1)
  obtain⟨k1,k2,k3⟩:=reset_lf hr h2
  have hw:WQ (becQ q z (resetL z.l q.del)):=hq.become (.inl h1) k1 (by omega) (by omega) fun k=>by omega
  obtain⟨a1,a2,a3,a4,a5,a6,a7⟩:=becQ_same q z (resetL z.l q.del)
  have htn:(becQ q z (resetL z.l q.del)).turns.toNat≤q.turns.toNat+1:=by
   rw[a7]
   split
   · rw[UInt64.toNat_add,show(1:UInt64).toNat=1 from rfl];omega
   · omega
  have:=Fq.resL r hw (h.bec hq (by omega) z (l:=resetL z.l q.del) (by omega) (by omega)) (fun y hy=> ?_) hn.2 (by omega)
  · rw[a3] at this
    exact this
  · obtain⟨h3,h4⟩:=hz y (List.mem_cons_of_mem _ hy)
    have hne:y.id≠z.id:=fun e=>hn.1 (List.mem_map.2 ⟨y,hy,e⟩)
    refine⟨?_,h4⟩
    unfold look
    rw[bec_its (by omega),lku_cons,if_neg hne,lookup_noK,if_neg hne]
    exact h3
theorem Fq.reset {q:QR} (hq:WQ q) (h:Fq q) (hb:q.turns.toNat+201<18446744073709551615):Fq (resetQ q):=by
 have hp:=sortW_perm (lesI q)
 have hl1:(lesI q).length≤200:=Nat.le_trans (List.length_filter_le _ _) (by rw[List.length_map];exact hq.ln)
 exact Fq.resL _ hq h (fun z hz=>les_in hq (hp.mem_iff.1 hz)) (by rw[(hp.map It.id).nodup_iff];exact les_nd hq) (by rw[hp.length_eq];omega)
structure XQ (N:Nat) (q:QR):Prop where
 wi:WI N q
 fq:Fq q
theorem Fq.actB {N:Nat} {q:QR} (h:WI N q) (f:Fq q) (hN:N+300≤5000000000000000000) (a:Ai):∀k:Kd,Fq (Go.Proofs.YtcfgafododiioaaGreatDoor.actB q a k).2
 | .a0=>by rw[actB0];exact f.put h.wq (by have:=h.lo.tu;omega) _ _ _ _ _
 | .a1=>by rw[actB1];exact f.lease h.wq (by have:=h.lo.tu;omega) _ _
 | .a2=>by
  rw[actB2]
  refine f.with h.wq (by have:=h.lo.tu;omega) _ _ fun x he=> ?_
  unfold ackL at he⊢
  split
  · exact⟨.inr (.inr (.inr (.inr rfl))),fun k=>by simp at k⟩
  · rename_i k;rw[if_neg k] at he;simp at he
 | .a3=>by
  rw[actB3]
  refine f.with h.wq (by have:=h.lo.tu;omega) _ _ fun x he=> ?_
  unfold nackL at he⊢
  split
  · rename_i k
    rw[if_pos k] at he
    split
    · rename_i k2
      rw[show endL x q.del=⟨4,x.c,0,0⟩ from if_pos k2]
      exact⟨.inr (.inr (.inr (.inl rfl))),fun k=>by simp at k⟩
    · rename_i k2
      rw[if_neg k2] at he
      have:=wait_d x q.now a.n he
      exact⟨by omega,this.2⟩
  · rename_i k;rw[if_neg k] at he;simp at he
 | .a4=>by
  rw[actB4]
  refine f.with h.wq (by have:=h.lo.tu;omega) _ _ fun x he=> ?_
  have hm:=a.n.toNat_lt
  unfold extendL overP at he⊢
  split
  · rename_i k
    rw[if_pos k] at he
    split
    · rename_i k2;rw[if_pos k2] at he;simp at he
    · rename_i k2
      rw[if_neg k2] at he
      split
      · rename_i k3;rw[if_pos k3] at he;simp at he
      · refine⟨.inr (.inr (.inl rfl)),fun _=> ?_⟩
        dsimp only
        omega
  · rename_i k;rw[if_neg k] at he;simp at he
 | .a5=>by
  have hk:=f.tick h.wq (by have:=h.lo.tu;omega) a.n
  obtain⟨T,hT⟩:∃T,tickQ q a.n=T:=⟨_,rfl⟩
  rw[actB5,hT]
  rw[hT] at hk
  exact hk
 | .a6=>by rw[actB6];exact f.deadQ h.wq (by have:=h.lo.tu;omega) _ _ (.inl rfl)
 | .a7=>by rw[actB7];exact f.deadQ h.wq (by have:=h.lo.tu;omega) _ _ (.inr rfl)
 | .a8=>by rw[actB8];exact⟨f.du,f.tu⟩
 | .a9=>by rw[actB9];exact f.reset h.wq (by have:=h.lo.tu;omega)
 | .a10=>by rw[actB10];exact f
 | .a11=>by rw[actB11];exact f
theorem XQ.act {N:Nat} {q:QR} (h:XQ N q) (hN:N+300≤5000000000000000000) (a:Ai):XQ (N+300) (actI q a).2:=⟨h.wi.act hN a,h.fq.actB h.wi hN a _⟩
theorem XQ.mono {N M:Nat} {q:QR} (h:XQ N q) (k:N≤M):XQ M q:=⟨h.wi.mono k,h.fq⟩
end Go.Proofs.YtcfgafododiioaaGreatDoor
