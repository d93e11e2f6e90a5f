/- Texts of a claim, side by side. -/
import Derived.Test.YtcfgafododiioaaGreatDoorC32
set_option linter.unusedSimpArgs false
set_option linter.unusedVariables false
namespace Go.Proofs.YtcfgafododiioaaGreatDoor
open Go Go.RowKit Go.Tum Go.ChangeMaps Go.Sort
def rightC (la pa de:Int):Bool:=decide (1≤la∧la≤8∧0≤pa∧pa≤64∧1≤de∧de≤20)
def LifeP (de:Int) (nw ls ts:Nat) (z:It):Prop:=
 (z.st=1∧0≤z.ct∧z.ct<de∧z.tok.toNat=0∧z.due.toNat=0∧1≤z.turn.toNat∧z.turn.toNat≤ts)∨
 (z.st=2∧0≤z.ct∧z.ct<de∧z.tok.toNat=0∧nw<z.due.toNat∧z.turn.toNat=0)∨
 (z.st=3∧1≤z.ct∧z.ct≤de∧1≤z.tok.toNat∧z.tok.toNat≤ls∧nw<z.due.toNat∧z.turn.toNat=0)∨
 (z.st=4∧z.ct=de∧z.tok.toNat=0∧z.due.toNat=0∧z.turn.toNat=0)
instance (de:Int) (nw ls ts:Nat) (z:It):Decidable (LifeP de nw ls ts z):=by unfold LifeP;infer_instance
def lifeOk (de:Int) (s:SR) (z:It):Bool:=decide (LifeP de s.now.toNat s.leases.toNat s.turns.toNat z)
def idsL (next:UInt64):Nat→List It→Bool
 |_,[]=>true
 |a,z::r=>if z.id.toNat≤a∨next.toNat≠0∧next.toNat≤z.id.toNat then false else idsL next z.id.toNat r
def itOk (la pa de:Int) (s:SR) (z:It):Bool:=decide (0≤z.lane∧z.lane<la∧0≤z.size∧z.size≤pa) && lifeOk de s z
def turnsOf (l:List It):List UInt64:=(l.filter fun z=>decide (z.st=1)).map It.turn
def toksOf (l:List It):List UInt64:=(l.filter fun z=>decide (z.st=3)).map It.tok
def deadsOf (l:List It):List It:=l.filter fun z=>decide (z.st=4)
def itemsOk (la pa de:Int) (s:SR):Bool:=s.items.all (itOk la pa de s) && (decide (turnsOf s.items).Nodup && decide (toksOf s.items).Nodup)
def deadOk (d:PD) (s:SR):Bool:=(deadsOf s.items).all (fun z=>(d.rows.lookup z.id).isSome) && decide ((deadsOf s.items).length=s.dead.length)
def restOk (la pa de:Int) (s:SR):Bool:=match fromD s.deaths s.dead s.curs with
 |none=>false
 |some d=>idsL s.next 0 s.items && (itemsOk la pa de s && deadOk d s)
def countOk (s:SR):Bool:=decide (s.leases.toNat≤4611686018427387904∧s.turns.toNat≤4611686018427387904∧s.deaths.toNat≤4611686018427387904∧s.items.length≤200)
def stateOk (la pa de:Int) (s:SR):Bool:=countOk s && restOk la pa de s
def baseQ (la pa de:Int) (s:SR) (d:PD):QR:=⟨la,pa,de,s.now,s.next,s.leases,s.turns,[],fun _=>[],fun _=>none,[],d⟩
theorem LifeP.lf {de:Int} {nw:Nat} {ls:UInt64} {ts:Nat} {z:It} (h:LifeP de nw ls.toNat ts z):
 (z.st=1∧0≤z.ct∧z.ct<de∧z.due=0∧z.tok=0∧1≤z.turn.toNat)∨(z.st=2∧0≤z.ct∧z.ct<de∧z.tok=0∧z.turn=0)∨
  (z.st=3∧1≤z.ct∧z.ct≤de∧1≤z.tok.toNat∧z.tok≤ls∧z.turn=0)∨(z.st=4∧z.ct=de∧z.due=0∧z.tok=0∧z.turn=0):=by
 have e:∀x:UInt64,x.toNat=0→x=0:=fun x h=>u64_eq.2 h
 rcases h with ⟨h1,h2,h3,h4,h5,h6,h7⟩|⟨h1,h2,h3,h4,h5,h6⟩|⟨h1,h2,h3,h4,h5,h6,h7⟩|⟨h1,h2,h3,h4,h5⟩
 · exact .inl ⟨h1,h2,h3,e _ h5,e _ h4,h6⟩
 · exact .inr (.inl ⟨h1,h2,h3,e _ h4,e _ h6⟩)
 · exact .inr (.inr (.inl ⟨h1,h2,h3,h4,UInt64.le_iff_toNat_le.2 h5,e _ h7⟩))
 · exact .inr (.inr (.inr ⟨h1,h2,e _ h4,e _ h3,e _ h5⟩))
theorem LifeP.of {de:Int} {nw:UInt64} {ls ts:UInt64} {z:It} (ht:z.turn≤ts) (hd:(z.st=2∨z.st=3)→nw<z.due)
 (h:(z.st=1∧0≤z.ct∧z.ct<de∧z.due=0∧z.tok=0∧1≤z.turn.toNat)∨(z.st=2∧0≤z.ct∧z.ct<de∧z.tok=0∧z.turn=0)∨
  (z.st=3∧1≤z.ct∧z.ct≤de∧1≤z.tok.toNat∧z.tok≤ls∧z.turn=0)∨(z.st=4∧z.ct=de∧z.due=0∧z.tok=0∧z.turn=0)):LifeP de nw.toNat ls.toNat ts.toNat z:=by
 have e:∀x:UInt64,x=0→x.toNat=0:=fun x h=>by rw[h];rfl
 rcases h with ⟨h1,h2,h3,h4,h5,h6⟩|⟨h1,h2,h3,h4,h5⟩|⟨h1,h2,h3,h4,h5,h6⟩|⟨h1,h2,h3,h4,h5⟩
 · exact .inl ⟨h1,h2,h3,e _ h5,e _ h4,h6,UInt64.le_iff_toNat_le.1 ht⟩
 · exact .inr (.inl ⟨h1,h2,h3,e _ h4,u64_lt.1 (hd (.inl h1)),e _ h5⟩)
 · exact .inr (.inr (.inl ⟨h1,h2,h3,h4,UInt64.le_iff_toNat_le.1 h5,u64_lt.1 (hd (.inr h1)),e _ h6⟩))
 · exact .inr (.inr (.inr ⟨h1,h2,e _ h4,e _ h3,e _ h5⟩))
theorem LifeP.tn {de:Int} {nw ls ts:Nat} {z:It} (h:LifeP de nw ls ts z):z.turn.toNat≤ts:=by
 rcases h with ⟨h1,h2,h3,h4,h5,h6,h7⟩|⟨h1,h2,h3,h4,h5,h6⟩|⟨h1,h2,h3,h4,h5,h6,h7⟩|⟨h1,h2,h3,h4,h5⟩<;>omega
theorem LifeP.st {de:Int} {nw ls ts:Nat} {z:It} (h:LifeP de nw ls ts z):z.st=1∨z.st=2∨z.st=3∨z.st=4:=by
 rcases h with ⟨h1,-⟩|⟨h1,-⟩|⟨h1,-⟩|⟨h1,-⟩
 · exact .inl h1
 · exact .inr (.inl h1)
 · exact .inr (.inr (.inl h1))
 · exact .inr (.inr (.inr h1))
theorem LifeP.nt {de:Int} {nw ls ts:Nat} {z:It} (h:LifeP de nw ls ts z) (k:z.st≠1):z.turn.toNat=0:=by
 rcases h with ⟨h1,h2,h3,h4,h5,h6,h7⟩|⟨h1,h2,h3,h4,h5,h6⟩|⟨h1,h2,h3,h4,h5,h6,h7⟩|⟨h1,h2,h3,h4,h5⟩
 · exact absurd h1 k
 · exact h6
 · exact h7
 · exact h5
theorem LifeP.t1 {de:Int} {nw ls ts:Nat} {z:It} (h:LifeP de nw ls ts z) (k:z.st=1):1≤z.turn.toNat:=by
 rcases h with ⟨h1,h2,h3,h4,h5,h6,h7⟩|⟨h1,-⟩|⟨h1,-⟩|⟨h1,-⟩
 · exact h6
 all_goals omega
theorem LifeP.du {de:Int} {nw ls ts:Nat} {z:It} (h:LifeP de nw ls ts z) (k:z.st=2∨z.st=3):nw<z.due.toNat:=by
 rcases h with ⟨h1,-⟩|⟨h1,h2,h3,h4,h5,h6⟩|⟨h1,h2,h3,h4,h5,h6,h7⟩|⟨h1,-⟩
 · omega
 · exact h5
 · exact h6
 · omega
theorem idsL_iff (next:UInt64):∀(l:List It) (a:Nat),idsL next a l=true↔(∀z∈l,a<z.id.toNat∧(next.toNat=0∨z.id.toNat<next.toNat))∧l.Pairwise fun x y=>x.id.toNat<y.id.toNat
 |[],a=>by simp[idsL]
 |z::r,a=>by
  rw[idsL]
  split
  · rename_i h
    simp only[Bool.false_eq_true,false_iff,not_and]
    intro h1
    have:=h1 z (by simp)
    omega
  · rename_i h
    rw[idsL_iff next r z.id.toNat,List.pairwise_cons]
    constructor
    · rintro⟨h1,h2⟩
      refine⟨fun y hy=> ?_,fun y hy=>(h1 y hy).1,h2⟩
      rcases List.mem_cons.1 hy with rfl|hy
      · omega
      · have:=h1 y hy
        omega
    · rintro⟨h1,h2,h3⟩
      exact⟨fun y hy=>⟨h2 y hy,(h1 y (List.mem_cons_of_mem _ hy)).2⟩,h3⟩
theorem takeR_nd:∀(l:List (UInt64×UInt64)) (a:UInt64) (s s':PD),takeR a l s=some s'→(s.rows.map Prod.fst).Nodup→(s'.rows.map Prod.fst).Nodup
 |[],a,s,s',h,k=>by rw[takeR] at h;cases h;exact k
 |z::r,a,s,s',h,k=>by
  rw[takeR] at h
  split at h
  · cases h
  · rename_i hc
    simp only[Bool.or_eq_true,not_or,Bool.not_eq_true] at hc
    refine takeR_nd r z.2 _ s' h ?_
    show((s.rows++[z]).map Prod.fst).Nodup
    rw[List.map_append,List.nodup_append]
    refine⟨k,by simp,fun b hb c hc2 e=> ?_⟩
    simp at hc2
    subst hc2
    subst e
    obtain⟨y,hy,e⟩:=List.mem_map.1 hb
    have:=nodup_lku k hy
    rw[e] at this
    rw[this] at hc
    simp at hc
theorem from_nd {last:UInt64} {rows:List (UInt64×UInt64)} {cs:List Cur} {d:PD} (h:fromD last rows cs=some d):(rows.map Prod.fst).Nodup:=by
 have h1:=(WD.from h).2
 unfold fromD at h
 split at h
 · cases h
 · rename_i s1 h1
   obtain⟨-,-,a3,-⟩:=takeR_mono _ _ _ _ h1
   have:=takeR_nd _ _ _ _ h1 (by simp)
   rw[a3] at this
   simpa using this
theorem sub_all {l m:List UInt64} (hl:l.Nodup) (hs:∀a∈l,a∈m) (he:m.length≤l.length):∀a∈m,a∈l:=fun a ha=>by
 refine Classical.byContradiction fun k=> ?_
 have h1:=nodup_le hl (m:=m.erase a) fun b hb=>(List.mem_erase_of_ne (fun e=>k (by rw[←e];exact hb))).2 (hs b hb)
 have h2:=List.length_erase_of_mem ha
 have h3:0<m.length:=List.length_pos_of_mem ha
 omega
theorem enterQ_dd (q:QR) (z:It) (d:PD) (hs:z.st=1∨z.st=2∨z.st=3∨z.st=4):∃d',enterQ {q with dd:=d} z={enterQ q z with dd:=d'}:=by
 rcases hs with h|h|h|h
 · exact⟨d,by rw[enterQ1 _ _ h,enterQ1 _ _ h];rfl⟩
 · exact⟨d,by rw[enterQ2 _ _ h,enterQ2 _ _ h];rfl⟩
 · exact⟨d,by rw[enterQ3 _ _ h,enterQ3 _ _ h];rfl⟩
 · exact⟨_,by rw[enterQ4 _ _ h,enterQ4 _ _ h];rfl⟩
theorem fold_dd:∀(m:List It) (q:QR) (d:PD),(∀z∈m,z.st=1∨z.st=2∨z.st=3∨z.st=4)→∃d',m.foldl enterQ {q with dd:=d}={m.foldl enterQ q with dd:=d'}
 |[],q,d,_=>⟨d,rfl⟩
 |z::m,q,d,hs=>by
  obtain⟨d1,e1⟩:=enterQ_dd q z d (hs z (by simp))
  rw[List.foldl_cons,List.foldl_cons,e1]
  exact fold_dd m (enterQ q z) d1 fun y hy=>hs y (List.mem_cons_of_mem _ hy)
theorem enterQ_keep (q:QR) (z:It) (h:z.st=4→(q.dd.rows.lookup z.id).isSome=true):(enterQ q z).dd=q.dd:=by
 unfold enterQ putI
 split
 · rfl
 split
 · rfl
 split
 · rfl
 split
 · rename_i h4
   unfold addD
   dsimp only
   rw[if_pos (h h4)]
 split
 · rfl
 · rfl
theorem fold_keep:∀(m:List It) (q:QR),(∀z∈m,z.st=4→(q.dd.rows.lookup z.id).isSome=true)→(m.foldl enterQ q).dd=q.dd
 |[],q,_=>rfl
 |z::m,q,h=>by
  have e:=enterQ_keep q z (h z (by simp))
  rw[List.foldl_cons,fold_keep m _ (by rw[e];exact fun y hy=>h y (List.mem_cons_of_mem _ hy)),e]
theorem fold_same:∀(m:List It) (q:QR),(m.foldl enterQ q).lanes=q.lanes∧(m.foldl enterQ q).pay=q.pay∧(m.foldl enterQ q).del=q.del∧(m.foldl enterQ q).now=q.now∧(m.foldl enterQ q).next=q.next∧(m.foldl enterQ q).leases=q.leases∧(m.foldl enterQ q).turns=q.turns
 |[],q=>⟨rfl,rfl,rfl,rfl,rfl,rfl,rfl⟩
 |z::m,q=>by
  obtain⟨a1,a2,a3,a4,a5,a6,a7⟩:=enterQ_same q z
  obtain⟨b1,b2,b3,b4,b5,b6,b7⟩:=fold_same m (enterQ q z)
  rw[List.foldl_cons]
  exact⟨b1.trans a1,b2.trans a2,b3.trans a3,b4.trans a4,b5.trans a5,b6.trans a6,b7.trans a7⟩
theorem fold_nd:∀(m:List It) (q:QR),(q.hld.map Prod.fst).Nodup→(q.dd.rows.map Prod.fst).Nodup→((m.foldl enterQ q).hld.map Prod.fst).Nodup
 |[],q,h,_=>h
 |z::m,q,h,k=>by
  have:=enterQ_nd (z:=z) h k
  rw[List.foldl_cons]
  exact fold_nd m _ this.1 this.2
structure Rem (G:UInt64→Option It) (m:List It):Prop where
 nw:∀z∈m,G z.id=none
 ok:∀z∈m,z.lane.toNat<8∧(z.st=1∨z.st=2∨z.st=3∨z.st=4)
 tn:∀z∈m,z.st=1→∀i y,G i=some y→y.turn<z.turn
 tk:∀z∈m,z.st=3→∀i y,G i=some y→y.st=3→y.tok≠z.tok
 pw:m.Pairwise fun a b=>a.id≠b.id∧(b.st=1→a.turn<b.turn)∧(a.st=3→b.st=3→a.tok≠b.tok)
theorem Rem.step {G:UInt64→Option It} {z:It} {m:List It} (h:Rem G (z::m)):Rem (setG G z.id z) m:=by
 have hp:=List.pairwise_cons.1 h.pw
 refine⟨fun y hy=> ?_,fun y hy=>h.ok y (List.mem_cons_of_mem _ hy),fun y hy h1 i x hx=> ?_,fun y hy h1 i x hx h2=> ?_,hp.2⟩
 · unfold setG
   rw[if_neg (Ne.symm (hp.1 y hy).1)]
   exact h.nw y (List.mem_cons_of_mem _ hy)
 · unfold setG at hx
   split at hx
   · cases hx;exact(hp.1 y hy).2.1 h1
   · exact h.tn y (List.mem_cons_of_mem _ hy) h1 i x hx
 · unfold setG at hx
   split at hx
   · cases hx;exact(hp.1 y hy).2.2 h2 h1
   · exact h.tk y (List.mem_cons_of_mem _ hy) h1 i x hx h2
theorem noK_noneI {l:List (UInt64×It)} {x:UInt64} (h:l.lookup x=none):noK l x=l:=List.filter_eq_self.2 fun z hz=>by
 have:z.1≠x:=fun e=>lku_none.1 h (List.mem_map.2 ⟨z,hz,e⟩)
 simpa using this
theorem fold_cons:∀(m:List It) (q:QR),Cons (look q) q→Rem (look q) m→Cons (look (m.foldl enterQ q)) (m.foldl enterQ q)∧(m.foldl enterQ q).its=(m.reverse.map fun z=>(z.id,z))++q.its
 |[],q,h,_=>⟨h,rfl⟩
 |z::m,q,h,hr=>by
  have h0:=hr.nw z (by simp)
  have hok:=hr.ok z (by simp)
  have hs:z.st=1∨z.st=2∨z.st=3∨z.st=4∨z.st=5:=by have:=hok.2;omega
  have hl:look (enterQ q z)=setG (look q) z.id z:=by
   rw[look_enter q z hs,delG_same h0]
   unfold entG
   rw[if_neg (by have:=hok.2;omega)]
  have hc:=h.enter h0 hok.1 hs (hr.tn z (by simp)) (hr.tk z (by simp))
  have he:entG (look q) z=setG (look q) z.id z:=by unfold entG;rw[if_neg (by have:=hok.2;omega)]
  rw[he,←hl] at hc
  have hi:(enterQ q z).its=(z.id,z)::q.its:=by
   rw[enterQ_its q z hs,if_neg (by have:=hok.2;omega),noK_noneI h0]
  obtain⟨k1,k2⟩:=fold_cons m (enterQ q z) hc (by rw[hl];exact hr.step)
  rw[List.foldl_cons]
  refine⟨k1,?_⟩
  rw[k2,hi,List.reverse_cons,List.map_append,List.append_assoc]
  rfl
structure MadeR (N:Nat) (la pa de:Int) (s:SR) (q:QR):Prop where
 la:q.lanes=la
 pa:q.pay=pa
 de:q.del=de
 st:stateQ q=s
 xq:XQ N q
theorem made_of {N:Nat} {la pa de:Int} {s:SR} {d:PD} {m:List It} (hc:rightC la pa de=true) (hd:fromD s.deaths s.dead s.curs=some d) (hr:restOk la pa de s=true) (hl:s.items.length≤200)
 (hb:s.leases.toNat≤N∧s.turns.toNat≤N∧s.deaths.toNat≤N) (hm:m.Perm s.items) (hp:m.Pairwise fun x y=>ltOf cfT y x=false):MadeR N la pa de s (m.foldl enterQ (baseQ la pa de s d)):=by
 unfold restOk at hr
 rw[hd] at hr
 dsimp only at hr
 simp only[Bool.and_eq_true] at hr
 obtain⟨h1,h2,h3⟩:=hr
 obtain⟨i1,i2⟩:=(idsL_iff _ _ _).1 h1
 unfold itemsOk at h2
 simp only[Bool.and_eq_true,List.all_eq_true,decide_eq_true_eq] at h2
 obtain⟨k1,k2,k3⟩:=h2
 unfold deadOk at h3
 simp only[Bool.and_eq_true,List.all_eq_true,decide_eq_true_eq] at h3
 obtain⟨d1,d2⟩:=h3
 obtain⟨hwd,hde⟩:=WD.from hd
 have hdn:=from_nd hd
 have hcf:1≤la∧la≤8∧0≤pa∧pa≤64∧1≤de∧de≤20:=by unfold rightC at hc;simpa using hc
 have hok:∀z∈s.items,(0≤z.lane∧z.lane<la∧0≤z.size∧z.size≤pa)∧LifeP de s.now.toNat s.leases.toNat s.turns.toNat z:=fun z hz=>by
  have:=k1 z hz
  unfold itOk lifeOk at this
  simpa using this
 have hst:∀z∈s.items,z.st=1∨z.st=2∨z.st=3∨z.st=4:=fun z hz=>by
  exact(hok z hz).2.st
 have hidn:(s.items.map It.id).Nodup:=by
  unfold List.Nodup
  rw[List.pairwise_map]
  exact i2.imp fun h e=>by rw[e] at h;omega
 have hds:d.rows=s.dead:=by rw[hde]
 have hrem:Rem (fun _=>none) m:=by
  refine⟨fun _ _=>rfl,fun z hz=> ?_,fun _ _ _ _ _ h=>(by cases h),fun _ _ _ _ _ h=>(by cases h),?_⟩
  · have:=(hok z (hm.mem_iff.1 hz)).1
    exact⟨by omega,hst z (hm.mem_iff.1 hz)⟩
  · have q1:m.Pairwise fun a b=>a.id≠b.id:=by
     have:=(hm.map It.id).nodup_iff.2 hidn
     unfold List.Nodup at this
     rwa[List.pairwise_map] at this
    refine(q1.and hp).imp_of_mem fun{a b} ha hb hab=> ?_
    obtain⟨hne,hlt⟩:=hab
    have ha':=hm.mem_iff.1 ha
    have hb':=hm.mem_iff.1 hb
    refine⟨hne,fun e1=> ?_,fun e1 e2 e3=> ?_⟩
    · rw[lt_cfT] at hlt
      simp only[decide_eq_false_iff_not,u64_lt] at hlt
      rw[u64_lt]
      have hbl:=(hok b hb').2
      have hal:=(hok a ha').2
      by_cases e2:a.st=1
      · have:a.turn≠b.turn:=fun e=>by
         have hia:a∈s.items.filter fun z=>decide (z.st=1):=List.mem_filter.2 ⟨ha',by simpa using e2⟩
         have hib:b∈s.items.filter fun z=>decide (z.st=1):=List.mem_filter.2 ⟨hb',by simpa using e1⟩
         exact hne (congrArg It.id (inj_of_nodup k2 hia hib e))
        rw[Ne,u64_eq] at this
        omega
      · have k1:=hal.nt e2
        have k2:=hbl.t1 e1
        omega
    · have hia:a∈s.items.filter fun z=>decide (z.st=3):=List.mem_filter.2 ⟨ha',by simpa using e1⟩
      have hib:b∈s.items.filter fun z=>decide (z.st=3):=List.mem_filter.2 ⟨hb',by simpa using e2⟩
      exact hne (congrArg It.id (inj_of_nodup k3 hia hib e3))
 have hms:∀z∈m,z.st=1∨z.st=2∨z.st=3∨z.st=4:=fun z hz=>hst z (hm.mem_iff.1 hz)
 obtain⟨q,hq⟩:∃q,m.foldl enterQ (baseQ la pa de s d)=q:=⟨_,rfl⟩
 have hkeep:=fold_keep m (baseQ la pa de s d) fun z hz h4=>d1 z (List.mem_filter.2 ⟨hm.mem_iff.1 hz,by simpa using h4⟩)
 obtain⟨s1,s2,s3,s4,s5,s6,s7⟩:=fold_same m (baseQ la pa de s d)
 have hhn:=fold_nd m (baseQ la pa de s d) (by simp[baseQ]) (by show(d.rows.map Prod.fst).Nodup;rw[hds];exact hdn)
 obtain⟨d',e'⟩:=fold_dd m (baseQ la pa de s d) ⟨0,[],[]⟩ hms
 obtain⟨c1,c2⟩:=fold_cons m {baseQ la pa de s d with dd:=⟨0,[],[]⟩} ⟨fun n hn i=>by simp[look,baseQ],fun n hn=>by simp[baseQ],fun i=>by simp[look,baseQ],fun t i=>by simp[look,baseQ],fun i=>by simp[look,baseQ]⟩ hrem
 rw[e'] at c1 c2
 rw[hq] at hkeep s1 s2 s3 s4 s5 s6 s7 hhn c1 c2⊢
 have hits:q.its=m.reverse.map fun z=>(z.id,z):=by
  have:q.its=(m.reverse.map fun z=>(z.id,z))++[]:=c2
  simpa using this
 have hits2:q.its.map Prod.snd=m.reverse:=by rw[hits,List.map_map];exact List.map_id _
 have hpm:(q.its.map Prod.snd).Perm s.items:=by rw[hits2];exact(List.reverse_perm m).trans hm
 have hids:q.its.map Prod.fst=(q.its.map Prod.snd).map It.id:=by rw[hits,List.map_map,List.map_map,List.map_map];rfl
 have hnd:(q.its.map Prod.fst).Nodup:=by rw[hids];exact(hpm.map It.id).nodup_iff.2 hidn
 have hky:∀z∈q.its,z.1=z.2.id:=fun z hz=>by
  rw[hits] at hz
  obtain⟨y,-,rfl⟩:=List.mem_map.1 hz
  rfl
 have hin:∀z∈q.its,z.2∈s.items:=fun z hz=>hpm.mem_iff.1 (List.mem_map.2 ⟨z,hz,rfl⟩)
 have hlk:∀i z,look q i=some z↔z∈s.items∧z.id=i:=fun i z=>by
  constructor
  · intro h
    have h1:=lku_mem h
    exact⟨hin _ h1,(hky _ h1).symm⟩
  · rintro⟨h1,rfl⟩
    obtain⟨y,hy,e⟩:=List.mem_map.1 (hpm.mem_iff.2 h1)
    subst e
    have:=nodup_lku hnd hy
    rw[hky y hy] at this
    exact this
 have hlife:∀z∈s.items,ItR q z:=fun z hz=>by
  obtain⟨a1,a2⟩:=hok z hz
  have a3:=i1 z hz
  refine⟨by omega,?_,by rw[s1];exact⟨a1.1,a1.2.1⟩,by rw[s2];exact⟨a1.2.2.1,a1.2.2.2⟩,?_,?_⟩
  · rw[s5]
    rcases a3.2 with k|k
    · exact .inl (u64_eq.2 k)
    · exact .inr (u64_lt.2 k)
  · rw[s7,UInt64.le_iff_toNat_le]
    exact a2.tn
  · rw[s3,s6]
    exact a2.lf
 have hcf2:1≤q.lanes∧q.lanes≤8∧0≤q.pay∧q.pay≤64∧1≤q.del∧q.del≤20:=by rw[s1,s2,s3];exact hcf
 have hdd:q.dd=d:=hkeep
 have hco:Cons (look q) q:=by
  refine⟨c1.row,c1.srt,c1.wat,c1.hld,fun i=> ?_⟩
  rw[hdd,hds]
  constructor
  · intro h
    have hi:i∈s.dead.map Prod.fst:=by
     cases hx:s.dead.lookup i with
     |none=>rw[hx] at h;simp at h
     |some v=>exact List.mem_map.2 ⟨_,lku_mem hx,rfl⟩
    have:=sub_all (l:=(deadsOf s.items).map It.id) (m:=s.dead.map Prod.fst) ((List.filter_sublist.map It.id).nodup hidn) (fun a ha=> ?_) (by rw[List.length_map,List.length_map,d2];exact Nat.le_refl _) i hi
    · obtain⟨z,hz,e⟩:=List.mem_map.1 this
      have hz2:=List.mem_filter.1 hz
      exact⟨z,(hlk i z).2 ⟨hz2.1,e⟩,by simpa using hz2.2⟩
    · obtain⟨z,hz,e⟩:=List.mem_map.1 ha
      have:=d1 z hz
      rw[hds] at this
      subst e
      cases hx:s.dead.lookup z.id with
      |none=>rw[hx] at this;simp at this
      |some v=>exact List.mem_map.2 ⟨_,lku_mem hx,rfl⟩
  · rintro⟨z,hz,h4⟩
    obtain⟨a1,rfl⟩:=(hlk i z).1 hz
    have:=d1 z (List.mem_filter.2 ⟨a1,by simpa using h4⟩)
    rwa[hds] at this
 have hwq:WQ q:=⟨hcf2,by have:=hpm.length_eq;rw[List.length_map] at this;omega,hnd,hky,fun z hz=>hlife _ (hin z hz),hco,hhn,by rw[hdd,hds];exact hdn⟩
 refine⟨s1,s2,s3,?_,⟨hwq,by rw[hdd];exact hwd,by rw[s7];exact hb.2.1,by rw[s6];exact hb.1,by rw[hdd,hde];exact hb.2.2⟩,fun i z hz hs=> ?_,fun i j y z hy hz e1 e2 hij e3=> ?_⟩
 · have hsi:s.items=sortN (q.its.map Prod.snd):=sortN_of (by rw[hwq.ids];exact hnd) hpm.symm (i2.imp fun h=>by
    rw[lt_cfI]
    simp only[decide_eq_false_iff_not,u64_lt]
    omega)
   unfold stateQ
   rw[s4,s5,s6,s7,←hsi,hdd,hwd.all,hde]
   rfl
 · rw[s4,u64_lt]
   exact(hok z ((hlk i z).1 hz).1).2.du hs
 · obtain⟨a1,a2⟩:=(hlk i y).1 hy
   obtain⟨b1,b2⟩:=(hlk j z).1 hz
   have hia:y∈s.items.filter fun z=>decide (z.st=1):=List.mem_filter.2 ⟨a1,by simpa using e1⟩
   have hib:z∈s.items.filter fun z=>decide (z.st=1):=List.mem_filter.2 ⟨b1,by simpa using e2⟩
   have:=inj_of_nodup k2 hia hib e3
   exact hij (by rw[←a2,←b2,this])
theorem WQ.insort {q:QR} (h:WQ q) {z:It} (hz:z∈sortN (q.its.map Prod.snd)):look q z.id=some z:=by
 obtain⟨y,hy,rfl⟩:=List.mem_map.1 ((sortN_perm _).mem_iff.1 hz)
 have:=h.lkz hy
 rwa[h.ky y hy] at this
theorem look_sort {q:QR} (h:WQ q) (i:UInt64) (z:It):look q i=some z↔z∈sortN (q.its.map Prod.snd)∧z.id=i:=by
 constructor
 · intro k
   exact⟨(sortN_perm _).mem_iff.2 (List.mem_map.2 ⟨_,look_in k,rfl⟩),(h.idz k).symm⟩
 · rintro⟨k,rfl⟩
   exact h.insort k
theorem sort_ids {q:QR} (h:WQ q):((sortN (q.its.map Prod.snd)).map It.id).Nodup:=by
 rw[((sortN_perm _).map It.id).nodup_iff,h.ids]
 exact h.nd
theorem state_from {q:QR} (h:WQ q) (hd:WD q.dd):fromD (stateQ q).deaths (stateQ q).dead (stateQ q).curs=some q.dd:=by
 show fromD q.dd.last (sortP q.dd.rows) q.dd.seen=_
 rw[hd.all]
 exact from_own hd h.dn
theorem state_rest {N:Nat} {q:QR} (h:XQ N q):restOk q.lanes q.pay q.del (stateQ q)=true:=by
 obtain⟨⟨hq,hd,hlo⟩,hf⟩:=h
 unfold restOk
 rw[state_from hq hd]
 dsimp only
 have hids:=sort_ids hq
 have hpi:(sortN (q.its.map Prod.snd)).Pairwise fun a b=>a.id≠b.id:=by
  have:=hids
  unfold List.Nodup at this
  rwa[List.pairwise_map] at this
 have hit:∀z∈sortN (q.its.map Prod.snd),ItR q z:=fun z hz=>hq.it _ (look_in (hq.insort hz))
 simp only[Bool.and_eq_true]
 refine⟨(idsL_iff _ _ _).2 ⟨fun z hz=> ?_,?_⟩,?_,?_⟩
 · have:=hit z hz
   refine⟨this.ida,?_⟩
   rcases this.idn with k|k
   · left;show q.next.toNat=0;rw[k];rfl
   · exact .inr (u64_lt.1 k)
 · refine(hpi.and (sortN_pair _)).imp fun{a b} hab=> ?_
   obtain⟨h1,h2⟩:=hab
   rw[lt_cfI] at h2
   simp only[decide_eq_false_iff_not,u64_lt] at h2
   rw[Ne,u64_eq] at h1
   omega
 · unfold itemsOk
   simp only[Bool.and_eq_true,List.all_eq_true,decide_eq_true_eq]
   refine⟨fun z hz=> ?_,?_,?_⟩
   · obtain⟨a1,a2,a3,a4,a5,a6⟩:=hit z hz
     have hdu:=hf.du z.id z (hq.insort hz)
     unfold itOk lifeOk
     simp only[Bool.and_eq_true,decide_eq_true_eq]
     refine⟨⟨a3.1,a3.2,a4.1,a4.2⟩,?_⟩
     exact LifeP.of a5 hdu a6
   · show((sortN (q.its.map Prod.snd)).filter fun z=>decide (z.st=1)).map It.turn|>.Nodup
     unfold List.Nodup
     rw[List.pairwise_map]
     refine(hpi.sublist List.filter_sublist).imp_of_mem fun{a b} ha hb hab=> ?_
     have ha:=List.mem_filter.1 ha
     have hb:=List.mem_filter.1 hb
     exact hf.tu _ _ _ _ (hq.insort ha.1) (hq.insort hb.1) (by simpa using ha.2) (by simpa using hb.2) hab
   · show((sortN (q.its.map Prod.snd)).filter fun z=>decide (z.st=3)).map It.tok|>.Nodup
     unfold List.Nodup
     rw[List.pairwise_map]
     refine(hpi.sublist List.filter_sublist).imp_of_mem fun{a b} ha hb hab e=> ?_
     have ha:=List.mem_filter.1 ha
     have hb:=List.mem_filter.1 hb
     have h1:=(hq.co.hld a.tok a.id).2 ⟨a,hq.insort ha.1,by simpa using ha.2,rfl⟩
     have h2:=(hq.co.hld a.tok b.id).2 ⟨b,hq.insort hb.1,by simpa using hb.2,e.symm⟩
     rw[h1] at h2
     exact hab (Option.some.inj h2)
 · unfold deadOk
   simp only[Bool.and_eq_true,List.all_eq_true,decide_eq_true_eq]
   have hmem:∀i,i∈(deadsOf (sortN (q.its.map Prod.snd))).map It.id↔i∈q.dd.rows.map Prod.fst:=fun i=>by
    have h1:i∈q.dd.rows.map Prod.fst↔(q.dd.rows.lookup i).isSome=true:=by
     constructor
     · intro hi
       obtain⟨y,hy,rfl⟩:=List.mem_map.1 hi
       rw[nodup_lku hq.dn hy];rfl
     · intro hi
       cases hx:q.dd.rows.lookup i with
       |none=>rw[hx] at hi;simp at hi
       |some v=>exact List.mem_map.2 ⟨_,lku_mem hx,rfl⟩
    rw[h1,hq.co.ded]
    constructor
    · intro hi
      obtain⟨z,hz,e⟩:=List.mem_map.1 hi
      have hz:=List.mem_filter.1 hz
      exact⟨z,(look_sort hq i z).2 ⟨hz.1,e⟩,by simpa using hz.2⟩
    · rintro⟨z,hz,h4⟩
      obtain⟨a1,a2⟩:=(look_sort hq i z).1 hz
      exact List.mem_map.2 ⟨z,List.mem_filter.2 ⟨a1,by simpa using h4⟩,a2⟩
   refine⟨fun z hz=> ?_,?_⟩
   · have:=(hmem z.id).1 (List.mem_map.2 ⟨z,hz,rfl⟩)
     obtain⟨y,hy,e⟩:=List.mem_map.1 this
     rw[←e,nodup_lku hq.dn hy];rfl
   · have hp:=(List.perm_ext_iff_of_nodup ((List.filter_sublist.map It.id).nodup hids) hq.dn).2 hmem
     have:=hp.length_eq
     rw[List.length_map,List.length_map] at this
     show(deadsOf (sortN (q.its.map Prod.snd))).length=(sortP q.dd.rows).length
     rw[hd.all]
     exact this
theorem WQ.right {q:QR} (h:WQ q):rightC q.lanes q.pay q.del=true:=by
 unfold rightC
 simpa using h.cf
theorem state_len {q:QR} (h:WQ q):(stateQ q).items.length≤200:=by
 show(sortN (q.its.map Prod.snd)).length≤200
 rw[(sortN_perm _).length_eq,List.length_map]
 exact h.ln
theorem state_ok {N:Nat} {q:QR} (h:XQ N q) (hN:N≤4611686018427387904):stateOk q.lanes q.pay q.del (stateQ q)=true:=by
 unfold stateOk countOk
 rw[state_rest h,Bool.and_true,decide_eq_true_eq]
 obtain⟨a1,a2,a3⟩:=h.wi.lo
 refine⟨?_,?_,?_,state_len h.wi.wq⟩
 · show q.leases.toNat≤_;omega
 · show q.turns.toNat≤_;omega
 · show q.dd.last.toNat≤_;omega
theorem same_of {q r:QR} (hq:WQ q) (hr:WQ r) (wq:WD q.dd) (wr:WD r.dd) (e:stateQ q=stateQ r) (la:q.lanes=r.lanes) (pa:q.pay=r.pay) (de:q.del=r.del):SameQ q r:=by
 have h1:q.now=r.now:=congrArg SR.now e
 have h2:q.next=r.next:=congrArg SR.next e
 have h3:q.leases=r.leases:=congrArg SR.leases e
 have h4:q.turns=r.turns:=congrArg SR.turns e
 have h5:q.dd.last=r.dd.last:=congrArg SR.deaths e
 have h6:sortN (q.its.map Prod.snd)=sortN (r.its.map Prod.snd):=congrArg SR.items e
 have h7:sortP q.dd.rows=sortP r.dd.rows:=congrArg SR.dead e
 have h8:q.dd.seen=r.dd.seen:=congrArg SR.curs e
 rw[wq.all,wr.all] at h7
 refine⟨la,pa,de,h1,h2,h3,h4,?_,?_⟩
 · funext i
   have h9:∀z,look q i=some z↔look r i=some z:=fun z=>by rw[look_sort hq,look_sort hr,h6]
   cases hx:look q i with
   |some z=>exact((h9 z).1 hx).symm
   |none=>
    cases hy:look r i with
    |none=>rfl
    |some z=>rw[(h9 z).2 hy] at hx;cases hx
 · generalize q.dd=a at h5 h7 h8
   generalize r.dd=b at h5 h7 h8
   obtain⟨a1,a2,a3⟩:=a
   obtain⟨b1,b2,b3⟩:=b
   dsimp only at h5 h7 h8
   rw[h5,h7,h8]
theorem SameQ.state {q r:QR} (hq:WQ q) (hr:WQ r) (h:SameQ q r):stateQ q=stateQ r:=by
 have h6:sortN (q.its.map Prod.snd)=sortN (r.its.map Prod.snd):=sortN_of (by rw[hr.ids];exact hr.nd) ((sortN_perm _).trans ((h.perm hq hr).map Prod.snd)) (sortN_pair _)
 unfold stateQ
 rw[h.no,h.ne,h.le,h.tu,h6,h.dd]
theorem MadeR.same {N M:Nat} {q r:QR} (hq:XQ N q) (h:MadeR M q.lanes q.pay q.del (stateQ q) r):SameQ q r:=same_of hq.wi.wq h.xq.wi.wq hq.wi.wd h.xq.wi.wd h.st.symm h.la.symm h.pa.symm h.de.symm
end Go.Proofs.YtcfgafododiioaaGreatDoor
set_option maxRecDepth 100000
namespace Go.Proofs.YtcfgafododiioaaGreatDoor
open Go Go.RowKit Go.Tum Go.ChangeMaps Go.Sort
open Go.ParB (upd Lof)
open Go.ParE (putS slotsR slots Closed)
theorem next_i64L {m:Nat} (h:m≤1000000):Value.int .i64 (wrap64 ((m:Int)+1))=Value.int .i64 ((m+1:Nat):Int):=by
 have:wrap64 ((m:Int)+1)=((m+1:Nat):Int):=by unfold wrap64;omega
 rw[this]
theorem next_lessL {m N:Nat} (h:m≤1000000) (hN:m<N):N - (intOf (Value.int .i64 (wrap64 ((m:Int)+1)))).toNat<N - (intOf (Value.int .i64 (m:Int))).toNat:=by
 rw[next_i64L h]
 simp only[intOf,Int.toNat_natCast]
 omega
abbrev ccC (la pa de:Int):Array Value:= #[.int .i64 la,.int .i64 pa,.int .i64 de]
abbrev ccV (la pa de:Int):Value:= .agg (ccC la pa de)
abbrev ccO (la pa de:Int):Obj:= .cells (ccC la pa de) 23 (0,0)
abbrev srO (s:SR) (vi vd vc:Value):Obj:= .cells (srC s vi vd vc) 63 (0,0)
set_option maxHeartbeats 1000000 in
theorem right_any11 (la pa de:Int) (w:World):Calls Tryz.prog 17 #[ccV la pa de] w fun e w'=>e= .returned (.bool (rightC la pa de))∧Ext w w':=by
 obtain⟨W1,hW1⟩:∃W,w.alloc (ccO la pa de)=W:=⟨_,rfl⟩
 have HE:Hid (Ext w W1):=hid (by rw[←hW1];exact Ext.alloc _ _)
 have HB:W1.heap[w.heap.size]? =some (ccO la pa de):=by rw[←hW1];exact heap_alloc_new _ _
 obtain⟨a0,a1,a2,-⟩:=lk3 HB
 clear HB
 go_enter Tryz.func17,Tryz.ntmps17
 go_wp2
 all_goals (go_returns;refine⟨?_,HE.out⟩;simp_all[rightC])
 all_goals omega
def lifeB (de:Int) (nw ls ts:Nat) (st ct:Int) (du tk tu:Nat):Bool:=
 if st=1 then decide (0≤ct∧ct<de∧tk=0∧du=0∧1≤tu∧tu≤ts)
 else if st=2 then decide (0≤ct∧ct<de∧tk=0∧nw<du∧tu=0)
 else if st=3 then decide (1≤ct∧ct≤de∧1≤tk∧tk≤ls∧nw<du∧tu=0)
 else if st=4 then decide (ct=de∧tk=0∧du=0∧tu=0)
 else false
theorem lifeB_eq (de:Int) (s:SR) (z:It):lifeB de s.now.toNat s.leases.toNat s.turns.toNat z.st z.ct z.due.toNat z.tok.toNat z.turn.toNat=lifeOk de s z:=by
 unfold lifeOk lifeB
 repeat' split
 all_goals (rw[Bool.eq_iff_iff];simp only[decide_eq_true_eq,Bool.false_eq_true];unfold LifeP;constructor<;>intro hh<;>first|exact hh.elim|omega)
set_option maxHeartbeats 4000000 in
theorem lifeRight_any (la pa de:Int) (s:SR) (a1 a2 a3:Option Addr) (n1 n2 n3 c1 c2 c3:Nat) (z:It) (w:World):
 Calls Tryz.prog 164 #[ccV la pa de,srV s (.slice a1 n1 c1) (.slice a2 n2 c2) (.slice a3 n3 c3),itV z] w fun e w'=>e= .returned (.bool (lifeOk de s z))∧Ext w w':=by
 rw[←lifeB_eq]
 obtain⟨nw,nx,ls,ts,ds,L,D,C⟩:=s
 obtain⟨id,la2,st,ct,du,tk,tu,sg,ps,sz⟩:=z
 dsimp only
 obtain⟨B,hBd⟩:∃B,lifeB de nw.toNat ls.toNat ts.toNat st ct du.toNat tk.toNat tu.toNat=B:=⟨_,rfl⟩
 rw[hBd]
 have HBD:=hid hBd
 clear hBd
 obtain⟨W1,hW1⟩:∃W,w.alloc (ccO la pa de)=W:=⟨_,rfl⟩
 obtain⟨W2,hW2⟩:∃W,W1.alloc (.cells #[vU nw,vU nx,vU ls,vU ts,vU ds,.slice a1 n1 c1,.slice a2 n2 c2,.slice a3 n3 c3] 63 (0,0))=W:=⟨_,rfl⟩
 obtain⟨W3,hW3⟩:∃W,W2.alloc (itO ⟨id,la2,st,ct,du,tk,tu,sg,ps,sz⟩)=W:=⟨_,rfl⟩
 obtain⟨W4,hW4⟩:∃W,W3.alloc (.cells #[.int .i64 st,.int .i64 ct,vU du,vU tk] 77 (0,0))=W:=⟨_,rfl⟩
 have e1:Ext w W1:=by rw[←hW1];exact Ext.alloc _ _
 have e2:Ext W1 W2:=by rw[←hW2];exact Ext.alloc _ _
 have e3:Ext W2 W3:=by rw[←hW3];exact Ext.alloc _ _
 have e4:Ext W3 W4:=by rw[←hW4];exact Ext.alloc _ _
 have b1:W1.heap[w.heap.size]? =some (ccO la pa de):=by rw[←hW1];exact heap_alloc_new _ _
 have b2:W2.heap[W1.heap.size]? =some (.cells #[vU nw,vU nx,vU ls,vU ts,vU ds,.slice a1 n1 c1,.slice a2 n2 c2,.slice a3 n3 c3] 63 (0,0)):=by rw[←hW2];exact heap_alloc_new _ _
 have b3:W3.heap[W2.heap.size]? =some (itO ⟨id,la2,st,ct,du,tk,tu,sg,ps,sz⟩):=by rw[←hW3];exact heap_alloc_new _ _
 have b4:W4.heap[W3.heap.size]? =some (.cells #[.int .i64 st,.int .i64 ct,vU du,vU tk] 77 (0,0)):=by rw[←hW4];exact heap_alloc_new _ _
 have HE:Hid (Ext w W4):=hid (((e1.trans e2).trans e3).trans e4)
 obtain⟨-,-,x2,-⟩:=lk3 (((e2.trans e3).trans e4).obj b1)
 obtain⟨y0,-,y2,y3,-⟩:=blk8 ((e3.trans e4).obj b2)
 obtain⟨-,-,i2,i3,i4,i5,-⟩:=blk10 b3
 obtain⟨-,-,-,-,-,-,j6,-⟩:=blk10 (e4.obj b3)
 obtain⟨l0',l1',l2',l3'⟩:=blk4 b4
 clear b1 b2 b3 b4 e1 e2 e3 e4
 go_enter Tryz.func164,Tryz.ntmps164
 go_wp2
 all_goals (go_returns;refine⟨?_,HE.out⟩;rw[←HBD.out];clear HBD HE;refine congrArg (fun b=>Ending.returned (Value.bool b)) ?_)
 all_goals clear hW1 hW2 hW3 hW4
 all_goals (unfold lifeB;simp_all)
 all_goals first|omega|(rw[Bool.eq_iff_iff];simp;done)|(rw[Bool.eq_iff_iff];simp;omega)
set_option maxHeartbeats 2000000 in
theorem idsRight_any {w:World} {s:SR} {ao a2 a3:Option Addr} {cap n2 n3 c2 c3:Nat} (h:Sl w 10 (.slice ao s.items.length cap) s.items.length (s.items.flatMap itE)) (hlen:s.items.length≤100000):
 Calls Tryz.prog 120 #[srV s (.slice ao s.items.length cap) (.slice a2 n2 c2) (.slice a3 n3 c3)] w fun e w'=>e= .returned (.bool (idsL s.next 0 s.items))∧Ext w w':=by
 obtain⟨nw,nx,ls,ts,ds,l,D,C⟩:=s
 dsimp only at h hlen⊢
 have HLEN:=hid hlen
 obtain⟨W1,hW1⟩:∃W,w.alloc (.cells #[vU nw,vU nx,vU ls,vU ts,vU ds,.slice ao l.length cap,.slice a2 n2 c2,.slice a3 n3 c3] 63 (0,0))=W:=⟨_,rfl⟩
 have e1:Ext w W1:=by rw[←hW1];exact Ext.alloc _ _
 have b1:W1.heap[w.heap.size]? =some (.cells #[vU nw,vU nx,vU ls,vU ts,vU ds,.slice ao l.length cap,.slice a2 n2 c2,.slice a3 n3 c3] 63 (0,0)):=by rw[←hW1];exact heap_alloc_new _ _
 obtain⟨-,y1,-,-,-,y5,-⟩:=blk8 b1
 obtain⟨R,hR⟩:∃R,idsL nx 0 l=R:=⟨_,rfl⟩
 rw[hR]
 have HR:=hid hR
 have HS:=hid (h.ext e1)
 have HE:=hid e1
 have Y1:=hid y1
 have hz:ao=none→cap=0∧l.length=0:=fun e=>by
  obtain⟨h1,-,h3,-⟩:=Sl.cells h
  have:=h3 e
  omega
 clear h e1 b1 y1 hR hlen
 go_enter Tryz.func120,Tryz.ntmps120
 go_wp2
 clear hW1 y5
 obtain⟨g,hg⟩:∃g,w.heap.size=g:=⟨_,rfl⟩
 rw[hg] at Y1
 try rw[hg]
 clear hg
 go_loopw [3,9] (fun av iv wr=>∃(k:Nat) (ah:UInt64),k≤l.length∧iv= .int .i64 (k:Int)∧av=vU ah∧Hid (idsL nx ah.toNat (l.drop k)=R)∧Hid (Ext W1 wr)) (fun _ iv _=>l.length - (intOf iv).toNat)
 case atStart=>exact⟨0,0,Nat.zero_le _,rfl,rfl,HR,hid (Ext.refl _)⟩
 case round=>
  obtain⟨k,ah,hk,rfl,rfl,HT,HX⟩:=hrel
  by_cases hkm:k<l.length
  · have hki:decide ((k:Int)<(l.length:Int))=true:=by simp;omega
    obtain⟨a,rfl⟩:∃a,ao=some a:=by
     cases ao with
     |none=>have:=hz rfl;omega
     |some a=>exact⟨a,rfl⟩
    obtain⟨r0,r1,r2,r3,r4,r5,r6,r7,r8,r9⟩:=row10 (HS.out.ext HX.out) hkm
    have hdrop:=List.drop_eq_getElem_cons hkm
    obtain⟨z,hz2⟩:∃z,l[k]=z:=⟨_,rfl⟩
    rw[hz2] at r0 r1 r2 r3 r4 r5 r6 r7 r8 r9 hdrop
    have ht:=HT.out
    rw[hdrop,idsL] at ht
    obtain⟨id,la,st,ct,du,tk,tu,sg,ps,sz⟩:=z
    dsimp only at r0 r1 r2 r3 r4 r5 r6 r7 r8 r9 ht
    obtain⟨w3,hw3⟩:∃W,wr.alloc (itO ⟨id,la,st,ct,du,tk,tu,sg,ps,sz⟩)=W:=⟨_,rfl⟩
    have e3:Ext wr w3:=by rw[←hw3];exact Ext.alloc _ _
    have hb3:w3.heap[wr.heap.size]? =some (itO ⟨id,la,st,ct,du,tk,tu,sg,ps,sz⟩):=by rw[←hw3];exact heap_alloc_new _ _
    obtain⟨d0,-⟩:=blk10 hb3
    have y1:=(HX.out.trans e3).cell Y1.out
    have HX3:=hid (HX.out.trans e3)
    have HKM:=hid hkm
    have HTT:=hid ht
    obtain⟨q1,hq1⟩:∃b,decide (id.toNat≤ah.toNat)=b:=⟨_,rfl⟩
    obtain⟨q2,hq2⟩:∃b,((nx.toNat:Int) !=0)=b:=⟨_,rfl⟩
    obtain⟨q3,hq3⟩:∃b,decide (nx.toNat≤id.toNat)=b:=⟨_,rfl⟩
    have HQ1:=hid hq1
    have HQ2:=hid hq2
    have HQ3:=hid hq3
    clear hdrop hz2 e3 hb3 hkm hk ht HT
    have hs1:Hid (q1=true→R=false):=hid fun hh=>by
     have h1:=HQ1.out
     have:=HTT.out
     rw[if_pos] at this
     · exact this.symm
     · subst hh
       exact .inl (by simpa using h1)
    have hs2:Hid (q2=true→q3=true→R=false):=hid fun hh hh3=>by
     have h2:=HQ2.out
     have h3:=HQ3.out
     have:=HTT.out
     rw[if_pos] at this
     · exact this.symm
     · subst hh hh3
       exact .inr ⟨by simp at h2;omega,by simpa using h3⟩
    have hgo:Hid (q1=false→(q2=false∨q3=false)→idsL nx id.toNat (l.drop (k+1))=R):=hid fun hh hh2=>by
     have h1:=HQ1.out
     have h2:=HQ2.out
     have h3:=HQ3.out
     have:=HTT.out
     rw[if_neg] at this
     · exact this
     · subst hh
       simp only[decide_eq_false_iff_not] at h1
       rintro(k1|⟨k1,k2⟩)
       · exact h1 k1
       · rcases hh2 with rfl|rfl
         · simp at h2;omega
         · simp only[decide_eq_false_iff_not] at h3;exact h3 k2
    clear HQ1 HQ2 HQ3 HTT
    cases q1
    case true=>
     go_wp2
     go_returns
     exact⟨by rw[hs1.out (by simp)];rfl,HE.out.trans HX3.out⟩
    case false=>
     cases q2
     case false=>
      go_wp2
      go_roundw
      case rel=>exact⟨k+1,id,HKM.out,next_i64L (by have:=HKM.out;have:=HLEN.out;omega),rfl,hid (hgo.out (by simp) (by simp)),HX3⟩
      case measure=>exact next_lessL (by have:=HKM.out;have:=HLEN.out;omega) HKM.out
     case true=>
      cases q3
      case true=>
       go_wp2
       go_returns
       exact⟨by rw[hs2.out (by simp) (by simp)];rfl,HE.out.trans HX3.out⟩
      case false=>
       go_wp2
       go_roundw
       case rel=>exact⟨k+1,id,HKM.out,next_i64L (by have:=HKM.out;have:=HLEN.out;omega),rfl,hid (hgo.out (by simp) (by simp)),HX3⟩
       case measure=>exact next_lessL (by have:=HKM.out;have:=HLEN.out;omega) HKM.out
  · obtain rfl:k=l.length:=by omega
    have hki:decide ((l.length:Int)<(l.length:Int))=false:=by simp
    have ht:=HT.out
    rw[List.drop_length] at ht
    have HT2:=hid ht
    clear ht HT hk hkm
    go_wp2
    go_returns
    exact⟨by rw[←HT2.out];rfl,HE.out.trans HX.out⟩
end Go.Proofs.YtcfgafododiioaaGreatDoor
