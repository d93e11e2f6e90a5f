/- Texts of a claim, side by side. -/
import Derived.Test.YtcfgafododiioaaGreatDoorC12
import Derived.Test.YtcfgafododiioaaGreatDoorC13
set_option linter.unusedSimpArgs false
set_option linter.unusedVariables false
namespace Go.Proofs.YtcfgafododiioaaGreatDoor
open Go Go.RowKit Go.Tum Go.ChangeMaps
structure Cons (G:UInt64→Option It) (q:QR):Prop where
 row:∀n,n<8→∀i,i∈q.rows n↔∃z,G i=some z∧z.st=1∧z.lane.toNat=n
 srt:∀n,n<8→(q.rows n).Pairwise fun a b=>∀y z,G a=some y→G b=some z→y.turn<z.turn
 wat:∀i,q.wat i=(G i).bind fun z=>if z.st=2∨z.st=3 then some (z.due.toNat:Int) else none
 hld:∀t i,q.hld.lookup t=some i↔∃z,G i=some z∧z.st=3∧z.tok=t
 ded:∀i,(q.dd.rows.lookup i).isSome=true↔∃z,G i=some z∧z.st=4
def delG (G:UInt64→Option It) (i:UInt64):UInt64→Option It:=fun j=>if j=i then none else G j
def setG (G:UInt64→Option It) (i:UInt64) (z:It):UInt64→Option It:=fun j=>if j=i then some z else G j
theorem delG_ex {G:UInt64→Option It} {i j:UInt64} {P:It→Prop}:(∃z,delG G i j=some z∧P z)↔j≠i∧∃z,G j=some z∧P z:=by
 unfold delG
 by_cases h:j=i<;>simp[h]
theorem setG_ex {G:UInt64→Option It} {i j:UInt64} {x:It} {P:It→Prop}:(∃z,setG G i x j=some z∧P z)↔(j=i∧P x)∨(j≠i∧∃z,G j=some z∧P z):=by
 unfold setG
 by_cases h:j=i<;>simp[h]
theorem Cons.leave {G:UInt64→Option It} {q:QR} (h:Cons G q) {z:It} (hz:G z.id=some z) (hl:z.lane.toNat<8) (hs:z.st=1∨z.st=2∨z.st=3∨z.st=4):Cons (delG G z.id) (leaveQ q z):=by
 have hrow:∀n,n<8→¬(z.st=1∧z.lane.toNat=n)→∀i,i∈q.rows n↔∃y,delG G z.id i=some y∧y.st=1∧y.lane.toNat=n:=by
  intro n hn hne i
  rw[delG_ex,h.row n hn]
  refine⟨fun⟨y,a,b⟩=>⟨fun e=> ?_,y,a,b⟩,fun⟨_,k⟩=>k⟩
  rw[e,hz] at a;cases a
  exact hne b
 have hsrt:∀(l:List UInt64),(l.Pairwise fun a b=>∀y z,G a=some y→G b=some z→y.turn<z.turn)→l.Pairwise fun a b=>∀y z_1,delG G z.id a=some y→delG G z.id b=some z_1→y.turn<z_1.turn:=by
  intro l hl
  refine hl.imp fun{a b} hab y y2 h1 h2=> ?_
  unfold delG at h1 h2
  split at h1
  · cases h1
  · split at h2
    · cases h2
    · exact hab y y2 h1 h2
 have hwat:∀i,i≠z.id→q.wat i=(delG G z.id i).bind fun y=>if y.st=2∨y.st=3 then some (y.due.toNat:Int) else none:=by
  intro i hi
  rw[h.wat i];unfold delG;rw[if_neg hi]
 have hwz:(delG G z.id z.id).bind (fun y=>if y.st=2∨y.st=3 then some (y.due.toNat:Int) else none)=none:=by unfold delG;rw[if_pos rfl];rfl
 have hhld:z.st≠3→∀t i,q.hld.lookup t=some i↔∃y,delG G z.id i=some y∧y.st=3∧y.tok=t:=by
  intro h3 t i
  rw[delG_ex,h.hld]
  refine⟨fun⟨y,a,b⟩=>⟨fun e=> ?_,y,a,b⟩,fun⟨_,k⟩=>k⟩
  rw[e,hz] at a;cases a
  exact h3 b.1
 have hded:z.st≠4→∀i,(q.dd.rows.lookup i).isSome=true↔∃y,delG G z.id i=some y∧y.st=4:=by
  intro h4 i
  rw[delG_ex,h.ded]
  refine⟨fun⟨y,a,b⟩=>⟨fun e=> ?_,y,a,b⟩,fun⟨_,k⟩=>k⟩
  rw[e,hz] at a;cases a
  exact h4 b
 have hw0:z.st≠2→z.st≠3→∀i,q.wat i=(delG G z.id i).bind fun y=>if y.st=2∨y.st=3 then some (y.due.toNat:Int) else none:=by
  intro h2 h3 i
  by_cases e:i=z.id
  · rw[e,hwz,h.wat,hz]
    simp[h2,h3]
  · exact hwat i e
 have hwd:∀i,delF q.wat z.id i=(delG G z.id i).bind fun y=>if y.st=2∨y.st=3 then some (y.due.toNat:Int) else none:=by
  intro i
  unfold delF
  by_cases e:i=z.id
  · rw[if_pos e,e,hwz]
  · rw[if_neg e];exact hwat i e
 unfold leaveQ
 rcases hs with e|e|e|e
 · rw[if_pos e]
   refine⟨fun n hn i=> ?_,fun n hn=> ?_,hw0 (by omega) (by omega),hhld (by omega),hded (by omega)⟩
   · simp only[updN]
     split
     · rename_i hq
       subst hq
       rw[List.mem_filter,h.row _ hn,delG_ex]
       simp only[bne_iff_ne,ne_eq]
       exact⟨fun⟨a,b⟩=>⟨b,a⟩,fun⟨a,b⟩=>⟨b,a⟩⟩
     · rename_i hq
       exact hrow n hn (fun k=>hq k.2.symm) i
   · simp only[updN]
     split
     · rename_i hq
       subst hq
       exact hsrt _ ((h.srt _ hn).filter _)
     · exact hsrt _ (h.srt _ hn)
 · rw[if_neg (by omega),if_pos e]
   exact⟨fun n hn i=>hrow n hn (by omega) i,fun n hn=>hsrt _ (h.srt _ hn),hwd,hhld (by omega),hded (by omega)⟩
 · rw[if_neg (by omega),if_neg (by omega),if_pos e]
   refine⟨fun n hn i=>hrow n hn (by omega) i,fun n hn=>hsrt _ (h.srt _ hn),hwd,fun t i=> ?_,hded (by omega)⟩
   rw[lookup_noK,delG_ex]
   have hzt:q.hld.lookup z.tok=some z.id:=(h.hld _ _).2 ⟨z,hz,e,rfl⟩
   by_cases ht:t=z.tok
   · rw[if_pos ht]
     simp only[reduceCtorEq,false_iff,not_and]
     intro hi ⟨y,a,b,c⟩
     have:=(h.hld t i).2 ⟨y,a,b,c⟩
     rw[ht,hzt] at this
     cases this
     exact hi rfl
   · rw[if_neg ht,h.hld]
     refine⟨fun⟨y,a,b⟩=>⟨fun e2=> ?_,y,a,b⟩,fun⟨_,k⟩=>k⟩
     rw[e2,hz] at a;cases a
     exact ht b.2.symm
 · rw[if_neg (by omega),if_neg (by omega),if_neg (by omega),if_pos e]
   refine⟨fun n hn i=>hrow n hn (by omega) i,fun n hn=>hsrt _ (h.srt _ hn),hw0 (by omega) (by omega),hhld (by omega),fun i=> ?_⟩
   unfold dropD
   dsimp only
   rw[lookup_noK,delG_ex]
   by_cases hi:i=z.id
   · simp[hi]
   · rw[if_neg hi,h.ded]
     simp[hi]
def entG (G:UInt64→Option It) (z:It):UInt64→Option It:=if z.st=5 then G else setG G z.id z
theorem Cons.enter {G:UInt64→Option It} {q:QR} (h:Cons G q) {z:It} (hz:G z.id=none) (hl:z.lane.toNat<8) (hs:z.st=1∨z.st=2∨z.st=3∨z.st=4∨z.st=5)
 (ht:z.st=1→∀i y,G i=some y→y.turn<z.turn) (hk:z.st=3→∀i y,G i=some y→y.st=3→y.tok≠z.tok):Cons (entG G z) (enterQ q z):=by
 have hno:∀{P:It→Prop},¬∃y,G z.id=some y∧P y:=by rintro P ⟨y,a,-⟩;rw[hz] at a;cases a
 have hnn:∀y,G z.id=some y→False:=fun y a=>by rw[hz] at a;cases a
 unfold entG
 by_cases h5:z.st=5
 · rw[if_pos h5]
   unfold enterQ
   rw[if_neg (by omega),if_neg (by omega),if_neg (by omega),if_neg (by omega),if_pos h5]
   exact⟨h.row,h.srt,h.wat,h.hld,h.ded⟩
 rw[if_neg h5]
 have hrow:∀n,n<8→¬(z.st=1∧z.lane.toNat=n)→∀i,i∈q.rows n↔∃y,setG G z.id z i=some y∧y.st=1∧y.lane.toNat=n:=by
  intro n hn hne i
  rw[setG_ex,h.row n hn]
  refine⟨fun⟨y,a,b⟩=> .inr ⟨fun e=>hnn y (by rw[←e];exact a),y,a,b⟩,?_⟩
  rintro(⟨-,k⟩|⟨-,k⟩)
  · exact absurd k hne
  · exact k
 have hsrt:∀n,n<8→((q.rows n).Pairwise fun a b=>∀y z_1,setG G z.id z a=some y→setG G z.id z b=some z_1→y.turn<z_1.turn):=by
  intro n hn
  have hm:∀a∈q.rows n,a≠z.id:=fun a ha e=>by
   obtain⟨y,k,-⟩:=(h.row n hn a).1 ha
   rw[e,hz] at k;cases k
  refine List.Pairwise.imp_of_mem (fun{a b} ha hb hab y y2 h1 h2=> ?_) (h.srt n hn)
  unfold setG at h1 h2
  rw[if_neg (hm a ha)] at h1
  rw[if_neg (hm b hb)] at h2
  exact hab y y2 h1 h2
 have hwz:q.wat z.id=none:=by rw[h.wat,hz];rfl
 have hwat:∀i,i≠z.id→q.wat i=(setG G z.id z i).bind fun y=>if y.st=2∨y.st=3 then some (y.due.toNat:Int) else none:=by
  intro i hi
  rw[h.wat i];unfold setG;rw[if_neg hi]
 have hhld:z.st≠3→∀t i,q.hld.lookup t=some i↔∃y,setG G z.id z i=some y∧y.st=3∧y.tok=t:=by
  intro h3 t i
  rw[setG_ex,h.hld]
  refine⟨fun⟨y,a,b⟩=> .inr ⟨fun e=>hnn y (by rw[←e];exact a),y,a,b⟩,?_⟩
  rintro(⟨-,k⟩|⟨-,k⟩)
  · exact absurd k.1 h3
  · exact k
 have hded:z.st≠4→∀i,(q.dd.rows.lookup i).isSome=true↔∃y,setG G z.id z i=some y∧y.st=4:=by
  intro h4 i
  rw[setG_ex,h.ded]
  refine⟨fun⟨y,a,b⟩=> .inr ⟨fun e=>hnn y (by rw[←e];exact a),y,a,b⟩,?_⟩
  rintro(⟨-,k⟩|⟨-,k⟩)
  · exact absurd k h4
  · exact k
 have hw0:z.st≠2→z.st≠3→∀i,q.wat i=(setG G z.id z i).bind fun y=>if y.st=2∨y.st=3 then some (y.due.toNat:Int) else none:=by
  intro h2 h3 i
  by_cases e:i=z.id
  · rw[e,hwz];unfold setG;rw[if_pos rfl]
    simp[h2,h3]
  · exact hwat i e
 have hwp:(z.st=2∨z.st=3)→∀i,putW q.wat z.id z.due i=(setG G z.id z i).bind fun y=>if y.st=2∨y.st=3 then some (y.due.toNat:Int) else none:=by
  intro h23 i
  unfold putW
  rw[hwz]
  simp only[Option.isSome_none,Bool.false_eq_true,if_false]
  unfold setF
  by_cases e:i=z.id
  · rw[if_pos e,e];unfold setG;rw[if_pos rfl]
    simp[h23]
  · rw[if_neg e];exact hwat i e
 unfold enterQ
 rcases hs with e|e|e|e|e
 · rw[if_pos e]
   have hm:∀n,n<8→z.id∉q.rows n:=fun n hn ha=>hno ((h.row n hn _).1 ha)
   refine⟨fun n hn i=> ?_,fun n hn=> ?_,hw0 (by omega) (by omega),hhld (by omega),hded (by omega)⟩
   · simp only[updN]
     split
     · rename_i hq
       subst hq
       unfold putR
       rw[if_neg (hm _ hn),List.mem_append,List.mem_singleton,h.row _ hn,setG_ex]
       constructor
       · rintro(⟨y,a,b⟩|rfl)
         · exact .inr ⟨fun e=>hnn y (by rw[←e];exact a),y,a,b⟩
         · exact .inl ⟨rfl,e,rfl⟩
       · rintro(⟨a,-⟩|⟨-,k⟩)
         · exact .inr a
         · exact .inl k
     · rename_i hq
       exact hrow n hn (fun k=>hq k.2.symm) i
   · simp only[updN]
     split
     · rename_i hq
       subst hq
       unfold putR
       rw[if_neg (hm _ hn),List.pairwise_append]
       refine⟨hsrt _ hn,List.pairwise_singleton _ _,fun a ha b hb y y2 h1 h2=> ?_⟩
       rw[List.mem_singleton] at hb
       subst hb
       unfold setG at h1 h2
       rw[if_neg (fun e:a=z.id=>hm _ hn (by rw[←e];exact ha))] at h1
       rw[if_pos rfl] at h2
       cases h2
       exact ht e a y h1
     · exact hsrt _ hn
 · rw[if_neg (by omega),if_pos e]
   exact⟨fun n hn i=>hrow n hn (by omega) i,fun n hn=>hsrt _ hn,hwp (.inl e),hhld (by omega),hded (by omega)⟩
 · rw[if_neg (by omega),if_neg (by omega),if_pos e]
   refine⟨fun n hn i=>hrow n hn (by omega) i,fun n hn=>hsrt _ hn,hwp (.inr e),fun t i=> ?_,hded (by omega)⟩
   rw[lku_cons,lookup_noK,setG_ex]
   by_cases ht2:t=z.tok
   · rw[if_pos ht2]
     subst ht2
     constructor
     · intro k;cases k;exact .inl ⟨rfl,e,rfl⟩
     · rintro(⟨a,-⟩|⟨-,y,a,b,c⟩)
       · rw[a]
       · exact absurd c (hk e i y a b)
   · rw[if_neg ht2,if_neg ht2,h.hld]
     refine⟨fun⟨y,a,b⟩=> .inr ⟨fun e=>hnn y (by rw[←e];exact a),y,a,b⟩,?_⟩
     rintro(⟨-,k⟩|⟨-,k⟩)
     · exact absurd k.2.symm ht2
     · exact k
 · rw[if_neg (by omega),if_neg (by omega),if_neg (by omega),if_pos e]
   refine⟨fun n hn i=>hrow n hn (by omega) i,fun n hn=>hsrt _ hn,hw0 (by omega) (by omega),hhld (by omega),fun i=> ?_⟩
   have hd:¬(q.dd.rows.lookup z.id).isSome=true:=fun k=>hno ((h.ded _).1 k)
   unfold addD
   rw[if_neg hd]
   dsimp only
   rw[List.lookup_append,setG_ex]
   by_cases hi:i=z.id
   · rw[hi]
     have:q.dd.rows.lookup z.id=none:=by
      cases hq:q.dd.rows.lookup z.id with
      |none=>rfl
      |some v=>rw[hq] at hd;simp at hd
     rw[this]
     simp[e]
   · have hn1:List.lookup i [(z.id,q.dd.last+1)]=none:=by rw[lku_cons,if_neg hi];rfl
     rw[hn1,Option.or_none,h.ded]
     simp[hi]
 · exact absurd e h5
def look (q:QR):UInt64→Option It:=fun i=>q.its.lookup i
theorem look_enter (q:QR) (z:It) (hs:z.st=1∨z.st=2∨z.st=3∨z.st=4∨z.st=5):look (enterQ q z)=entG (delG (look q) z.id) z:=by
 funext i
 have h1:((z.id,z)::noK q.its z.id).lookup i=setG (delG (look q) z.id) z.id z i:=by
  rw[lku_cons,lookup_noK]
  unfold setG delG look
  by_cases e:i=z.id<;>simp[e]
 unfold look entG enterQ putI
 rcases hs with e|e|e|e|e
 · rw[if_pos e,if_neg (by omega)];exact h1
 · rw[if_neg (by omega),if_pos e,if_neg (by omega)];exact h1
 · rw[if_neg (by omega),if_neg (by omega),if_pos e,if_neg (by omega)];exact h1
 · rw[if_neg (by omega),if_neg (by omega),if_neg (by omega),if_pos e,if_neg (by omega)];exact h1
 · rw[if_neg (by omega),if_neg (by omega),if_neg (by omega),if_neg (by omega),if_pos e,if_pos e]
   show(noK ((z.id,z)::noK q.its z.id) z.id).lookup i=_
   rw[lookup_noK,h1]
   unfold setG delG look
   by_cases e:i=z.id<;>simp[e]
theorem delG_same {G:UInt64→Option It} {i:UInt64} (h:G i=none):delG G i=G:=by
 funext j
 unfold delG
 by_cases e:j=i
 · rw[if_pos e,e,h]
 · rw[if_neg e]
theorem Cons.turns {G:UInt64→Option It} {q:QR} (h:Cons G q) (t:UInt64):Cons G {q with turns:=t}:=⟨h.row,h.srt,h.wat,h.hld,h.ded⟩
theorem Cons.become {q:QR} {z:It} {l:L} (h:Cons (look q) q) (hz:look q z.id=some z∧(z.st=1∨z.st=2∨z.st=3∨z.st=4)∨look q z.id=none∧z.st=0) (hl:z.lane.toNat<8)
 (hs:l.s=1∨l.s=2∨l.s=3∨l.s=4∨l.s=5) (ht:l.s=1→∀i y,look q i=some y→y.turn<q.turns+1)
 (hk:l.s=3→∀i y,i≠z.id→look q i=some y→y.st=3→y.tok≠UInt64.ofNat l.t.toNat):Cons (look (becQ q z l)) (becQ q z l):=by
 have h1:Cons (delG (look q) z.id) (leaveQ q z):=by
  rcases hz with ⟨h1,h2⟩|⟨h1,h2⟩
  · exact h.leave h1 hl h2
  · rw[delG_same h1]
    unfold leaveQ
    rw[if_neg (by omega),if_neg (by omega),if_neg (by omega),if_neg (by omega)]
    exact h
 have hg:look {leaveQ q z with turns:=if l.s=1 then(leaveQ q z).turns+1 else(leaveQ q z).turns}=look q:=by
  unfold look
  rw[leaveQ_its]
 have h2:=h1.turns (if l.s=1 then(leaveQ q z).turns+1 else(leaveQ q z).turns)
 unfold becQ
 dsimp only
 rw[look_enter _ _ hs,hg]
 have hid:(becI q z l).id=z.id:=rfl
 rw[hid]
 refine Cons.enter h2 (by rw[hid];unfold delG;rw[if_pos rfl]) hl hs (fun e i y hy=> ?_) fun e i y hy h3=> ?_
 · have e':l.s=1:=e
   unfold delG at hy
   split at hy
   · cases hy
   · have:=ht e' i y hy
     show y.turn<(if l.s=1 then q.turns+1 else 0)
     rw[if_pos e'];exact this
 · unfold delG at hy
   split at hy
   · cases hy
   · rename_i hi
     exact hk e i y hi hy h3
end Go.Proofs.YtcfgafododiioaaGreatDoor
set_option maxRecDepth 100000
namespace Go.Proofs.YtcfgafododiioaaGreatDoor
open Go Go.RowKit Go.Tum Go.ChangeMaps
abbrev lfO (l:L):Obj:= .cells #[.int .i64 l.s,.int .i64 l.c,.int .u64 l.d,.int .u64 l.t] 77 (0,0)
theorem blk4 {w:World} {b:Nat} {v0 v1 v2 v3:Value} {ty:TypeId} (h:w.heap[b]? =some (.cells #[v0,v1,v2,v3] ty (0,0))):
 w.cell? ⟨b,0,none⟩=some v0∧w.cell? ⟨b,1,none⟩=some v1∧w.cell? ⟨b,2,none⟩=some v2∧w.cell? ⟨b,3,none⟩=some v3:=by
 refine⟨?_,?_,?_,?_⟩<;>(rw[cell_of_row _ _ _ _ _ _ h];rfl)
theorem blk10 {w:World} {b:Nat} {v0 v1 v2 v3 v4 v5 v6 v7 v8 v9:Value} {ty:TypeId} (h:w.heap[b]? =some (.cells #[v0,v1,v2,v3,v4,v5,v6,v7,v8,v9] ty (0,0))):
 w.cell? ⟨b,0,none⟩=some v0∧w.cell? ⟨b,1,none⟩=some v1∧w.cell? ⟨b,2,none⟩=some v2∧w.cell? ⟨b,3,none⟩=some v3∧w.cell? ⟨b,4,none⟩=some v4∧w.cell? ⟨b,5,none⟩=some v5∧w.cell? ⟨b,6,none⟩=some v6∧w.cell? ⟨b,7,none⟩=some v7∧w.cell? ⟨b,8,none⟩=some v8∧w.cell? ⟨b,9,none⟩=some v9∧∀i,w.frozen? ⟨b,i,none⟩=false:=by
 refine⟨?_,?_,?_,?_,?_,?_,?_,?_,?_,?_,?_⟩
 all_goals first|(rw[cell_of_row _ _ _ _ _ _ h];rfl)|exact fun i=>by simp[World.frozen?,h]
theorem keepF {w w':World} {p:Nat} {x x':XP} (f:Fr (x.blk p) w w') (n:∀a∈x'.blk p,a∈x.blk p∨w.heap.size≤a) {b:Nat} {o:Obj} (hb:w.heap[b]? =some o) (hn:b∉x.blk p):w'.heap[b]? =some o∧b∉x'.blk p:=by
 refine⟨(f.block b (Array.getElem?_eq_some_iff.1 hb).1 hn).trans hb,fun hm=> ?_⟩
 have hl:=(Array.getElem?_eq_some_iff.1 hb).1
 rcases n b hm with h1|h1
 · exact hn h1
 · omega
theorem fr_cat {S T:List Nat} {a b c:World} (f:Fr S a b) (g:Fr T b c):Fr (S++T) a c:=(f.mono (by intro x hx;simp[hx])).trans (g.mono (by intro x hx;simp[hx]))
theorem bec_results (tmps:Array Value) (w:World) (b:Nat) (z:It) (h6:tmps.getD 6 undef= .pointer (some ⟨b,0,none⟩)) (m:w.heap[b]? =some (itO z)):
 (results Tryz.f76 tmps).run Tryz.prog w= .ok (itV z) w:=by
 have h6':tmps[6]?.getD undef= .pointer (some ⟨b,0,none⟩):=by simpa using h6
 obtain⟨m0,m1,m2,m3,m4,m5,m6,m7,m8,m9,-⟩:=blk10 m
 simp[results,Tryz.results76,go_sem,h6',m0,m1,m2,m3,m4,m5,m6,m7,m8,m9]
def setI (w:World) (b:Nat) (z:It):World:=(((((((((w.setCell ⟨b,0,none⟩ (vU z.id)).setCell ⟨b,1,none⟩ (.int .i64 z.lane)).setCell ⟨b,2,none⟩ (.int .i64 z.st)).setCell ⟨b,3,none⟩ (.int .i64 z.ct)).setCell ⟨b,4,none⟩ (vU z.due)).setCell ⟨b,5,none⟩ (vU z.tok)).setCell ⟨b,6,none⟩ (vU z.turn)).setCell ⟨b,7,none⟩ (vU z.seg)).setCell ⟨b,8,none⟩ (vU z.pos)).setCell ⟨b,9,none⟩ (.int .i64 z.size)
theorem setI_blk {w:World} {b:Nat} {y:It} (h:w.heap[b]? =some (itO y)) (z:It):(setI w b z).heap[b]? =some (itO z):=by
 have h1:=Go.Joins.block_setCell (i:=9) (Go.Joins.block_setCell (i:=8) (Go.Joins.block_setCell (i:=7) (Go.Joins.block_setCell (i:=6) (Go.Joins.block_setCell (i:=5) (Go.Joins.block_setCell (i:=4) (Go.Joins.block_setCell (i:=3) (Go.Joins.block_setCell (i:=2) (Go.Joins.block_setCell (i:=1) (Go.Joins.block_setCell (i:=0) h (vU z.id)) (.int .i64 z.lane)) (.int .i64 z.st)) (.int .i64 z.ct)) (vU z.due)) (vU z.tok)) (vU z.turn)) (vU z.seg)) (vU z.pos)) (.int .i64 z.size)
 unfold setI
 simpa using h1
theorem setI_fr (w:World) (b:Nat) (z:It):Fr [b] w (setI w b z):=by
 have f:∀(w:World) (i:Nat) (u:Value),Fr [b] w (w.setCell ⟨b,i,none⟩ u):=fun w i u=>fr_setCell _ _ _ (by simp)
 unfold setI
 exact(((((((((f _ _ _).trans (f _ _ _)).trans (f _ _ _)).trans (f _ _ _)).trans (f _ _ _)).trans (f _ _ _)).trans (f _ _ _)).trans (f _ _ _)).trans (f _ _ _)).trans (f _ _ _)
set_option maxHeartbeats 1000000 in
theorem become_any {B:Nat} {w:World} {p:Nat} {x:XP} {q:QR} (z:It) (l:L) (h:IX B w p x q) (hB:B≤w.heap.size) (hl:0≤z.lane∧z.lane<8) (hw:WatL q)
 (he:EntL {leaveQ q z with turns:=if l.s=1 then(leaveQ q z).turns+1 else(leaveQ q z).turns}) (hd:U64 l.d) (ht:U64 l.t):
 Calls Tryz.prog 76 #[pv p,itV z,lv l] w fun e w'=>e= .returned (itV (becI q z l))∧XStp B w p x (becQ q z l) w':=by
 obtain⟨s,c,d,t⟩:=l
 obtain⟨du,hdu⟩:∃u:UInt64,d=(u.toNat:Int):=⟨UInt64.ofNat d.toNat,by have:=hd.1;have:=hd.2;dsimp only at*;rw[UInt64.toNat_ofNat'];omega⟩
 obtain⟨tk,htk⟩:∃u:UInt64,t=(u.toNat:Int):=⟨UInt64.ofNat t.toNat,by have:=ht.1;have:=ht.2;dsimp only at*;rw[UInt64.toNat_ofNat'];omega⟩
 subst hdu htk
 have hbi:becI q z ⟨s,c,du.toNat,tk.toNat⟩=⟨z.id,z.lane,s,c,du,tk,if s=1 then q.turns+1 else 0,z.seg,z.pos,z.size⟩:=by
  unfold becI It.at
  simp
 have hbq:becQ q z ⟨s,c,du.toNat,tk.toNat⟩=enterQ {leaveQ q z with turns:=if s=1 then(leaveQ q z).turns+1 else(leaveQ q z).turns} ⟨z.id,z.lane,s,c,du,tk,if s=1 then q.turns+1 else 0,z.seg,z.pos,z.size⟩:=by
  unfold becQ
  rw[hbi]
 rw[hbi,hbq]
 have he:EntL {leaveQ q z with turns:=if s=1 then(leaveQ q z).turns+1 else(leaveQ q z).turns}:=he
 obtain⟨TN,hTN⟩:∃t,(if s=1 then q.turns+1 else(0:UInt64))=t:=⟨_,rfl⟩
 obtain⟨Q1,hQ1⟩:∃t,({leaveQ q z with turns:=if s=1 then(leaveQ q z).turns+1 else(leaveQ q z).turns}:QR)=t:=⟨_,rfl⟩
 rw[hTN,hQ1]
 rw[hQ1] at he
 have HTN:=hid hTN
 have HQ1:=hid hQ1
 clear hTN hQ1
 have HE:=hid he
 have HL:=hid hl
 have HWL:=hid hw
 have HLT:Hid ((leaveQ q z).turns=q.turns):=hid (leaveQ_turns q z)
 clear hbi hbq he hd ht
 obtain⟨w1,hw1⟩:∃W,w.alloc (itO z)=W:=⟨_,rfl⟩
 obtain⟨w2,hw2⟩:∃W,w1.alloc (lfO ⟨s,c,du.toNat,tk.toNat⟩)=W:=⟨_,rfl⟩
 obtain⟨w3,hw3⟩:∃W,w2.alloc (itO it0)=W:=⟨_,rfl⟩
 have e1:Ext w w1:=by rw[←hw1];exact Ext.alloc _ _
 have e2:Ext w1 w2:=by rw[←hw2];exact Ext.alloc _ _
 have e3:Ext w2 w3:=by rw[←hw3];exact Ext.alloc _ _
 have hb1:=(e2.trans e3).obj (show w1.heap[w.heap.size]? =some (itO z) by rw[←hw1];exact heap_alloc_new _ _)
 have hb2:=e3.obj (show w2.heap[w1.heap.size]? =some (lfO ⟨s,c,du.toNat,tk.toNat⟩) by rw[←hw2];exact heap_alloc_new _ _)
 have hb3:w3.heap[w2.heap.size]? =some (itO it0):=by rw[←hw3];exact heap_alloc_new _ _
 have hs1:w1.heap.size=w.heap.size+1:=by rw[←hw1];exact World.size_alloc _ _
 have hs2:w2.heap.size=w.heap.size+2:=by rw[←hw2,World.size_alloc,hs1]
 rw[hs1] at hb2
 rw[hs2] at hb3
 have h3:=h.ext (e1.trans (e2.trans e3))
 have hnin:∀a,w.heap.size≤a→a∉x.blk p:=fun a ha hm=>by have:=(h.blk_lo a hm).2;omega
 have HE3:=hid (e1.trans (e2.trans e3))
 have H3:=hid h3
 have HB3:=hid (Nat.le_trans hB (e1.trans (e2.trans e3)).size)
 have HX1:=hid hb1
 have HX2:=hid hb2
 have HX3:=hid hb3
 have HN1:=hid (hnin w.heap.size (Nat.le_refl _))
 have HN2:=hid (hnin (w.heap.size+1) (by omega))
 have HN3:=hid (hnin (w.heap.size+2) (by omega))
 have HB0:=hid hB
 have HS1:=hid hs1
 have HS2:=hid hs2
 have hb1w:=e2.obj (show w1.heap[w.heap.size]? =some (itO z) by rw[←hw1];exact heap_alloc_new _ _)
 clear hnin h3 h e1 e2 e3 hs1 hs2 hB hl hw
 obtain⟨N0,hN0⟩:∃N,w.heap.size=N:=⟨_,rfl⟩
 have HN0:=hid hN0
 rw[hN0] at hb1 hb2 hb3 HX1 HX2 HX3 HN1 HN2 HN3 HS1 HS2 hb1w
 obtain⟨id,lane,st,ct,due,tok,turn,sg,ps,size⟩:=z
 obtain⟨a0,a1,a2,a3,a4,a5,a6,a7,a8,a9,af⟩:=blk10 hb1w
 have c0:=fun o=>(Ext.alloc w2 o).cell a0
 have c1:=fun o=>(Ext.alloc w2 o).cell a1
 have c2:=fun o=>(Ext.alloc w2 o).cell a2
 have c3:=fun o=>(Ext.alloc w2 o).cell a3
 have c4:=fun o=>(Ext.alloc w2 o).cell a4
 have c5:=fun o=>(Ext.alloc w2 o).cell a5
 have c6:=fun o=>(Ext.alloc w2 o).cell a6
 have c7:=fun o=>(Ext.alloc w2 o).cell a7
 have c8:=fun o=>(Ext.alloc w2 o).cell a8
 have c9:=fun o=>(Ext.alloc w2 o).cell a9
 clear hb1 hb2 hb3 hb1w a0 a1 a2 a3 a4 a5 a6 a7 a8 a9 af
 go_enter Tryz.func76,Tryz.ntmps76
 go_wp2_with fail
 have hw3':w2.alloc (.cells #[.int .u64 0,.int .i64 0,.int .i64 0,.int .i64 0,.int .u64 0,.int .u64 0,.int .u64 0,.int .u64 0,.int .u64 0,.int .i64 0] 79 (0,0))=w3:=hw3
 rw[hw3',HS1.out,HS2.out]
 clear hw3' c0 c1 c2 c3 c4 c5 c6 c7 c8 c9 hw1 hw2 hw3
 refine Calls.mono (leave_any ⟨id,lane,st,ct,due,tok,turn,sg,ps,size⟩ H3.out HB3.out HL.out (H3.out.rowlen HWL.out)) ?_
 rintro e w4 ⟨⟨u,rfl⟩,hs⟩
 obtain⟨x4,i4,f4,q4⟩:=hs
 obtain⟨hx1,hn1⟩:=keepF f4 q4 HX1.out HN1.out
 obtain⟨hx2,hn2⟩:=keepF f4 q4 HX2.out HN2.out
 obtain⟨hx3,hn3⟩:=keepF f4 q4 HX3.out HN3.out
 have hfr:∀(w:World) (i:Nat) (u:Value),Fr [N0] w (w.setCell ⟨N0,i,none⟩ u):=fun w i u=>fr_setCell _ _ _ (by simp)
 obtain⟨W5,hW5⟩:∃W,((((w4.setCell ⟨N0,2,none⟩ (.int .i64 s)).setCell ⟨N0,3,none⟩ (.int .i64 c)).setCell ⟨N0,4,none⟩ (vU du)).setCell ⟨N0,5,none⟩ (vU tk)).setCell ⟨N0,6,none⟩ (.int .u64 0)=W:=⟨_,rfl⟩
 have f5:Fr [N0] w4 W5:=by
  rw[←hW5]
  exact((((hfr _ _ _).trans (hfr _ _ _)).trans (hfr _ _ _)).trans (hfr _ _ _)).trans (hfr _ _ _)
 have hy1:W5.heap[N0]? =some (itO ⟨id,lane,s,c,du,tk,0,sg,ps,size⟩):=by
  have h9:=Go.Joins.block_setCell (i:=6) (Go.Joins.block_setCell (i:=5) (Go.Joins.block_setCell (i:=4) (Go.Joins.block_setCell (i:=3) (Go.Joins.block_setCell (i:=2) hx1 (.int .i64 s)) (.int .i64 c)) (vU du)) (vU tk)) (.int .u64 0)
  rw[hW5] at h9
  have e:itO ⟨id,lane,s,c,du,tk,0,sg,ps,size⟩= .cells #[vU id,.int .i64 lane,.int .i64 s,.int .i64 c,vU du,vU tk,.int .u64 0,vU sg,vU ps,.int .i64 size] 79 (0,0):=rfl
  rw[e]
  simpa using h9
 have hy2:=(f5.block (N0+1) (Array.getElem?_eq_some_iff.1 hx2).1 (by simp)).trans hx2
 have hy3:=(f5.block (N0+2) (Array.getElem?_eq_some_iff.1 hx3).1 (by simp)).trans hx3
 have i5:=i4.fr f5 fun i hi a ha hm=>hn1 (by rw[List.mem_singleton] at hm;rw[←hm];exact XP.mem_blk.2 ⟨i,hi,ha⟩)
 obtain⟨a0,a1,a2,a3,a4,a5,a6,a7,a8,a9,af⟩:=blk10 hx1
 have af2:=af 2
 have af3:=af 3
 have af4:=af 4
 have af5:=af 5
 have af6:=af 6
 obtain⟨l0,l1,l2,l3⟩:=blk4 hx2
 obtain⟨m0,-⟩:=blk4 hy2
 obtain⟨n0,n1,n2,n3,n4,n5,n6,n7,n8,n9,nf⟩:=blk10 hy1
 have nf6:=nf 6
 have t6:W5.cell? ⟨p,6,none⟩=some (vU q.turns):=by rw[←HLT.out];exact i5.cells 6 _ rfl
 have tf:=i5.froz 6
 have hpn:p≠N0:=fun e=>hn1 (XP.mem_blk.2 ⟨0,by decide,by simp[XP.comp,e]⟩)
 have hpn':N0≠p:=Ne.symm hpn
 have HF4:=hid f4
 have HQ4:=hid q4
 have HB5:Hid (B≤W5.heap.size):=hid (Nat.le_trans HB3.out (Nat.le_trans f4.size f5.size))
 have HF5:=hid f5
 have HY1:=hid hy1
 have HY2:=hid hy2
 have HY3:=hid hy3
 have H5:=hid i5
 have HM1:=hid hn1
 have HM2:=hid hn2
 have HM3:=hid hn3
 clear i4 f4 q4 hx1 hx2 hx3 hfr f5 hy1 hy2 hy3 i5 hn1 hn2 hn3 af nf
 by_cases hs1:s=1
 · subst hs1
   have hTN:=HTN.out
   have hQ1:=HQ1.out
   rw[if_pos rfl] at hTN hQ1
   subst hQ1
   have HTT:Hid (q.turns+1=TN):=hid hTN
   clear HTN HQ1 hTN
   have h6:=H5.out.own {leaveQ q ⟨id,lane,st,ct,due,tok,turn,sg,ps,size⟩ with turns:=(leaveQ q ⟨id,lane,st,ct,due,tok,turn,sg,ps,size⟩).turns+1} 6 (vU TN) (by rw[HLT.out,HTT.out];rfl) rfl rfl rfl rfl rfl
   have hfN:Fr [N0] (W5.setCell ⟨p,6,none⟩ (vU TN)) ((W5.setCell ⟨p,6,none⟩ (vU TN)).setCell ⟨N0,6,none⟩ (vU TN)):=fr_setCell _ _ _ (by simp)
   have hfp:Fr [p] W5 (W5.setCell ⟨p,6,none⟩ (vU TN)):=fr_setCell _ _ _ (by simp)
   have H6:=hid (h6.fr hfN fun i hi a ha hm=>HM1.out (by rw[List.mem_singleton] at hm;rw[←hm];exact XP.mem_blk.2 ⟨i,hi,ha⟩))
   have HB6:=hid (Nat.le_trans HB5.out (Nat.le_trans hfp.size hfN.size))
   have HS6:=hid (Nat.le_trans hfp.size hfN.size)
   have HZ1:Hid (((W5.setCell ⟨p,6,none⟩ (vU TN)).setCell ⟨N0,6,none⟩ (vU TN)).heap[N0]? =some (itO ⟨id,lane,1,c,du,tk,TN,sg,ps,size⟩)):=hid (by
    have k1:=(hfp.block N0 (Array.getElem?_eq_some_iff.1 HY1.out).1 (by simpa using hpn')).trans HY1.out
    have k2:=Go.Joins.block_setCell (i:=6) k1 (vU TN)
    simpa using k2)
   have HZ3:=hid ((hfN.block (N0+2) (by have:=(Array.getElem?_eq_some_iff.1 HY3.out).1;have:=hfp.size;omega) (by simp)).trans ((hfp.block (N0+2) (Array.getElem?_eq_some_iff.1 HY3.out).1 (by rw[List.mem_singleton];intro e;exact HM3.out (by rw[e];exact XP.mem_blk.2 ⟨0,by decide,by simp[XP.comp]⟩))).trans HY3.out))
   clear h6 hfN hfp
   go_wp2_with fail
   rw[u64_add1]
   rw[HTT.out]
   refine Calls.mono (enter_any ⟨id,lane,1,c,du,tk,TN,sg,ps,size⟩ H6.out HB6.out HL.out HE.out) ?_
   rintro e w7 ⟨⟨u2,rfl⟩,hs7⟩
   obtain⟨x7,i7,f7,q7⟩:=hs7
   obtain⟨hz1,hm1⟩:=keepF f7 q7 HZ1.out HM1.out
   obtain⟨hz3,hm3⟩:=keepF f7 q7 HZ3.out HM3.out
   have HI7:=hid i7
   have HF7:=hid f7
   have HQ7:=hid q7
   have HK3:=hid hz3
   have HKM:=hid hm3
   obtain⟨b0,b1,b2,b3,b4,b5,b6,b7,b8,b9,bf⟩:=blk10 hz1
   obtain⟨o0,o1,o2,o3,o4,o5,o6,o7,o8,o9,of⟩:=blk10 hz3
   have of0:=of 0
   have of1:=of 1
   have of2:=of 2
   have of3:=of 3
   have of4:=of 4
   have of5:=of 5
   have of6:=of 6
   have of7:=of 7
   have of8:=of 8
   have of9:=of 9
   obtain⟨W8,hW8⟩:∃W,(((((((((w7.setCell ⟨N0+2,0,none⟩ (vU id)).setCell ⟨N0+2,1,none⟩ (.int .i64 lane)).setCell ⟨N0+2,2,none⟩ (.int .i64 1)).setCell ⟨N0+2,3,none⟩ (.int .i64 c)).setCell ⟨N0+2,4,none⟩ (vU du)).setCell ⟨N0+2,5,none⟩ (vU tk)).setCell ⟨N0+2,6,none⟩ (vU TN)).setCell ⟨N0+2,7,none⟩ (vU sg)).setCell ⟨N0+2,8,none⟩ (vU ps)).setCell ⟨N0+2,9,none⟩ (.int .i64 size)=W:=⟨_,rfl⟩
   have hE8:setI w7 (N0+2) ⟨id,lane,1,c,du,tk,TN,sg,ps,size⟩=W8:=by rw[←hW8];rfl
   have hk8:=setI_blk hz3 ⟨id,lane,1,c,du,tk,TN,sg,ps,size⟩
   have f8:=setI_fr w7 (N0+2) ⟨id,lane,1,c,du,tk,TN,sg,ps,size⟩
   rw[hE8] at hk8 f8
   have HK8:=hid hk8
   have HF8:=hid f8
   clear i7 f7 q7 hz1 hz3 hm1 hm3 bf of hE8 hk8 f8
   go_wp2
   refine bodyPost_ret (bec_results _ W8 (N0+2) ⟨id,lane,1,c,du,tk,TN,sg,ps,size⟩ rfl HK8.out) rfl ?_
   refine⟨rfl,x7,HI7.out.fr HF8.out (fun i hi a ha hm=>HKM.out (by rw[List.mem_singleton] at hm;rw[←hm];exact XP.mem_blk.2 ⟨i,hi,ha⟩)),?_,fun a ha=> ?_⟩
   · refine(fr_cat ((Ext.fr (S:=[]) HE3.out)) (fr_cat HF4.out (fr_cat HF5.out (fr_cat (fr_setCell (S:=[p]) W5 ⟨p,6,none⟩ (vU TN) (by simp)) (fr_cat (fr_setCell (S:=[N0]) _ ⟨N0,6,none⟩ (vU TN) (by simp)) (fr_cat HF7.out HF8.out)))))).wider fun a ha=> ?_
     simp only[List.nil_append,List.mem_append,List.mem_cons,List.not_mem_nil,or_false] at ha
     have h0:=HN0.out
     have hp4:p∈x.blk p:=XP.mem_blk.2 ⟨0,by decide,by simp[XP.comp]⟩
     have h3:=HE3.out.size
     have hq4:∀a∈x4.blk p,a∈x.blk p∨w.heap.size≤a:=fun a ha=>(HQ4.out a ha).imp _root_.id fun k=>by omega
     rcases ha with ha|rfl|rfl|rfl|ha|rfl
     · exact .inl ha
     · exact .inr (by omega)
     · exact .inl hp4
     · exact .inr (by omega)
     · exact hq4 a ha
     · exact .inr (by omega)
   · have h3:=HE3.out.size
     have h4:=HF4.out.size
     have h5:=HF5.out.size
     have h6:=HS6.out
     rcases HQ7.out a ha with k|k
     · exact(HQ4.out a k).imp _root_.id fun k=>by omega
     · have k6:=Nat.le_trans h6 k
       exact .inr (by omega)
 · have hsb:(s==(1:Int))=false:=by simpa using hs1
   have hTN:=HTN.out
   have hQ1:=HQ1.out
   rw[if_neg hs1] at hTN hQ1
   have hQ2:leaveQ q ⟨id,lane,st,ct,due,tok,turn,sg,ps,size⟩=Q1:=hQ1
   subst hQ2
   clear HTN HQ1 hQ1
   have HY1:Hid (W5.heap[N0]? =some (itO ⟨id,lane,s,c,du,tk,TN,sg,ps,size⟩)):=hid (by rw[←hTN];exact HY1.out)
   have HTT:=hid hTN
   clear n6 hTN
   obtain⟨-,-,-,-,-,-,n6,-⟩:=blk10 HY1.out
   have H6:=H5
   have HB6:=HB5
   have HS6:Hid (W5.heap.size≤W5.heap.size):=hid (Nat.le_refl _)
   have HZ1:=HY1
   have HZ3:=HY3
   clear hs1
   go_wp2_with fail
   refine Calls.mono (enter_any ⟨id,lane,s,c,du,tk,TN,sg,ps,size⟩ H6.out HB6.out HL.out HE.out) ?_
   rintro e w7 ⟨⟨u2,rfl⟩,hs7⟩
   obtain⟨x7,i7,f7,q7⟩:=hs7
   obtain⟨hz1,hm1⟩:=keepF f7 q7 HZ1.out HM1.out
   obtain⟨hz3,hm3⟩:=keepF f7 q7 HZ3.out HM3.out
   have HI7:=hid i7
   have HF7:=hid f7
   have HQ7:=hid q7
   have HK3:=hid hz3
   have HKM:=hid hm3
   obtain⟨b0,b1,b2,b3,b4,b5,b6,b7,b8,b9,bf⟩:=blk10 hz1
   obtain⟨o0,o1,o2,o3,o4,o5,o6,o7,o8,o9,of⟩:=blk10 hz3
   have of0:=of 0
   have of1:=of 1
   have of2:=of 2
   have of3:=of 3
   have of4:=of 4
   have of5:=of 5
   have of6:=of 6
   have of7:=of 7
   have of8:=of 8
   have of9:=of 9
   obtain⟨W8,hW8⟩:∃W,(((((((((w7.setCell ⟨N0+2,0,none⟩ (vU id)).setCell ⟨N0+2,1,none⟩ (.int .i64 lane)).setCell ⟨N0+2,2,none⟩ (.int .i64 s)).setCell ⟨N0+2,3,none⟩ (.int .i64 c)).setCell ⟨N0+2,4,none⟩ (vU du)).setCell ⟨N0+2,5,none⟩ (vU tk)).setCell ⟨N0+2,6,none⟩ (vU TN)).setCell ⟨N0+2,7,none⟩ (vU sg)).setCell ⟨N0+2,8,none⟩ (vU ps)).setCell ⟨N0+2,9,none⟩ (.int .i64 size)=W:=⟨_,rfl⟩
   have hE8:setI w7 (N0+2) ⟨id,lane,s,c,du,tk,TN,sg,ps,size⟩=W8:=by rw[←hW8];rfl
   have hk8:=setI_blk hz3 ⟨id,lane,s,c,du,tk,TN,sg,ps,size⟩
   have f8:=setI_fr w7 (N0+2) ⟨id,lane,s,c,du,tk,TN,sg,ps,size⟩
   rw[hE8] at hk8 f8
   have HK8:=hid hk8
   have HF8:=hid f8
   clear i7 f7 q7 hz1 hz3 hm1 hm3 bf of hE8 hk8 f8
   go_wp2
   refine bodyPost_ret (bec_results _ W8 (N0+2) ⟨id,lane,s,c,du,tk,TN,sg,ps,size⟩ rfl HK8.out) rfl ?_
   refine⟨rfl,x7,HI7.out.fr HF8.out (fun i hi a ha hm=>HKM.out (by rw[List.mem_singleton] at hm;rw[←hm];exact XP.mem_blk.2 ⟨i,hi,ha⟩)),?_,fun a ha=> ?_⟩
   · refine(fr_cat ((Ext.fr (S:=[]) HE3.out)) (fr_cat HF4.out (fr_cat HF5.out (fr_cat HF7.out HF8.out)))).wider fun a ha=> ?_
     simp only[List.nil_append,List.mem_append,List.mem_cons,List.not_mem_nil,or_false] at ha
     have h0:=HN0.out
     have hp4:p∈x.blk p:=XP.mem_blk.2 ⟨0,by decide,by simp[XP.comp]⟩
     have h3:=HE3.out.size
     have hq4:∀a∈x4.blk p,a∈x.blk p∨w.heap.size≤a:=fun a ha=>(HQ4.out a ha).imp _root_.id fun k=>by omega
     rcases ha with ha|rfl|ha|rfl
     · exact .inl ha
     · exact .inr (by omega)
     · exact hq4 a ha
     · exact .inr (by omega)
   · have h3:=HE3.out.size
     have h4:=HF4.out.size
     have h5:=HF5.out.size
     have h6:=HS6.out
     rcases HQ7.out a ha with k|k
     · exact(HQ4.out a k).imp _root_.id fun k=>by omega
     · have k6:=Nat.le_trans h6 k
       exact .inr (by omega)
end Go.Proofs.YtcfgafododiioaaGreatDoor
