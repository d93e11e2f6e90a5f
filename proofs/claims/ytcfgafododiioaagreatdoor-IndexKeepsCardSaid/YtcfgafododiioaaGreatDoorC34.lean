/- Texts of a claim, side by side. -/
import Derived.Test.YtcfgafododiioaaGreatDoorC3
import Derived.Test.YtcfgafododiioaaGreatDoorC33
import Derived.Laws.Cover1
set_option linter.unusedSimpArgs false
set_option linter.unusedVariables false
namespace Go.Proofs.YtcfgafododiioaaGreatDoor
open Go Go.RowKit Go.Tum Go.ChangeMaps
abbrev zV:Value:= .agg #[]
def zD:DU:= .agg []
def rdZ:Value→Option (DU×List MemPlace)
 | .agg ⟨[]⟩=>some (.agg [],[])
 |_=>none
theorem rdZ_zV:rdZ zV=some (zD,[]):=rfl
def PMZ (w:World) (m:Nat) (l:List (UInt64×Unit)):Prop:=∃D:DU,w.ownsMap Tryz.prog 36 rdZ m l.length D∧Maps.size D=l.length∧
 ∀x z,D.atKey (kU x) z=match l.lookup x with|none=>z|some b=>zD
theorem PMZ.has {l:List (UInt64×Unit)} {D:DU} (h:∀x z,D.atKey (kU x) z=match l.lookup x with|none=>z|some b=>zD) (x:UInt64):Maps.has D (kU x)=(l.lookup x).isSome:=by
 cases hx:l.lookup x with
 |none=>exact Maps.has_false_of_atKey fun z=>by rw[h,hx]
 |some b=>exact Maps.has_true_of_atKey (y:=zD) fun z=>by rw[h,hx]
theorem PMZ.made (w:World):PMZ (w.alloc (.map #[] 0)) w.heap.size []:=by
 refine⟨.map [],World.ownsMap_made w _ _ _,rfl,fun x z=> ?_⟩
 exact WideAt.atKey_none z (by simp)
theorem PMZ.fr {S:List Nat} {w w':World} {m:Nat} {l:List (UInt64×Unit)} (h:PMZ w m l) (k:Fr S w w') (hm:m∉S):PMZ w' m l:=by
 obtain⟨D,⟨es,c,h1,h4,h5,h6⟩,h2,h3⟩:=h
 exact⟨D,⟨es,c,(k.block m (Array.getElem?_eq_some_iff.1 h1).1 hm).trans h1,h4,h5,h6⟩,h2,h3⟩
theorem PMZ.ext {w w':World} {m:Nat} {l:List (UInt64×Unit)} (h:PMZ w m l) (k:Ext w w'):PMZ w' m l:=h.fr (S:=[]) (Ext.fr k) (by simp)
section
variable {mt : TypeId} {w : World} {m : Nat} {l : List (UInt64 × Unit)}
theorem PMZ.len (h:PMZ w m l) (ht:Tryz.prog.underlying mt=some (.map 36 223)) (ty:TypeId):(Builtin.len_ #[mt] ty #[.map (some m)]).run Tryz.prog w= .ok (.int .i64 (l.length:Nat)) w:=by
 obtain⟨D,h1,h2,h3⟩:=h
 rw[h1.len ht ty,h2]
theorem PMZ.store (h:PMZ w m l) (ht:Tryz.prog.underlying mt=some (.map 36 223)) (hl:l.length≤1048576) (hn:(l.map Prod.fst).Nodup) (x:UInt64) (b:Unit):
 ∃w',(Instr.mapUpdate mt (.map (some m)) (vU x) (zV)).run Tryz.prog w= .ok () w'∧PMZ w' m ((x,b)::noK l x)∧w.mapTurned w' m:=by
 obtain⟨D,h1,h2,h3⟩:=h
 obtain⟨w',hrun,r1,r2⟩:=h1.store keyedU ht (by simp[maxLen];omega) (kU_key x) (show rdZ (zV)=some (zD,[]) from rdZ_zV)
 have hlen:((x,b)::noK l x).length=if(l.lookup x).isSome then l.length else l.length+1:=by
  cases hx:l.lookup x with
  |none=>
   have:noK l x=l:=List.filter_eq_self.2 fun z hz=>by
    have:z.1≠x:=fun e=>lku_none.1 hx (List.mem_map.2 ⟨z,hz,e⟩)
    simpa using this
   rw[this];simp
  |some c=>
   have:=(noK_perm (lku_mem hx) hn).length_eq
   simp only[List.length_cons] at this⊢
   simpa using this
 have hsz:Maps.size (D.put (kU x) (zD))=((x,b)::noK l x).length:=by
  rw[Maps.size_put (h1.tidy keyedU),PMZ.has h3 x,h2,hlen]
 refine⟨w',hrun,⟨D.put (kU x) (zD),?_,hsz,fun y z=> ?_⟩,r2⟩
 · obtain⟨es,c,e1,e2,e3,e4⟩:=r1
   refine⟨es,c,e1,e2,?_,e4⟩
   rw[←hsz,e4]
   simp[Maps.size,length_sorted]
 · rw[lku_cons]
   by_cases hy:y=x
   · subst hy
     rw[Maps.atKey_put_same h1.isMap (by simp[WideAt.IsKeyLit]),if_pos rfl]
   · rw[Maps.atKey_put_other (kU_ne hy),h3,if_neg hy,lookup_noK,if_neg hy]
end
def addZ (l:List UInt64) (x:UInt64):List UInt64:=if x∈l then l else x::l
theorem addZ_nodup {l:List UInt64} (h:l.Nodup) (x:UInt64):(addZ l x).Nodup:=by
 unfold addZ
 split
 · exact h
 · rename_i k;exact List.nodup_cons.2 ⟨k,h⟩
theorem mem_addZ {l:List UInt64} {x y:UInt64}:y∈addZ l x↔y=x∨y∈l:=by
 unfold addZ
 split
 · rename_i k
   constructor
   · exact .inr
   · rintro(rfl|h)
     · exact k
     · exact h
 · rw[List.mem_cons]
theorem foldZ:∀(m l:List UInt64),l.Nodup→(m.foldl addZ l).length≤l.length+m.length∧((m.foldl addZ l).length=l.length+m.length↔m.Nodup∧∀x∈m,x∉l)
 |[],l,_=>by simp
 |x::m,l,hl=>by
  have h:=foldZ m (addZ l x) (addZ_nodup hl x)
  rw[List.foldl_cons]
  have hlen:(addZ l x).length=if x∈l then l.length else l.length+1:=by unfold addZ;split<;>simp
  constructor
  · have:=h.1
    rw[List.length_cons]
    split at hlen<;>omega
  · rw[List.length_cons]
    by_cases hx:x∈l
    · rw[if_pos hx] at hlen
      have:=h.1
      constructor
      · intro e;omega
      · rintro⟨-,k⟩
        exact absurd hx (k x (by simp))
    · rw[if_neg hx] at hlen
      have e:(List.foldl addZ (addZ l x) m).length=l.length+(m.length+1)↔(List.foldl addZ (addZ l x) m).length=(addZ l x).length+m.length:=by omega
      rw[e,h.2,List.nodup_cons]
      constructor
      · rintro⟨h1,h2⟩
        refine⟨⟨fun hm=>h2 x hm (mem_addZ.2 (.inl rfl)),h1⟩,fun y hy=> ?_⟩
        rcases List.mem_cons.1 hy with rfl|hy
        · exact hx
        · exact fun hm=>h2 y hy (mem_addZ.2 (.inr hm))
      · rintro⟨⟨h1,h2⟩,h3⟩
        refine⟨h2,fun y hy hm=> ?_⟩
        rcases mem_addZ.1 hm with rfl|hm
        · exact h1 hy
        · exact h3 y (List.mem_cons_of_mem _ hy) hm
theorem foldZ_nd (m:List UInt64):decide ((m.foldl addZ []).length=m.length)=decide m.Nodup:=by
 have:=(foldZ m [] (by simp)).2
 simp at this
 rw[decide_eq_decide]
 exact this
def PMS (w:World) (m:Nat) (l:List UInt64):Prop:=PMZ w m (l.map fun x=>(x,()))∧l.Nodup
theorem keysZ (l:List UInt64):(l.map fun x=>(x,())).map Prod.fst=l:=by rw[List.map_map];exact List.map_id _
theorem PMS.made (w:World):PMS (w.alloc (.map #[] 0)) w.heap.size []:=⟨PMZ.made w,by simp⟩
theorem PMS.ext {w w':World} {m:Nat} {l:List UInt64} (h:PMS w m l) (k:Ext w w'):PMS w' m l:=⟨h.1.ext k,h.2⟩
theorem PMS.fr {S:List Nat} {w w':World} {m:Nat} {l:List UInt64} (h:PMS w m l) (k:Fr S w w') (hm:m∉S):PMS w' m l:=⟨h.1.fr k hm,h.2⟩
theorem PMS.len {mt:TypeId} {w:World} {m:Nat} {l:List UInt64} (h:PMS w m l) (ht:Tryz.prog.underlying mt=some (.map 36 223)) (ty:TypeId):(Builtin.len_ #[mt] ty #[.map (some m)]).run Tryz.prog w= .ok (.int .i64 (l.length:Nat)) w:=by
 have:=h.1.len ht ty
 rw[List.length_map] at this
 exact this
theorem PMZ.congr {w:World} {m:Nat} {l l':List (UInt64×Unit)} (h:PMZ w m l) (e:∀x,l.lookup x=l'.lookup x) (hl:l.length=l'.length):PMZ w m l':=by
 obtain⟨D,h1,h2,h3⟩:=h
 refine⟨D,by rw[←hl];exact h1,by rw[←hl];exact h2,fun x z=>by rw[h3,e]⟩
theorem lookZ (l:List UInt64) (x:UInt64):(l.map fun x=>(x,())).lookup x=if x∈l then some () else none:=by
 induction l with
 |nil=>simp
 |cons a r ih=>
  rw[List.map_cons,lku_cons,ih]
  by_cases e:x=a
  · simp[e]
  · simp[e]
theorem PMS.store {mt:TypeId} {w:World} {m:Nat} {l:List UInt64} (h:PMS w m l) (ht:Tryz.prog.underlying mt=some (.map 36 223)) (hl:l.length≤1048576) (x:UInt64):
 ∃w',(Instr.mapUpdate mt (.map (some m)) (vU x) zV).run Tryz.prog w= .ok () w'∧PMS w' m (addZ l x)∧w.mapTurned w' m:=by
 obtain⟨w',h1,h2,h3⟩:=h.1.store ht (by rw[List.length_map];exact hl) (by rw[keysZ];exact h.2) x ()
 refine⟨w',h1,⟨h2.congr (fun y=> ?_) ?_,addZ_nodup h.2 x⟩,h3⟩
 · rw[lku_cons,lookup_noK,lookZ,lookZ]
   by_cases e:y=x
   · rw[if_pos e,if_pos (mem_addZ.2 (.inl e))]
   · rw[if_neg e,if_neg e]
     by_cases hy:y∈l
     · rw[if_pos hy,if_pos (mem_addZ.2 (.inr hy))]
     · rw[if_neg hy,if_neg fun k=>(mem_addZ.1 k).elim e hy]
 · rw[List.length_cons,List.length_map]
   unfold addZ
   by_cases hx:x∈l
   · rw[if_pos hx]
     have h9:=(noK_perm (show(x,())∈l.map (fun x=>(x,())) from List.mem_map.2 ⟨x,hx,rfl⟩) (by rw[keysZ];exact h.2)).length_eq
     rw[List.length_cons,List.length_map] at h9
     omega
   · rw[if_neg hx,List.length_cons]
     have:noK (l.map fun x=>(x,())) x=l.map fun x=>(x,()):=List.filter_eq_self.2 fun z hz=>by
      obtain⟨y,hy,rfl⟩:=List.mem_map.1 hz
      have:y≠x:=fun e=>hx (by rw[←e];exact hy)
      simpa using this
     rw[this,List.length_map]
section
variable (w : World) {ops : Array Oper} {rest : List Oper} {o : Oper} {a : Act} {Q : Exit → Act → World → Prop}
theorem wpList_store_PMS {mt:TypeId} (ht:Tryz.prog.underlying mt=some (.map 36 223)) (hg:o.guard=none) (mo x v:Operand) (hop:o.op=Op.mapUpdate mt mo x v) (m:Nat) (l:List UInt64) (hm:a.eval mo= .map (some m)) (h:PMS w m l) (hl:l.length≤1048576) (key:UInt64) (hx:a.eval x=vU key) (hv:a.eval v=zV)
 (hK:∀w',PMS w' m (addZ l key)→w.mapTurned w' m→wpList Tryz.prog ops Q rest (a.put o.dst undef) w'):wpList Tryz.prog ops Q (o::rest) a w:=by
 refine wpList_plain hg fun K' hK'=> ?_
 obtain⟨w',hrun,r1,r2⟩:=h.store ht hl key
 unfold Oper.wp
 simp[execOp,hop,hm,hx,hv,hrun,Result.andThen]
 exact hK' _ _ (hK w' r1 r2)
end
end Go.Proofs.YtcfgafododiioaaGreatDoor
set_option maxRecDepth 100000
namespace Go.Proofs.YtcfgafododiioaaGreatDoor
open Go Go.RowKit Go.Tum Go.ChangeMaps Go.Sort
open Go.ParB (upd Lof)
open Go.ParE (putS slotsR slots Closed)
structure ItsK (la pa de:Int) (s:SR) (k:Nat) (T K:List UInt64) (r m:Nat):Prop where
 ht:T=(turnsOf (s.items.take k)).foldl addZ []
 hr:r=(turnsOf (s.items.take k)).length
 hk:K=(toksOf (s.items.take k)).foldl addZ []
 hm:m=(toksOf (s.items.take k)).length
 ok:∀z∈s.items.take k,itOk la pa de s z=true
theorem ItsK.start (la pa de:Int) (s:SR):ItsK la pa de s 0 [] [] 0 0:=⟨rfl,rfl,rfl,rfl,by simp⟩
theorem ItsK.next {la pa de:Int} {s:SR} {k:Nat} {T K:List UInt64} {r m:Nat} (h:ItsK la pa de s k T K r m) (hk:k<s.items.length) (ho:itOk la pa de s s.items[k]=true):
 ItsK la pa de s (k+1) (if s.items[k].st=1 then addZ T s.items[k].turn else T) (if s.items[k].st=3 then addZ K s.items[k].tok else K) (if s.items[k].st=1 then r+1 else r) (if s.items[k].st=3 then m+1 else m):=by
 obtain⟨h1,h2,h3,h4,h5⟩:=h
 have ht:=List.take_succ_eq_append_getElem hk
 have e1:turnsOf (s.items.take (k+1))=turnsOf (s.items.take k)++(if s.items[k].st=1 then[s.items[k].turn] else[]):=by
  unfold turnsOf
  rw[ht,List.filter_append,List.map_append]
  congr 1
  split<;>simp[*]
 have e3:toksOf (s.items.take (k+1))=toksOf (s.items.take k)++(if s.items[k].st=3 then[s.items[k].tok] else[]):=by
  unfold toksOf
  rw[ht,List.filter_append,List.map_append]
  congr 1
  split<;>simp[*]
 refine⟨?_,?_,?_,?_,fun z hz=> ?_⟩
 · rw[e1,List.foldl_append,←h1];split<;>rfl
 · rw[e1,List.length_append,←h2];split<;>rfl
 · rw[e3,List.foldl_append,←h3];split<;>rfl
 · rw[e3,List.length_append,←h4];split<;>rfl
 · rw[ht] at hz
   rcases List.mem_append.1 hz with hz|hz
   · exact h5 z hz
   · rw[List.mem_singleton.1 hz];exact ho
theorem ItsK.stop {la pa de:Int} {s:SR} {k:Nat} (hk:k<s.items.length) (ho:itOk la pa de s s.items[k]=false):itemsOk la pa de s=false:=by
 unfold itemsOk
 have:s.items.all (itOk la pa de s)=false:=by
  rw[List.all_eq_false]
  exact⟨_,List.getElem_mem hk,by rw[ho];decide⟩
 rw[this];rfl
theorem ItsK.done {la pa de:Int} {s:SR} {T K:List UInt64} {r m:Nat} (h:ItsK la pa de s s.items.length T K r m):itemsOk la pa de s=(decide (T.length=r) && decide (K.length=m)):=by
 obtain⟨h1,h2,h3,h4,h5⟩:=h
 rw[List.take_length] at h1 h2 h3 h4 h5
 unfold itemsOk
 have:s.items.all (itOk la pa de s)=true:=List.all_eq_true.2 h5
 rw[this,h1,h2,h3,h4,foldZ_nd,foldZ_nd];rfl
theorem ItsK.le {la pa de:Int} {s:SR} {k:Nat} {T K:List UInt64} {r m:Nat} (h:ItsK la pa de s k T K r m):T.length≤s.items.length∧K.length≤s.items.length∧r≤s.items.length∧m≤s.items.length:=by
 obtain⟨h1,h2,h3,h4,h5⟩:=h
 have a:=(foldZ (turnsOf (s.items.take k)) [] (by simp)).1
 have b:=(foldZ (toksOf (s.items.take k)) [] (by simp)).1
 rw[←h1,←h2] at a
 rw[←h3,←h4] at b
 have c:(turnsOf (s.items.take k)).length≤s.items.length:=by
  unfold turnsOf
  rw[List.length_map]
  exact Nat.le_trans (List.length_filter_le _ _) (by rw[List.length_take];omega)
 have d:(toksOf (s.items.take k)).length≤s.items.length:=by
  unfold toksOf
  rw[List.length_map]
  exact Nat.le_trans (List.length_filter_le _ _) (by rw[List.length_take];omega)
 simp at a b
 omega
theorem row10z {w:World} {L:List It} {a:Addr} {n cap:Nat} (h:Sl w 10 (.slice (some a) n cap) n (L.flatMap itE)) {k:Nat} {z:It} (hz:L[k]? =some z):
 w.cell? (a.add (k*10))=some (vU z.id)∧w.cell? ⟨(a.add (k*10)).block,(a.add (k*10)).off+1,none⟩=some (.int .i64 z.lane)∧w.cell? ⟨(a.add (k*10)).block,(a.add (k*10)).off+2,none⟩=some (.int .i64 z.st)∧
 w.cell? ⟨(a.add (k*10)).block,(a.add (k*10)).off+3,none⟩=some (.int .i64 z.ct)∧w.cell? ⟨(a.add (k*10)).block,(a.add (k*10)).off+4,none⟩=some (vU z.due)∧w.cell? ⟨(a.add (k*10)).block,(a.add (k*10)).off+5,none⟩=some (vU z.tok)∧
 w.cell? ⟨(a.add (k*10)).block,(a.add (k*10)).off+6,none⟩=some (vU z.turn)∧w.cell? ⟨(a.add (k*10)).block,(a.add (k*10)).off+7,none⟩=some (vU z.seg)∧w.cell? ⟨(a.add (k*10)).block,(a.add (k*10)).off+8,none⟩=some (vU z.pos)∧
 w.cell? ⟨(a.add (k*10)).block,(a.add (k*10)).off+9,none⟩=some (.int .i64 z.size):=by
 obtain⟨hk,rfl⟩:=List.getElem?_eq_some_iff.1 hz
 exact row10 h hk
theorem ItsK.nextz {la pa de:Int} {s:SR} {k:Nat} {T K:List UInt64} {r m:Nat} (h:ItsK la pa de s k T K r m) {z:It} (hz:s.items[k]? =some z) (ho:itOk la pa de s z=true):
 ItsK la pa de s (k+1) (if z.st=1 then addZ T z.turn else T) (if z.st=3 then addZ K z.tok else K) (if z.st=1 then r+1 else r) (if z.st=3 then m+1 else m):=by
 obtain⟨hk,rfl⟩:=List.getElem?_eq_some_iff.1 hz
 exact h.next hk ho
theorem ItsK.stopz {la pa de:Int} {s:SR} {k:Nat} {z:It} (hz:s.items[k]? =some z) (ho:itOk la pa de s z=false):itemsOk la pa de s=false:=by
 obtain⟨hk,rfl⟩:=List.getElem?_eq_some_iff.1 hz
 exact ItsK.stop hk ho
set_option maxHeartbeats 2000000 in
theorem itemsRight_any {w:World} {s:SR} (la pa de:Int) {ao a2 a3:Option Addr} {cap n2 n3 c2 c3:Nat} (h:Sl w 10 (.slice ao s.items.length cap) s.items.length (s.items.flatMap itE)) (hlen:s.items.length≤100000):
 Calls Tryz.prog 121 #[ccV la pa de,srV s (.slice ao s.items.length cap) (.slice a2 n2 c2) (.slice a3 n3 c3)] w fun e w'=>e= .returned (.bool (itemsOk la pa de s))∧Ext w w':=by
 obtain⟨W1,hW1⟩:∃W,w.alloc (ccO la pa de)=W:=⟨_,rfl⟩
 obtain⟨W2,hW2⟩:∃W,W1.alloc (srO s (.slice ao s.items.length cap) (.slice a2 n2 c2) (.slice a3 n3 c3))=W:=⟨_,rfl⟩
 obtain⟨W3,hW3⟩:∃W,W2.alloc (.map #[] 0)=W:=⟨_,rfl⟩
 obtain⟨W4,hW4⟩:∃W,W3.alloc (.map #[] 0)=W:=⟨_,rfl⟩
 have e1:Ext w W1:=by rw[←hW1];exact Ext.alloc _ _
 have e2:Ext W1 W2:=by rw[←hW2];exact Ext.alloc _ _
 have e3:Ext W2 W3:=by rw[←hW3];exact Ext.alloc _ _
 have e4:Ext W3 W4:=by rw[←hW4];exact Ext.alloc _ _
 have z1:W1.heap.size=w.heap.size+1:=by rw[←hW1];simp
 have z2:W2.heap.size=W1.heap.size+1:=by rw[←hW2];simp
 have z3:W3.heap.size=W2.heap.size+1:=by rw[←hW3];simp
 have b1:W1.heap[w.heap.size]? =some (ccO la pa de):=by rw[←hW1];exact heap_alloc_new _ _
 have b2:W2.heap[W1.heap.size]? =some (srO s (.slice ao s.items.length cap) (.slice a2 n2 c2) (.slice a3 n3 c3)):=by rw[←hW2];exact heap_alloc_new _ _
 have m1:PMS W3 W2.heap.size []:=by rw[←hW3];exact PMS.made _
 have m2:PMS W4 W3.heap.size []:=by rw[←hW4];exact PMS.made _
 have y5:=(blk8 (e3.trans e4|>.obj b2)).2.2.2.2.2.1
 have HE:=hid (((e1.trans e2).trans e3).trans e4)
 have HB1:=hid (((e2.trans e3).trans e4).obj b1)
 have HB2:=hid ((e3.trans e4).obj b2)
 have HM1:=hid (m1.ext e4)
 have HM2:=hid m2
 have HS:=hid h
 have HLEN:=hid hlen
 obtain⟨R,hR⟩:∃R,itemsOk la pa de s=R:=⟨_,rfl⟩
 have HR:=hid hR
 rw[hR]
 have hz:ao=none→s.items.length=0:=fun e=>by
  obtain⟨h1,-,h3,-⟩:=Sl.cells h
  have:=h3 e
  omega
 have HZ:Hid (w.heap.size<W2.heap.size∧W1.heap.size<W2.heap.size∧W2.heap.size<W3.heap.size∧W2.heap.size<W4.heap.size):=hid ⟨by omega,by omega,by omega,Nat.lt_of_lt_of_le (by omega) e4.size⟩
 clear h hlen e1 e2 e3 e4 z1 z2 z3 b1 b2 m1 m2 hR
 have hmm:= @run_makeMap Tryz.prog
 go_enter Tryz.func121,Tryz.ntmps121
 go_wp2
 clear hmm
 clear hW1 hW2 hW3 hW4 y5
 obtain⟨c,hc⟩:∃g,w.heap.size=g:=⟨_,rfl⟩
 obtain⟨g,hg⟩:∃g,W1.heap.size=g:=⟨_,rfl⟩
 obtain⟨m1,hm1⟩:∃g,W2.heap.size=g:=⟨_,rfl⟩
 obtain⟨m2,hm2⟩:∃g,W3.heap.size=g:=⟨_,rfl⟩
 rw[hc] at HB1 HZ
 rw[hg] at HB2 HZ
 rw[hm1] at HM1 HZ
 rw[hm2] at HM2 HZ
 try rw[hc]
 try rw[hg]
 try rw[hm1]
 try rw[hm2]
 have HN:Hid (w.heap.size≤m1∧w.heap.size≤m2):=hid (by have:=HZ.out;omega)
 clear hc hg hm1 hm2
 go_loopw [7,8,16] (fun rv lv iv wr=>∃(k:Nat) (T K:List UInt64) (r m:Nat),k≤s.items.length∧iv= .int .i64 (k:Int)∧rv= .int .i64 (r:Int)∧lv= .int .i64 (m:Int)∧Hid (ItsK la pa de s k T K r m)∧Hid (PMS wr m1 T∧PMS wr m2 K)∧Hid (Fr [m1,m2] W4 wr)) (fun _ _ iv _=>s.items.length - (intOf iv).toNat)
 case atStart=>exact⟨0,[],[],0,0,Nat.zero_le _,rfl,rfl,rfl,hid (ItsK.start _ _ _ _),hid ⟨HM1.out,HM2.out⟩,hid (Fr.refl _ _)⟩
 case round=>
  clear HM1 HM2
  obtain⟨k,T,K,r,m,hk,rfl,rfl,rfl,HI,HM,HF⟩:=hrel
  have HX:Hid (Ext w wr):=hid (Below.trans HE.out (HF.out.below (by have:=HN.out;simp;omega) HE.out.size))
  have HBC:=hid ((HF.out.block c (by have:=HZ.out;omega) (by have:=HZ.out;simp;omega)).trans HB1.out)
  have HBS:=hid ((HF.out.block g (by have:=HZ.out;omega) (by have:=HZ.out;simp;omega)).trans HB2.out)
  have HLE:=hid HI.out.le
  by_cases hkm:k<s.items.length
  · have hki:decide ((k:Int)<(s.items.length:Int))=true:=by simp;omega
    obtain⟨a,rfl⟩:∃a,ao=some a:=by
     cases ao with
     |none=>have:=hz rfl;omega
     |some a=>exact⟨a,rfl⟩
    have HKM:=hid hkm
    obtain⟨z,hz2⟩:∃z,s.items[k]? =some z:=⟨_,List.getElem?_eq_getElem hkm⟩
    obtain⟨r0,r1,r2,r3,r4,r5,r6,r7,r8,r9⟩:=row10z (HS.out.ext HX.out) hz2
    have HST:=hid (fun h=>ItsK.stopz (la:=la) (pa:=pa) (de:=de) (s:=s) hz2 h)
    have HNX:=hid (fun h=>HI.out.nextz hz2 h)
    have hlr:=fun w'=>lifeRight_any la pa de s (some a) a2 a3 s.items.length n2 n3 cap c2 c3 z w'
    obtain⟨id,la2,st,ct,du,tk,tu,sg,ps,sz⟩:=z
    dsimp only at r0 r1 r2 r3 r4 r5 r6 r7 r8 r9 HNX
    obtain⟨w3,hw3⟩:∃W,wr.alloc (itO ⟨id,la2,st,ct,du,tk,tu,sg,ps,sz⟩)=W:=⟨_,rfl⟩
    have e3:Ext wr w3:=by rw[←hw3];exact Ext.alloc _ _
    have hb3:w3.heap[wr.heap.size]? =some (itO ⟨id,la2,st,ct,du,tk,tu,sg,ps,sz⟩):=by rw[←hw3];exact heap_alloc_new _ _
    obtain⟨B,hB⟩:∃B,lifeOk de s ⟨id,la2,st,ct,du,tk,tu,sg,ps,sz⟩=B:=⟨_,rfl⟩
    rw[hB] at hlr
    have HLR:=hid hlr
    have HBB:=hid hB
    have HE3:=hid e3
    have HB3:=hid hb3
    obtain⟨d0,d1,d2,d3,d4,d5,d6,d7,d8,d9,-⟩:=blk10 hb3
    obtain⟨x0,x1,x2,-⟩:=lk3 (e3.obj HBC.out)
    obtain⟨y0,y1,y2,y3,y4,y5,y6,y7,-⟩:=blk8 (e3.obj HBS.out)
    obtain⟨q1,hq1⟩:∃b,decide (la2<0)=b:=⟨_,rfl⟩
    obtain⟨q2,hq2⟩:∃b,decide (la≤la2)=b:=⟨_,rfl⟩
    obtain⟨q3,hq3⟩:∃b,decide (sz<0)=b:=⟨_,rfl⟩
    obtain⟨q4,hq4⟩:∃b,decide (pa<sz)=b:=⟨_,rfl⟩
    have HOK:Hid (itOk la pa de s ⟨id,la2,st,ct,du,tk,tu,sg,ps,sz⟩=(!q1 && !q2 && !q3 && !q4 && B)):=hid (by
     unfold itOk
     rw[hB,←hq1,←hq2,←hq3,←hq4]
     congr 1
     rw[Bool.eq_iff_iff]
     simp only[decide_eq_true_eq,Bool.and_eq_true,Bool.not_eq_true',decide_eq_false_iff_not]
     omega)
    clear hz2 hlr e3 hb3 hB hkm hk HI
    cases q1
    case true=>
     go_wp2
     go_returns
     exact⟨by rw[←HR.out,HST.out (by rw[HOK.out];simp)];rfl,HX.out.trans HE3.out⟩
    cases q2
    case true=>
     go_wp2
     go_returns
     exact⟨by rw[←HR.out,HST.out (by rw[HOK.out];simp)];rfl,HX.out.trans HE3.out⟩
    cases q3
    case true=>
     go_wp2
     go_returns
     exact⟨by rw[←HR.out,HST.out (by rw[HOK.out];simp)];rfl,HX.out.trans HE3.out⟩
    cases q4
    case true=>
     go_wp2
     go_returns
     exact⟨by rw[←HR.out,HST.out (by rw[HOK.out];simp)];rfl,HX.out.trans HE3.out⟩
    go_wp2_with fail
    clear r0 r1 r2 r3 r4 r5 r6 r7 r8 r9 x0 x1 x2 y0 y1 y2 y3 y4 y5 y6 y7 d0 d1 d2 d3 d4 d5 d6 d7 d8 d9 hw3
    refine(HLR.out _).mono ?_
    rintro e w4 ⟨rfl,hx4⟩
    have HX4:=hid (HX.out.trans (HE3.out.trans hx4))
    have HF4:=hid (HF.out.trans (Ext.fr (S:=[m1,m2]) (HE3.out.trans hx4)))
    have HM4:Hid (PMS w4 m1 T∧PMS w4 m2 K):=hid ⟨HM.out.1.ext (HE3.out.trans hx4),HM.out.2.ext (HE3.out.trans hx4)⟩
    obtain⟨d0,d1,d2,d3,d4,d5,d6,d7,d8,d9,-⟩:=blk10 (hx4.obj HB3.out)
    clear hx4
    obtain⟨gb,hgb⟩:∃b,wr.heap.size=b:=⟨_,rfl⟩
    rw[hgb] at d0 d1 d2 d3 d4 d5 d6 d7 d8 d9
    try rw[hgb]
    clear hgb
    cases B
    case false=>
     go_wp2
     go_returns
     exact⟨by rw[←HR.out,HST.out (by rw[HOK.out];simp)];rfl,HX4.out⟩
    case true=>
     have HN2:=hid (HNX.out (by rw[HOK.out];simp))
     have hst:st=1∨st=2∨st=3∨st=4:=by
      have:=HBB.out
      unfold lifeOk at this
      exact(of_decide_eq_true this).st
     rcases hst with rfl|rfl|rfl|rfl
     · go_wp2_with (at_mapUpdate;refine wpList_store_PMS _ Tryz.underlying221 rfl _ _ _ rfl m1 T rfl HM4.out.1 (by have:=HLE.out;have:=HLEN.out;omega) tu rfl rfl ?_;intro w5 hm5 ht5;have HM5:=hid hm5;have HT5:=hid (fr_turned (S:=[m1,m2]) ht5 (by simp));have HU5:=hid (fr_turned (S:=[m1]) ht5 (by simp));clear hm5 ht5)
       go_roundw
       case rel=>
        have hne:m2∉[m1]:=by have:=HZ.out;simp;omega
        exact⟨k+1,addZ T tu,K,r+1,m,HKM.out,next_i64L (by have:=HKM.out;have:=HLEN.out;omega),next_i64L (by have:=HLE.out;have:=HLEN.out;omega),rfl,hid (by simpa using HN2.out),hid ⟨HM5.out,HM4.out.2.fr HU5.out hne⟩,hid (HF4.out.trans HT5.out)⟩
       case measure=>exact next_lessL (by have:=HKM.out;have:=HLEN.out;omega) HKM.out
     · go_wp2
       go_roundw
       case rel=>exact⟨k+1,T,K,r,m,HKM.out,next_i64L (by have:=HKM.out;have:=HLEN.out;omega),rfl,rfl,hid (by simpa using HN2.out),HM4,HF4⟩
       case measure=>exact next_lessL (by have:=HKM.out;have:=HLEN.out;omega) HKM.out
     · go_wp2_with (at_mapUpdate;refine wpList_store_PMS _ Tryz.underlying221 rfl _ _ _ rfl m2 K rfl HM4.out.2 (by have:=HLE.out;have:=HLEN.out;omega) tk rfl rfl ?_;intro w5 hm5 ht5;have HM5:=hid hm5;have HT5:=hid (fr_turned (S:=[m1,m2]) ht5 (by simp));have HU5:=hid (fr_turned (S:=[m2]) ht5 (by simp));clear hm5 ht5)
       go_roundw
       case rel=>
        have hne:m1∉[m2]:=by have:=HZ.out;simp;omega
        exact⟨k+1,T,addZ K tk,r,m+1,HKM.out,next_i64L (by have:=HKM.out;have:=HLEN.out;omega),rfl,next_i64L (by have:=HLE.out;have:=HLEN.out;omega),hid (by simpa using HN2.out),hid ⟨HM4.out.1.fr HU5.out hne,HM5.out⟩,hid (HF4.out.trans HT5.out)⟩
       case measure=>exact next_lessL (by have:=HKM.out;have:=HLEN.out;omega) HKM.out
     · go_wp2
       go_roundw
       case rel=>exact⟨k+1,T,K,r,m,HKM.out,next_i64L (by have:=HKM.out;have:=HLEN.out;omega),rfl,rfl,hid (by simpa using HN2.out),HM4,HF4⟩
       case measure=>exact next_lessL (by have:=HKM.out;have:=HLEN.out;omega) HKM.out
  · obtain rfl:k=s.items.length:=by omega
    have hki:decide ((s.items.length:Int)<(s.items.length:Int))=false:=by simp
    have HD:=hid HI.out.done
    have hl1:∀ty,(Builtin.len_ #[221] ty #[.map (some m1)]).run Tryz.prog wr= .ok (.int .i64 (T.length:Nat)) wr:=fun ty=>HM.out.1.len Tryz.underlying221 ty
    have hl2:∀ty,(Builtin.len_ #[221] ty #[.map (some m2)]).run Tryz.prog wr= .ok (.int .i64 (K.length:Nat)) wr:=fun ty=>HM.out.2.len Tryz.underlying221 ty
    obtain⟨tn,htn⟩:∃n,T.length=n:=⟨_,rfl⟩
    obtain⟨kn,hkn⟩:∃n,K.length=n:=⟨_,rfl⟩
    rw[htn] at hl1 HD
    rw[hkn] at hl2 HD
    have h1:((tn:Int)==(r:Int))=decide (tn=r):=by rw[Bool.eq_iff_iff];simp;omega
    have h2:((kn:Int)==(m:Int))=decide (kn=m):=by rw[Bool.eq_iff_iff];simp;omega
    obtain⟨q1,hq1⟩:∃b,decide (tn=r)=b:=⟨_,rfl⟩
    obtain⟨q2,hq2⟩:∃b,decide (kn=m)=b:=⟨_,rfl⟩
    rw[hq1] at h1 HD
    rw[hq2] at h2 HD
    clear htn hkn hq1 hq2 hk hkm HI HM
    cases q1
    case false=>
     go_wp2
     go_returns
     exact⟨by rw[←HR.out,HD.out];rfl,HX.out⟩
    case true=>
     go_wp2
     go_returns
     exact⟨by rw[←HR.out,HD.out];rfl,HX.out⟩
end Go.Proofs.YtcfgafododiioaaGreatDoor
set_option maxRecDepth 100000
namespace Go.Proofs.YtcfgafododiioaaGreatDoor
open Go Go.RowKit Go.Tum Go.ChangeMaps Go.Sort
open Go.ParB (upd Lof)
open Go.ParE (putS slotsR slots Closed)
structure DdK (d:PD) (s:SR) (k n:Nat):Prop where
 n:n=(deadsOf (s.items.take k)).length
 ok:∀z∈deadsOf (s.items.take k),(d.rows.lookup z.id).isSome=true
theorem DdK.start (d:PD) (s:SR):DdK d s 0 0:=⟨rfl,by simp[deadsOf]⟩
theorem deads_next {s:SR} {k:Nat} {z:It} (hz:s.items[k]? =some z):deadsOf (s.items.take (k+1))=deadsOf (s.items.take k)++(if z.st=4 then[z] else[]):=by
 obtain⟨hk,rfl⟩:=List.getElem?_eq_some_iff.1 hz
 unfold deadsOf
 rw[List.take_succ_eq_append_getElem hk,List.filter_append]
 congr 1
 split<;>simp[*]
theorem DdK.skip {d:PD} {s:SR} {k n:Nat} (h:DdK d s k n) {z:It} (hz:s.items[k]? =some z) (h4:z.st≠4):DdK d s (k+1) n:=by
 have e:=deads_next hz
 rw[if_neg h4,List.append_nil] at e
 exact⟨by rw[e];exact h.n,by rw[e];exact h.ok⟩
theorem DdK.next {d:PD} {s:SR} {k n:Nat} (h:DdK d s k n) {z:It} (hz:s.items[k]? =some z) (h4:z.st=4) (ho:(d.rows.lookup z.id).isSome=true):DdK d s (k+1) (n+1):=by
 have e:=deads_next hz
 rw[if_pos h4] at e
 refine⟨by rw[e,List.length_append,←h.n];rfl,fun y hy=> ?_⟩
 rw[e] at hy
 rcases List.mem_append.1 hy with hy|hy
 · exact h.ok y hy
 · rw[List.mem_singleton.1 hy];exact ho
theorem DdK.stop {d:PD} {s:SR} {k:Nat} {z:It} (hz:s.items[k]? =some z) (h4:z.st=4) (ho:(d.rows.lookup z.id).isSome=false):deadOk d s=false:=by
 unfold deadOk
 have:(deadsOf s.items).all (fun z=>(d.rows.lookup z.id).isSome)=false:=by
  rw[List.all_eq_false]
  exact⟨z,List.mem_filter.2 ⟨List.mem_of_getElem? hz,by simpa using h4⟩,by rw[ho];decide⟩
 rw[this];rfl
theorem DdK.done {d:PD} {s:SR} {n:Nat} (h:DdK d s s.items.length n):deadOk d s=decide (n=s.dead.length):=by
 obtain⟨h1,h2⟩:=h
 rw[List.take_length] at h1 h2
 unfold deadOk
 have:(deadsOf s.items).all (fun z=>(d.rows.lookup z.id).isSome)=true:=List.all_eq_true.2 h2
 rw[this,h1];rfl
theorem DdK.le {d:PD} {s:SR} {k n:Nat} (h:DdK d s k n):n≤s.items.length:=by
 rw[h.n]
 unfold deadsOf
 exact Nat.le_trans (List.length_filter_le _ _) (by rw[List.length_take];omega)
set_option maxHeartbeats 2000000 in
theorem deadRight_any {w:World} {s:SR} {p mp ms:Nat} {d:PD} (hD:DD w p mp ms d) {ao bo a3:Option Addr} {cap cb n3 c3:Nat} (h:Sl w 10 (.slice ao s.items.length cap) s.items.length (s.items.flatMap itE)) (hlen:s.items.length≤100000):
 Calls Tryz.prog 122 #[pv p,srV s (.slice ao s.items.length cap) (.slice bo s.dead.length cb) (.slice a3 n3 c3)] w fun e w'=>e= .returned (.bool (deadOk d s))∧Ext w w':=by
 obtain⟨W1,hW1⟩:∃W,w.alloc (srO s (.slice ao s.items.length cap) (.slice bo s.dead.length cb) (.slice a3 n3 c3))=W:=⟨_,rfl⟩
 have e1:Ext w W1:=by rw[←hW1];exact Ext.alloc _ _
 have b1:W1.heap[w.heap.size]? =some (srO s (.slice ao s.items.length cap) (.slice bo s.dead.length cb) (.slice a3 n3 c3)):=by rw[←hW1];exact heap_alloc_new _ _
 obtain⟨-,-,-,-,-,y5,y6,-⟩:=blk8 b1
 obtain⟨R,hR⟩:∃R,deadOk d s=R:=⟨_,rfl⟩
 rw[hR]
 have HR:=hid hR
 have HS:=hid (h.ext e1)
 have HD:=hid (hD.ext e1)
 have HE:=hid e1
 have HB1:=hid b1
 have HLEN:=hid hlen
 have hz:ao=none→s.items.length=0:=fun e=>by
  obtain⟨h1,-,h3,-⟩:=Sl.cells h
  have:=h3 e
  omega
 clear h e1 b1 y6 hR hD hlen
 go_enter Tryz.func122,Tryz.ntmps122
 go_wp2
 clear hW1 y5
 obtain⟨g,hg⟩:∃g,w.heap.size=g:=⟨_,rfl⟩
 rw[hg] at HB1
 try rw[hg]
 clear hg
 go_loopw [5,11] (fun nv iv wr=>∃(k n:Nat),k≤s.items.length∧iv= .int .i64 (k:Int)∧nv= .int .i64 (n:Int)∧Hid (DdK d s k n)∧Hid (Ext W1 wr)) (fun _ iv _=>s.items.length - (intOf iv).toNat)
 case atStart=>exact⟨0,0,Nat.zero_le _,rfl,rfl,hid (DdK.start _ _),hid (Ext.refl _)⟩
 case round=>
  obtain⟨k,n,hk,rfl,rfl,HK,HX⟩:=hrel
  have HLE:=hid HK.out.le
  by_cases hkm:k<s.items.length
  · have hki:decide ((k:Int)<(s.items.length:Int))=true:=by simp;omega
    obtain⟨a,rfl⟩:∃a,ao=some a:=by
     cases ao with
     |none=>have:=hz rfl;omega
     |some a=>exact⟨a,rfl⟩
    have HKM:=hid hkm
    obtain⟨z,hz2⟩:∃z,s.items[k]? =some z:=⟨_,List.getElem?_eq_getElem hkm⟩
    obtain⟨r0,r1,r2,r3,r4,r5,r6,r7,r8,r9⟩:=row10z (HS.out.ext HX.out) hz2
    have HZ2:=hid hz2
    obtain⟨id,la2,st,ct,du,tk,tu,sg,ps,sz⟩:=z
    dsimp only at r0 r1 r2 r3 r4 r5 r6 r7 r8 r9
    obtain⟨w3,hw3⟩:∃W,wr.alloc (itO ⟨id,la2,st,ct,du,tk,tu,sg,ps,sz⟩)=W:=⟨_,rfl⟩
    have e3:Ext wr w3:=by rw[←hw3];exact Ext.alloc _ _
    have hb3:w3.heap[wr.heap.size]? =some (itO ⟨id,la2,st,ct,du,tk,tu,sg,ps,sz⟩):=by rw[←hw3];exact heap_alloc_new _ _
    obtain⟨d0,d1,d2,d3,d4,d5,d6,d7,d8,d9,-⟩:=blk10 hb3
    have HX3:=hid (HX.out.trans e3)
    have HHS:=hid (dhas_any id (HD.out.ext (HX.out.trans e3)))
    clear hz2 e3 hb3 hkm hk
    by_cases h4:st=4
    · subst h4
      go_wp2_with fail
      refine HHS.out.mono ?_
      rintro e w4 ⟨rfl,rfl⟩
      obtain⟨B,hB⟩:∃B,(d.rows.lookup id).isSome=B:=⟨_,rfl⟩
      have HB:=hid hB
      rw[hB]
      clear hB HHS
      cases B
      case false=>
       go_wp2
       go_returns
       exact⟨by rw[←HR.out,DdK.stop HZ2.out rfl HB.out];rfl,HE.out.trans HX3.out⟩
      case true=>
       go_wp2
       go_roundw
       case rel=>exact⟨k+1,n+1,HKM.out,next_i64L (by have:=HKM.out;have:=HLEN.out;omega),next_i64L (by have:=HLE.out;have:=HLEN.out;omega),hid (HK.out.next HZ2.out rfl HB.out),HX3⟩
       case measure=>exact next_lessL (by have:=HKM.out;have:=HLEN.out;omega) HKM.out
    · have h4b:((st:Int) !=4)=true:=by simpa using h4
      have H4:=hid h4
      clear h4 HHS
      go_wp2
      go_roundw
      case rel=>exact⟨k+1,n,HKM.out,next_i64L (by have:=HKM.out;have:=HLEN.out;omega),rfl,hid (HK.out.skip HZ2.out H4.out),HX3⟩
      case measure=>exact next_lessL (by have:=HKM.out;have:=HLEN.out;omega) HKM.out
  · obtain rfl:k=s.items.length:=by omega
    have hki:decide ((s.items.length:Int)<(s.items.length:Int))=false:=by simp
    have HDN:=hid HK.out.done
    obtain⟨-,-,-,-,-,-,y6,-⟩:=blk8 (HX.out.obj HB1.out)
    have h1:((n:Int)==(s.dead.length:Int))=decide (n=s.dead.length):=by rw[Bool.eq_iff_iff];simp;omega
    obtain⟨q1,hq1⟩:∃b,decide (n=s.dead.length)=b:=⟨_,rfl⟩
    rw[hq1] at h1 HDN
    clear hq1 hk hkm HK
    go_wp2
    go_returns
    exact⟨by rw[←HR.out,HDN.out,←h1];rfl,HE.out.trans HX.out⟩
set_option maxHeartbeats 2000000 in
theorem stateRight_any {w:World} {s:SR} (la pa de:Int) {ao bo co:Option Addr} {cap cb cc:Nat} (hi:Sl w 10 (.slice ao s.items.length cap) s.items.length (s.items.flatMap itE)) (hd:Sl w 2 (.slice bo s.dead.length cb) s.dead.length (s.dead.flatMap encR))
 (hc:Sl w 2 (.slice co s.curs.length cc) s.curs.length (s.curs.flatMap encC)) (ht:TB w) (hlr:s.dead.length≤99999) (hln:∀z∈s.curs,z.1.length≤100000):
 Calls Tryz.prog 70 #[ccV la pa de,srV s (.slice ao s.items.length cap) (.slice bo s.dead.length cb) (.slice co s.curs.length cc)] w fun e w'=>e= .returned (.bool (stateOk la pa de s))∧Ext w w':=by
 obtain⟨W1,hW1⟩:∃W,w.alloc (ccO la pa de)=W:=⟨_,rfl⟩
 obtain⟨W2,hW2⟩:∃W,W1.alloc (srO s (.slice ao s.items.length cap) (.slice bo s.dead.length cb) (.slice co s.curs.length cc))=W:=⟨_,rfl⟩
 have e1:Ext w W1:=by rw[←hW1];exact Ext.alloc _ _
 have e2:Ext W1 W2:=by rw[←hW2];exact Ext.alloc _ _
 have b1:W1.heap[w.heap.size]? =some (ccO la pa de):=by rw[←hW1];exact heap_alloc_new _ _
 have b2:W2.heap[W1.heap.size]? =some (srO s (.slice ao s.items.length cap) (.slice bo s.dead.length cb) (.slice co s.curs.length cc)):=by rw[←hW2];exact heap_alloc_new _ _
 have HE:=hid (e1.trans e2)
 have HB1:=hid (e2.obj b1)
 have HB2:=hid b2
 have HI:=hid (hi.ext (e1.trans e2))
 have HT:=hid (TBx ht (e1.trans e2))
 have HF:=hid (dfrom_any s.deaths s.dead s.curs (hd.ext (e1.trans e2)) (hc.ext (e1.trans e2)) (TBx ht (e1.trans e2)) hlr hln)
 obtain⟨R,hR⟩:∃R,stateOk la pa de s=R:=⟨_,rfl⟩
 have HR:=hid hR
 rw[hR]
 obtain⟨x0,x1,x2,-⟩:=lk3 (e2.obj b1)
 obtain⟨y0,y1,y2,y3,y4,y5,y6,y7,-⟩:=blk8 b2
 obtain⟨q1,hq1⟩:∃b,decide ((4611686018427387904:Int)<max (max (s.leases.toNat:Int) (s.turns.toNat:Int)) (s.deaths.toNat:Int))=b:=⟨_,rfl⟩
 obtain⟨q2,hq2⟩:∃b,decide ((200:Int)<(s.items.length:Int))=b:=⟨_,rfl⟩
 have HCO:Hid (countOk s=(!q1 && !q2)):=hid (by
  unfold countOk
  rw[←hq1,←hq2,Bool.eq_iff_iff]
  simp only[decide_eq_true_eq,Bool.and_eq_true,Bool.not_eq_true',decide_eq_false_iff_not]
  omega)
 have HQ1:=hid hq1
 have HQ2:=hid hq2
 clear e1 e2 b1 b2 hi hd hc ht hlr hln hR
 have hmx:∀(ts:Array TypeId) (t:TypeId) (w:World),(Builtin.max_ ts t #[vU s.leases,vU s.turns,vU s.deaths]).run Tryz.prog w= .ok (.int .u64 (max (max (s.leases.toNat:Int) (s.turns.toNat:Int)) (s.deaths.toNat:Int))) w:=fun ts t w=>by
  rw[run_max_int3]
  congr 2
  split<;>split<;>omega
 obtain⟨MX,hMX⟩:∃m,max (max (s.leases.toNat:Int) (s.turns.toNat:Int)) (s.deaths.toNat:Int)=m:=⟨_,rfl⟩
 rw[hMX] at hmx hq1
 clear hMX
 have HRR:Hid (stateOk la pa de s=((!q1 && !q2) && restOk la pa de s)):=hid (by unfold stateOk;rw[HCO.out])
 clear HCO HQ1 HQ2
 go_enter Tryz.func70,Tryz.ntmps70
 cases q1
 case true=>
  go_wp2
  go_returns
  exact⟨by rw[←HR.out,HRR.out];rfl,HE.out⟩
 cases q2
 case true=>
  go_wp2
  go_returns
  exact⟨by rw[←HR.out,HRR.out];rfl,HE.out⟩
 have HL:Hid (s.items.length≤200):=hid (by simp at hq2;omega)
 have HRO:Hid (restOk la pa de s=R):=hid (by rw[←HR.out,HRR.out];simp)
 have hq3:decide (200<s.items.length)=false:=by simp at hq2⊢;omega
 clear HRR HR
 go_wp2_with fail
 clear hmx
 refine HF.out.mono ?_
 rintro e w3 ⟨hf,hx3⟩
 have HX3:=hid hx3
 have HI3:=hid (HI.out.ext hx3)
 obtain⟨x0,x1,x2,-⟩:=lk3 (hx3.obj HB1.out)
 obtain⟨y0,y1,y2,y3,y4,y5,y6,y7,-⟩:=blk8 (hx3.obj HB2.out)
 have HB1:=hid (hx3.obj HB1.out)
 have HB2:=hid (hx3.obj HB2.out)
 have HE3:=hid (HE.out.trans hx3)
 obtain⟨c,hc⟩:∃g,w.heap.size=g:=⟨_,rfl⟩
 obtain⟨g,hg⟩:∃g,W1.heap.size=g:=⟨_,rfl⟩
 rw[hc] at x0 x1 x2 HB1
 rw[hg] at y0 y1 y2 y3 y4 y5 y6 y7 HB2
 try rw[hc]
 try rw[hg]
 clear hx3 hW1 hW2 hc hg HF
 cases hfr:fromD s.deaths s.dead s.curs with
 |none=>
  rw[hfr] at hf
  subst hf
  have HN:Hid (R=false):=hid (by rw[←HRO.out];unfold restOk;rw[hfr])
  clear hfr
  go_wp2
  go_returns
  exact⟨by rw[HN.out];rfl,HE3.out⟩
 |some d=>
  rw[hfr] at hf
  obtain⟨dp,dm,ds,rfl,hD,-⟩:=hf
  have HD:=hid hD
  have HN:Hid (R=(idsL s.next 0 s.items && (itemsOk la pa de s && deadOk d s))):=hid (by rw[←HRO.out];unfold restOk;rw[hfr])
  clear hfr hD
  go_wp2_with fail
  refine(idsRight_any HI3.out (by have:=HL.out;omega)).mono ?_
  rintro e w4 ⟨rfl,hx4⟩
  have HI4:=hid (HI3.out.ext hx4)
  have HB1:=hid (hx4.obj HB1.out)
  have HB2:=hid (hx4.obj HB2.out)
  have HD4:=hid (HD.out.ext hx4)
  have HE4:=hid (HE3.out.trans hx4)
  obtain⟨x0,x1,x2,-⟩:=lk3 HB1.out
  obtain⟨y0,y1,y2,y3,y4,y5,y6,y7,-⟩:=blk8 HB2.out
  obtain⟨v1,hv1⟩:∃v,idsL s.next 0 s.items=v:=⟨_,rfl⟩
  rw[hv1] at HN⊢
  clear hx4 hv1
  cases v1
  case false=>
   go_wp2
   go_returns
   exact⟨by rw[HN.out];rfl,HE4.out⟩
  case true=>
   go_wp2_with fail
   refine(itemsRight_any la pa de HI4.out (by have:=HL.out;omega)).mono ?_
   rintro e w5 ⟨rfl,hx5⟩
   have HI5:=hid (HI4.out.ext hx5)
   have HB2:=hid (hx5.obj HB2.out)
   have HD5:=hid (HD4.out.ext hx5)
   have HE5:=hid (HE4.out.trans hx5)
   clear x0 x1 x2 y0 y1 y2 y3 y4 y5 y6 y7
   obtain⟨y0,y1,y2,y3,y4,y5,y6,y7,-⟩:=blk8 HB2.out
   obtain⟨v1,hv1⟩:∃v,itemsOk la pa de s=v:=⟨_,rfl⟩
   rw[hv1] at HN⊢
   clear hx5 hv1
   cases v1
   case false=>
    go_wp2
    go_returns
    exact⟨by rw[HN.out];rfl,HE5.out⟩
   case true=>
    go_wp2_with fail
    refine(deadRight_any HD5.out HI5.out (by have:=HL.out;omega)).mono ?_
    rintro e w6 ⟨rfl,hx6⟩
    have HE6:=hid (HE5.out.trans hx6)
    clear hx6
    go_wp2
    go_returns
    exact⟨by rw[HN.out];rfl,HE6.out⟩
end Go.Proofs.YtcfgafododiioaaGreatDoor
