/- Texts of a claim, side by side. -/
import Derived.Test.YtcfgafododiioaaGreatDoorC18
import Derived.Test.YtcfgafododiioaaGreatDoorC14
set_option linter.unusedSimpArgs false
set_option linter.unusedVariables false
namespace Go.Proofs.YtcfgafododiioaaGreatDoor
open Go Go.RowKit Go.Tum Go.ChangeMaps Go.Sort Go.Tum.Rn
open Go.ParB (upd Lof)
open Go.ParE (putS slotsR slots Closed)
theorem infoCur:(Tryz.prog.info? 123).map (fun i=>(i.zero,i.size,i.bytes))=some (some (.agg #[.string ⟨#[]⟩,.int .u64 0]),2,24):=by kernel_rfl
set_option maxRecDepth 100000 in
set_option maxHeartbeats 2000000 in
theorem pdqC_any {B:Nat} {w:World} (g n cap:Nat) (lim:Int) (l:List Cur) (h:RowC w B g n cap l) (hn:l.length=n) (hn12:n≤12) (hlen:∀z∈l,z.1.length≤1048576) (ht:TB w) (hg:2≤g):
 Calls Tryz.prog 159 #[.slice (some ⟨g,0,none⟩) n cap,.int .i64 0,.int .i64 (n:Int),.int .i64 lim,.func (.func 118) #[] #[]] w fun e w'=>
  (∃u,e= .returned u)∧RowC w' B g n cap (insertionSort ltC l.toArray 0 n).toList∧Fr [g] w w':=by
 have HC:=hid (insC_any g n cap l h hn hn12 hlen ht hg)
 clear h hn hlen ht hg
 have e12:decide ((n:Int)≤12)=true:=by simp;omega
 go_enter Tryz.func159,Tryz.ntmps159
 go_wp2
 go_loopw [1,2] (fun a b wr=>a= .int .i64 0∧b= .int .i64 (n:Int)∧wr=w) (fun _ _ _=>0)
 case atStart=>exact⟨rfl,rfl,rfl⟩
 case round=>
  obtain⟨rfl,rfl,rfl⟩:=hrel
  go_wp2_with fail
  refine HC.out.mono ?_
  rintro e w1 ⟨⟨u,rfl⟩,hr,hf⟩
  have HR:=hid hr
  have HF:=hid hf
  clear hr hf
  go_wp2
  go_returns
  exact⟨⟨_,rfl⟩,HR.out,HF.out⟩
set_option maxHeartbeats 1000000 in
theorem sortC_any {B:Nat} {w:World} {n:Nat} {v:Value} (l:List Cur) (h:w.ownsRow B 123 2 v n (l.flatMap encC)) (hn:l.length=n) (hn12:n≤12) (hlen:∀z∈l,z.1.length≤1048576) (ht:TB w) (hB:2≤B):
 Calls Tryz.prog 117 #[v,.func (.func 118) #[] #[]] w fun e w'=>(∃u,e= .returned u)∧w'.ownsRow B 123 2 v n ((insertionSort ltC l.toArray 0 n).toList.flatMap encC)∧Fr (oB v) w w':=by
 rcases h.2 with ⟨hv,h0⟩|⟨g,cap,cur,hv,hb,hgg,h1,h2,h3,h4⟩
 · have hl0:l=[]:=List.length_eq_zero_iff.1 (by omega)
   subst hv hl0 h0
   refine(AnyF.slices_SortFunc_none Tryz.sortCur none 0 _ w).mono ?_
   rintro e w' ⟨rfl,rfl⟩
   exact⟨⟨_,rfl⟩,by simpa[insertionSort,insOuter] using h,Fr.refl _ _⟩
 · subst hv
   have hc:=fun lim=>pdqC_any g n cap lim l h hn hn12 hlen ht (by omega)
   have HC:=hid hc
   have hbl:∀w2,Calls Tryz.prog 113 #[.int .u64 (n:Int)] w2 fun e w3=>(∃k:Int,e= .returned (.int .i64 k))∧w3=w2:=fun w2=>(Tryz.bits_Len n w2 (by omega) (by omega)).mono fun _ _ hh=>⟨⟨_,hh.1⟩,hh.2⟩
   have HBL:=hid hbl
   clear h hc hn hlen ht hB hb hgg h1 h2 h3 h4 hbl
   go_enter Tryz.func117,Tryz.ntmps117
   go_wp2_with fail
   refine(HBL.out w).mono ?_
   rintro e w1 ⟨⟨k,rfl⟩,rfl⟩
   go_wp2_with fail
   refine(HC.out k).mono ?_
   rintro e w2 ⟨⟨u,rfl⟩,hr,hf⟩
   have HR:=hid hr
   have HF:=hid hf
   clear hr hf
   go_wp2
   go_returns
   exact⟨⟨_,rfl⟩,HR.out,by simpa[oB,Value.ownBlock] using HF.out⟩
structure WD (s:PD):Prop where
 rs:s.rows.Pairwise fun x y=>x.2<y.2
 rl:∀z∈s.rows,z.2≤s.last∧0<z.2
 sr:∀z∈s.seen,rightL z.1=true∧foldL z.1=z.1∧z.2≤s.last
 ss:s.seen.Pairwise fun x y=>ltC x y=true
 s8:s.seen.length≤8
theorem swoC:SWO ltC where
 irrefl x:=lessR_irrefl _
 trans x y z h1 h2:=lessR_trans _ _ _ h1 h2
 ntrans x y z h1 h2:=by
  unfold ltC at*
  cases h:lessR (runes x.1) (runes z.1) with
  |false=>rfl
  |true=>
   exfalso
   have hyx:runes x.1=runes y.1∨lessR (runes y.1) (runes x.1)=true:=by
    by_cases e:runes x.1=runes y.1
    · exact .inl e
    · exact .inr (lessR_total _ _ e h1)
   have hzy:runes y.1=runes z.1∨lessR (runes z.1) (runes y.1)=true:=by
    by_cases e:runes y.1=runes z.1
    · exact .inl e
    · exact .inr (lessR_total _ _ e h2)
   rcases hyx with e1|e1
   · rw[e1] at h;rw[h] at h2;cases h2
   · rcases hzy with e2|e2
     · rw[←e2] at h;rw[h] at h1;cases h1
     · have h3:=lessR_trans _ _ _ e2 e1
       have h4:=lessR_asymm _ _ h
       rw[h3] at h4;cases h4
theorem ins_perm (l:List Cur):(insertionSort ltC l.toArray 0 l.length).toList.Perm l∧(insertionSort ltC l.toArray 0 l.length).toList.Pairwise fun x y=>ltC y x=false:=by
 obtain⟨⟨p1,p2,p3⟩,p4⟩:=insertionSort_holds swoC l.toArray 0 l.length (Nat.zero_le _) (by simp)
 have hsz:(insertionSort ltC l.toArray 0 l.length).size=l.length:=by simpa using p1
 obtain⟨D,hD⟩:∃D,insertionSort ltC l.toArray 0 l.length=D:=⟨_,rfl⟩
 rw[hD] at p3 p4 hsz⊢
 constructor
 · have e1:D.extract 0 l.length=D:=by rw[←hsz];simp
   have e2:l.toArray.extract 0 l.length=l.toArray:=by simp
   rw[e1,e2] at p3
   exact p3
 · rw[List.pairwise_iff_getElem]
   intro i j hi hj hij
   have:=p4 i j (Nat.zero_le _) hij (by simpa[hsz] using hj)
   rw[getElem!_pos D i (by simpa using hi),getElem!_pos D j (by simpa using hj)] at this
   simpa using this
theorem ins_seen {s:PD} (hw:WD s) (hn:(s.seen.map Prod.fst).Nodup) {L:List Cur} (hp:L.Perm s.seen):(insertionSort ltC L.toArray 0 L.length).toList=s.seen:=by
 obtain⟨h1,h2⟩:=ins_perm L
 refine List.Perm.eq_of_pairwise (le:=fun x y=>ltC y x=false) (fun a b ha hb k1 k2=> ?_) h2 (hw.ss.imp fun{a b} h=>lessR_asymm _ _ h) (h1.trans hp)
 have ha':a∈s.seen:=(h1.trans hp).mem_iff.1 ha
 have hr:runes a.1=runes b.1:=by
  by_cases e:runes a.1=runes b.1
  · exact e
  · have:=lessR_total _ _ e k2
    unfold ltC at k1
    rw[this] at k1;cases k1
 have hname:=right_inj (hw.sr a ha').1 (hw.sr b hb).1 hr
 have e1:=nodup_lku hn ha'
 have e2:=nodup_lku hn hb
 rw[hname] at e1
 rw[e1] at e2
 exact Prod.ext hname (by simpa using e2)
theorem enc1_le (r:Nat) (hr:okR r):(Lib.encodeRune (r:Int)).length≤4:=by
 unfold Lib.encodeRune
 rw[List.length_map]
 exact(Lib.encodeRuneZ_length _).2
theorem enc_le:∀(l:List Nat),(∀r∈l,okR r)→(enc l).length≤4*l.length
 |[],_=>by simp[enc]
 |r::l,h=>by
  rw[enc_cons,List.length_append,List.length_cons]
  have:=enc1_le r (h r (by simp))
  have:=enc_le l (fun q hq=>h q (by simp[hq]))
  omega
theorem right_len {l:List UInt8} (h:rightL l=true):l.length≤32:=by
 have h1:=enc_le (runes l) (runes_ok l)
 rw[right_enc h] at h1
 have h2:(runes l).length≤8:=by
  unfold rightL at h
  simp at h
  exact h.2.1
 omega
theorem TB.two {w:World} (h:TB w):2≤w.heap.size:=by
 have:=World.block_lt_of_cell? w _ (h.2 0 (by decide)).1
 have:1<w.heap.size:=by simpa using this
 omega
theorem cur_one (w:World) (e:Nat) (z:Cur):Sl (w.alloc (.cells #[vN z.1,vU z.2] e (0,0))) 2 (.slice (some ⟨w.heap.size,0,none⟩) 1 1) 1 (encC z):=by
 have hblk:=heap_alloc_new w (.cells #[vN z.1,vU z.2] e (0,0))
 refine⟨rfl,some ⟨w.heap.size,0,none⟩,1,rfl,Nat.le_refl _,by simp[maxLen],(fun h=>by cases h),fun a ha j u hu=> ?_⟩
 cases ha
 have e1:(⟨w.heap.size,0,none⟩:Addr).add j=⟨w.heap.size,j,none⟩:=by unfold Addr.add;split<;>simp_all
 rw[e1,cell_of_row _ _ _ _ _ _ hblk]
 simpa using hu
def CurP (w:World) (l:List Cur) (e:Ending) (w':World):Prop:=(∃v,e= .returned v∧w'.ownsRow w.heap.size 123 2 v l.length (l.flatMap encC))∧Ext w w'
set_option maxRecDepth 100000 in
set_option maxHeartbeats 2000000 in
theorem dcursors_any {w:World} {p mp ms:Nat} {s:PD} (h:DD w p mp ms s) (hw:WD s) (ht:TB w):
 Calls Tryz.prog 67 #[pv p] w fun e w'=>CurP w s.seen e w':=by
 obtain⟨-,-,c2,-⟩:=lk3D h.hd
 obtain⟨l,hl,pl⟩:=h.sm
 have HM:=hid hl
 have HPL:=hid pl
 have HND:=hid (perm_nodup pl h.ns)
 have HNS:=hid h.ns
 have HW:=hid hw
 have HT:=hid ht
 clear h hl pl hw ht
 go_enter Tryz.func67,Tryz.ntmps67
 go_wp2_with (at_range;refine wpList_range_PMN _ Tryz.underlying184 rfl _ rfl ms l rfl HM.out HND.out ?_;intro w0 hrg0 hE0;have HRG:=hid hrg0;have HE0:=hid hE0;clear hrg0 hE0)
 obtain⟨r,hr⟩:∃r,w.heap.size=r:=⟨_,rfl⟩
 rw[hr] at HRG⊢
 have HRr:=hid hr
 clear hr
 go_frame
 go_loopw [3] (fun v wr=>∃(rem:List Cur) (cnt:Nat) (ss:List Cur) (ao:Option Addr) (n cap:Nat),v= .slice ao n cap∧Hid (n=ss.length)∧Hid (wr.ownsRow w.heap.size 123 2 (.slice ao n cap) n (ss.flatMap encC))∧Hid (RNGN wr ms r l rem cnt)∧Hid ((ss++rem).Perm l)∧Hid (Ext w wr)) (fun _ wr=>wr.rangeLeft ms r)
 case atStart=>exact⟨l,_,[],none,0,0,rfl,hid rfl,hid (World.ownsRow_nil _ _ _ _),HRG,hid (List.Perm.refl _),HE0⟩
 case round=>
  obtain⟨rem,cnt,ss,ao,n,cap,rfl,HN,HO,HRG,HP,HE⟩:=hrel
  have HSL:Hid (ss.length+rem.length≤8):=hid (by have h1:=HP.out.length_eq;rw[List.length_append] at h1;have h3:=HPL.out.length_eq;have:=HW.out.s8;omega)
  go_wp2_with (first
   |(at_next;refine wpList_next_RNGN _ rfl _ rfl ms r cnt l rem rfl HRG.out ?_ ?_))
  · intro h0
    subst h0
    have hperm:ss.Perm s.seen:=by have:=HP.out;rw[List.append_nil] at this;exact this.trans HPL.out
    have HSS:Hid ((insertionSort ltC ss.toArray 0 n).toList=s.seen):=hid (by rw[HN.out];exact ins_seen HW.out HNS.out hperm)
    have HLE:Hid (n=s.seen.length):=hid (by rw[HN.out];exact hperm.length_eq)
    have HC:=hid (sortC_any (w:=wr) ss HO.out HN.out.symm (by have:=HSL.out;rw[HN.out];omega) (fun z hz=>by have:=right_len (HW.out.sr z (hperm.mem_iff.1 hz)).1;omega) (TBx HT.out HE.out) HT.out.two)
    clear hperm
    go_wp2_with fail
    refine HC.out.mono ?_
    rintro e w9 ⟨⟨u,rfl⟩,ho,hf⟩
    have HO9:Hid (w9.ownsRow w.heap.size 123 2 (.slice ao n cap) s.seen.length (s.seen.flatMap encC)):=hid (by rw[HSS.out] at ho;rw[←HLE.out];exact ho)
    have HE9:Hid (Ext w w9):=hid (Below.trans HE.out (hf.below (row_lo HO.out) HE.out.size))
    clear ho hf
    go_wp2
    go_ret
    exact⟨⟨_,rfl,HO9.out⟩,HE9.out⟩
  · intro x b w' cnt' k1 k2 k3 k4 k5 k6 k7
    have hrit:∀q∈oB (.slice ao n cap),q∉[r]:=fun q hq hq2=>by
     obtain rfl:q=r:=by simpa using hq2
     obtain⟨cs,hc⟩:=row_kind HO.out q hq
     obtain⟨o,ho,hn⟩:=HRG.out.blocks.2
     rw[ho] at hc;cases hc;exact hn _ _ rfl
    have HO2:=hid (ownsRow_fr HO.out k6 hrit)
    have HE2:Hid (Ext w w'):=hid (Below.trans HE.out (k6.below (by simp;have:=HRr.out;omega) HE.out.size))
    have HRG2:=hid k4
    have HK6:Hid (cnt'<wr.rangeLeft ms r):=hid (by rw[HRG.out.left];exact k5)
    have HP2:Hid (((ss++[(x,b)])++noK rem x).Perm l):=hid (by
     have h2:=(List.Perm.append_left ss (noK_perm k1 HRG.out.nd)).trans HP.out
     simpa using h2)
    have hnb:n≤8:=by have:=HSL.out;rw[HN.out];omega
    have HSL1:=hid (cur_one w' 123 (x,b))
    clear k1 k2 k3 k4 k5 k6 hrit
    go_wp2_with (at_builtin;refine wpList_append_slN rfl (.tmp 16) (.tmp 20) 61 rfl w.heap.size 123 Tryz.underlying61 infoCur rfl (by decide) rfl ((Ext.alloc w' _).owns HO2.out) rfl HSL1.out (by intro y hy;simp at hy;rcases hy with rfl|rfl<;>rfl) (n+1) (by omega) (by simp[maxLen];omega) (by omega) (Nat.le_trans HE2.out.size (by simp)) ?_;intro ao3 cap3 w3 hO3 hg3 hb3;have HO3:=hid hO3;have HE3:Hid (Ext w w3):=hid (Below.trans (HE2.out.trans (Ext.alloc _ _)) hb3);have HF3:=hid hg3;clear hO3 hg3 hb3)
    have HRG6:Hid (RNGN w3 ms r l (noK rem x) cnt'):=hid (by
     have h1:=HRG2.out.ext (Ext.alloc w' (.cells #[vN x,vU b] 123 (0,0)))
     refine h1.kept HF3.out ?_ ?_
     · intro hq
       obtain⟨cs,hc⟩:=row_kind ((Ext.alloc w' (.cells #[vN x,vU b] 123 (0,0))).owns HO2.out) _ hq
       obtain⟨o,ho,hn⟩:=h1.blocks.1
       rw[ho] at hc;cases hc;exact hn _ _ rfl
     · intro hq
       obtain⟨cs,hc⟩:=row_kind ((Ext.alloc w' (.cells #[vN x,vU b] 123 (0,0))).owns HO2.out) _ hq
       obtain⟨o,ho,hn⟩:=h1.blocks.2
       rw[ho] at hc;cases hc;exact hn _ _ rfl)
    go_roundw
    case rel=>exact⟨noK rem x,cnt',ss++[(x,b)],ao3,n+1,cap3,rfl,hid (by rw[List.length_append,HN.out];rfl),hid (by rw[List.flatMap_append];simpa using HO3.out),HRG6,HP2,HE3⟩
    case measure=>rw[HRG6.out.left];exact HK6.out
end Go.Proofs.YtcfgafododiioaaGreatDoor
namespace Go.Proofs.YtcfgafododiioaaGreatDoor
open Go Go.RowKit Go.Tum Go.ChangeMaps Go.Sort Go.Tum.Rn
open Go.ParB (upd Lof)
open Go.ParE (putS slotsR slots Closed)
theorem enc_lenD:∀(l:List Nat),(enc l).length≤4*l.length
 |[]=>by simp[enc]
 |r::l=>by
  have h1:=enc_lenD l
  have h2:=(Lib.encodeRuneZ_length (r:Int)).2
  rw[enc_cons,List.length_append,List.length_cons]
  have h3:(Lib.encodeRune (r:Int)).length=(Lib.encodeRuneZ (r:Int)).length:=by simp[Lib.encodeRune]
  omega
theorem fold_lenD (l:List UInt8):(foldL l).length≤4*l.length:=by
 unfold foldL
 have h1:=enc_lenD ((runes l).map foldN)
 have h2:=runes_len l
 rw[List.length_map] at h1
 omega
def lastP (pl:UInt64) (l:List (UInt64×UInt64)):UInt64:=match l.getLast? with
 |none=>pl
 |some z=>z.2
def insN (l:List Cur) (c:Cur):List Cur:=l.filter (fun z=>ltC z c)++[c]++l.filter (fun z=>ltC c z)
def tookR (s:PD) (x:Nm) (n:Int):List (UInt64×UInt64):=(s.rows.filter fun z=>decide ((s.seen.lookup x).getD 0<z.2)).take n.toNat
def nextD (s:PD) (name:Nm) (n:Int):List UInt64×Int×PD:=
 if decide (n<1)|| !rightL (foldL name) then([],1,s)
 else if(s.seen.lookup (foldL name)).isNone && decide (8≤s.seen.length) then([],4,s)
 else((tookR s (foldL name) n).map Prod.fst,0,{s with seen:=insN s.seen (foldL name,lastP ((s.seen.lookup (foldL name)).getD 0) (tookR s (foldL name) n))})
theorem lastP_le {pl b:UInt64} {l:List (UInt64×UInt64)} (h:pl≤b) (hl:∀z∈l,z.2≤b):lastP pl l≤b:=by
 unfold lastP
 cases hg:l.getLast? with
 |none=>exact h
 |some z=>exact hl z (List.mem_of_getLast? hg)
theorem three {α:Type} {p q r:α→Bool} {l:List α} (h:∀z∈l,(p z=true∧q z=false∧r z=true)∨(p z=false∧q z=true∧r z=true)∨(p z=false∧q z=false∧r z=false)):
 (l.filter p++l.filter q).Perm (l.filter r):=by
 induction l with
 |nil=>simp
 |cons a l ih=>
  have ih':=ih fun z hz=>h z (by simp[hz])
  rcases h a (by simp) with ⟨h1,h2,h3⟩|⟨h1,h2,h3⟩|⟨h1,h2,h3⟩
  · rw[List.filter_cons_of_pos h1,List.filter_cons_of_neg (by simp[h2]),List.filter_cons_of_pos h3]
    exact List.Perm.cons _ ih'
  · rw[List.filter_cons_of_neg (by simp[h1]),List.filter_cons_of_pos h2,List.filter_cons_of_pos h3]
    exact List.perm_middle.trans (List.Perm.cons _ ih')
  · rw[List.filter_cons_of_neg (by simp[h1]),List.filter_cons_of_neg (by simp[h2]),List.filter_cons_of_neg (by simp[h3])]
    exact ih'
theorem ltC_cases {x y:Cur} (hx:rightL x.1=true) (hy:rightL y.1=true):(ltC x y=true∧ltC y x=false∧x.1≠y.1)∨(ltC x y=false∧ltC y x=true∧x.1≠y.1)∨(ltC x y=false∧ltC y x=false∧x.1=y.1):=by
 unfold ltC
 by_cases e:x.1=y.1
 · rw[e,lessR_irrefl];exact .inr (.inr ⟨rfl,rfl,rfl⟩)
 · have hr:runes x.1≠runes y.1:=fun h=>e (right_inj hx hy h)
   cases h1:lessR (runes x.1) (runes y.1) with
   |true=>exact .inl ⟨rfl,lessR_asymm _ _ h1,e⟩
   |false=>exact .inr (.inl ⟨rfl,lessR_total _ _ hr h1,e⟩)
theorem insN_perm {l:List Cur} (hl:∀z∈l,rightL z.1=true) {c:Cur} (hc:rightL c.1=true):(insN l c).Perm (c::noK l c.1):=by
 unfold insN
 have h:(l.filter (fun z=>ltC z c)++l.filter (fun z=>ltC c z)).Perm (noK l c.1):=by
  refine three fun z hz=> ?_
  rcases ltC_cases (hl z hz) hc with ⟨h1,h2,h3⟩|⟨h1,h2,h3⟩|⟨h1,h2,h3⟩
  · exact .inl ⟨h1,h2,by simpa using h3⟩
  · exact .inr (.inl ⟨h1,h2,by simpa using h3⟩)
  · exact .inr (.inr ⟨h1,h2,by simpa using h3⟩)
 rw[List.append_assoc]
 exact List.perm_middle.trans (List.Perm.cons _ h)
theorem insN_sorted {l:List Cur} (hl:l.Pairwise fun x y=>ltC x y=true) (c:Cur):(insN l c).Pairwise fun x y=>ltC x y=true:=by
 unfold insN
 rw[List.append_assoc,List.pairwise_append]
 refine⟨hl.sublist List.filter_sublist,?_,?_⟩
 · rw[List.singleton_append,List.pairwise_cons]
   exact⟨fun z hz=>(List.mem_filter.1 hz).2,hl.sublist List.filter_sublist⟩
 · intro a ha b hb
   have h1:=(List.mem_filter.1 ha).2
   rcases List.mem_append.1 hb with hb|hb
   · rw[List.mem_singleton.1 hb];exact h1
   · exact lessR_trans _ _ _ h1 (List.mem_filter.1 hb).2
theorem noK_len_some {l:List Cur} {x:Nm} (h:(l.lookup x).isNone=false):(noK l x).length+1≤l.length:=by
 induction l with
 |nil=>simp at h
 |cons a r ih=>
  obtain⟨y,b⟩:=a
  rw[lku_cons] at h
  by_cases e:x=y
  · subst e
    have:=noK_len r x
    have e2:noK ((x,b)::r) x=noK r x:=by simp[noK]
    rw[e2,List.length_cons];omega
  · rw[if_neg e] at h
    have:=ih h
    have e2:noK ((y,b)::r) x=(y,b)::noK r x:=by simp[noK,Ne.symm e]
    rw[e2,List.length_cons,List.length_cons];omega
section
variable {s : PD}
theorem WD.sorted (h:WD s) (pr:UInt64×UInt64→Bool):sortP (s.rows.filter pr)=s.rows.filter pr:=
 sortP_of (List.Perm.refl _) ((h.rs.sublist List.filter_sublist).imp fun{a b} hab=>by simp[ltP,hab])
theorem WD.all (h:WD s):sortP s.rows=s.rows:=sortP_of (List.Perm.refl _) (h.rs.imp fun{a b} hab=>by simp[ltP,hab])
theorem WD.drop (h:WD s) (x:UInt64):WD (dropD s x).2:=
 ⟨h.rs.sublist List.filter_sublist,fun z hz=>h.rl z (List.mem_filter.1 hz).1,h.sr,h.ss,h.s8⟩
theorem WD.add (h:WD s) (x:UInt64) (hl:s.last.toNat+1<18446744073709551616):WD (addD s x).2:=by
 unfold addD
 split
 · exact h
 · have e1:(s.last+1).toNat=s.last.toNat+1:=by rw[UInt64.toNat_add];simp;omega
   refine⟨?_,?_,?_,h.ss,h.s8⟩
   · rw[List.pairwise_append]
     refine⟨h.rs,by simp,fun a ha b hb=> ?_⟩
     rw[List.mem_singleton.1 hb]
     have:=(h.rl a ha).1
     rw[UInt64.le_iff_toNat_le] at this
     rw[UInt64.lt_iff_toNat_lt]
     show a.2.toNat<(s.last+1).toNat
     omega
   · intro z hz
     show z.2≤s.last+1∧0<z.2
     rw[UInt64.le_iff_toNat_le,UInt64.lt_iff_toNat_lt,e1]
     rcases List.mem_append.1 hz with hz|hz
     · have h2:=h.rl z hz
       rw[UInt64.le_iff_toNat_le,UInt64.lt_iff_toNat_lt] at h2
       exact⟨by omega,h2.2⟩
     · rw[List.mem_singleton.1 hz]
       show(s.last+1).toNat≤_∧_<(s.last+1).toNat
       rw[e1]
       exact⟨Nat.le_refl _,by simp⟩
   · intro z hz
     obtain⟨a1,a2,a3⟩:=h.sr z hz
     refine⟨a1,a2,?_⟩
     show z.2≤s.last+1
     rw[UInt64.le_iff_toNat_le] at a3⊢
     omega
theorem seen_le (h:WD s) (x:Nm):(s.seen.lookup x).getD 0≤s.last:=by
 cases hx:s.seen.lookup x with
 |none=>rw[UInt64.le_iff_toNat_le];simp
 |some b=>exact(h.sr _ (lku_mem hx)).2.2
theorem WD.next (h:WD s) (name:Nm) (n:Int):WD (nextD s name n).2.2:=by
 unfold nextD
 split
 · exact h
 · rename_i h1
   split
   · exact h
   · rename_i h2
     have hr:rightL (foldL name)=true:=by
      cases hq:rightL (foldL name) with
      |true=>rfl
      |false=>rw[hq] at h1;simp at h1
     have hp:=insN_perm (fun z hz=>(h.sr z hz).1) (c:=(foldL name,lastP ((s.seen.lookup (foldL name)).getD 0) (tookR s (foldL name) n))) hr
     refine⟨h.rs,h.rl,fun z hz=> ?_,insN_sorted h.ss _,?_⟩
     · rcases List.mem_cons.1 (hp.mem_iff.1 hz) with e|e
       · rw[e]
         exact⟨hr,fold_fold name,lastP_le (seen_le h _) fun y hy=>(h.rl y (List.mem_filter.1 (List.mem_of_mem_take hy)).1).1⟩
       · exact h.sr z (List.mem_filter.1 e).1
     · have:=hp.length_eq
       show(insN s.seen _).length≤8
       rw[this,List.length_cons]
       dsimp only
       clear this
       cases hk:(s.seen.lookup (foldL name)).isNone with
       |false=>have:=noK_len_some hk;have:=h.s8;omega
       |true=>
        rw[hk] at h2
        have:=noK_len s.seen (foldL name)
        simp at h2
        omega
end
theorem lastP_take {pl:UInt64} {l:List (UInt64×UInt64)} {k:Nat} (hk:k<l.length):lastP pl (l.take (k+1))=(l[k]).2:=by
 unfold lastP
 have h:(l.take (k+1)).getLast? =some l[k]:=by
  rw[List.take_add_one,List.getElem?_eq_getElem hk,Option.toList_some,List.getLast?_concat]
 rw[h]
end Go.Proofs.YtcfgafododiioaaGreatDoor
namespace Go.Proofs.YtcfgafododiioaaGreatDoor
open Go Go.RowKit Go.Tum Go.ChangeMaps
structure ItR (q:QR) (z:It):Prop where
 ida:1≤z.id.toNat
 idn:q.next=0∨z.id<q.next
 ln:0≤z.lane∧z.lane<q.lanes
 sz:0≤z.size∧z.size≤q.pay
 tn:z.turn≤q.turns
 lf:(z.st=1∧0≤z.ct∧z.ct<q.del∧z.due=0∧z.tok=0∧1≤z.turn.toNat)∨(z.st=2∧0≤z.ct∧z.ct<q.del∧z.tok=0∧z.turn=0)∨
  (z.st=3∧1≤z.ct∧z.ct≤q.del∧1≤z.tok.toNat∧z.tok≤q.leases∧z.turn=0)∨(z.st=4∧z.ct=q.del∧z.due=0∧z.tok=0∧z.turn=0)
structure WQ (q:QR):Prop where
 cf:1≤q.lanes∧q.lanes≤8∧0≤q.pay∧q.pay≤64∧1≤q.del∧q.del≤20
 ln:q.its.length≤200
 nd:(q.its.map Prod.fst).Nodup
 ky:∀z∈q.its,z.1=z.2.id
 it:∀z∈q.its,ItR q z.2
 co:Cons (look q) q
 hn:(q.hld.map Prod.fst).Nodup
 dn:(q.dd.rows.map Prod.fst).Nodup
theorem look_in {q:QR} {i:UInt64} {z:It} (h:look q i=some z):(i,z)∈q.its:=lku_mem h
theorem WQ.lkz {q:QR} (h:WQ q) {z:UInt64×It} (hz:z∈q.its):look q z.1=some z.2:=nodup_lku h.nd hz
theorem WQ.idz {q:QR} (h:WQ q) {i:UInt64} {z:It} (hz:look q i=some z):i=z.id:=h.ky _ (look_in hz)
theorem nodup_le {l m:List UInt64} (hn:l.Nodup) (hs:∀a∈l,a∈m):l.length≤m.length:=by
 induction l generalizing m with
 |nil=>exact Nat.zero_le _
 |cons a r ih=>
  rw[List.nodup_cons] at hn
  have h1:=ih (m:=m.erase a) hn.2 fun b hb=>(List.mem_erase_of_ne (fun e=>hn.1 (by rw[←e];exact hb))).2 (hs b (List.mem_cons_of_mem _ hb))
  have h2:=List.length_erase_of_mem (hs a (by simp))
  have h3:0<m.length:=List.length_pos_of_mem (hs a (by simp))
  simp only[List.length_cons]
  omega
theorem WQ.rowlen {q:QR} (h:WQ q) {n:Nat} (hn:n<8):(q.rows n).length≤200∧(q.rows n).Nodup:=by
 have hnd:(q.rows n).Nodup:=by
  refine List.Pairwise.imp_of_mem (fun{a b} ha hb hab e=> ?_) (h.co.srt n hn)
  subst e
  obtain⟨z,hz,-⟩:=(h.co.row n hn a).1 ha
  exact UInt64.lt_irrefl _ (hab z z hz hz)
 refine⟨Nat.le_trans (nodup_le hnd (m:=q.its.map Prod.fst) fun a ha=> ?_) (by rw[List.length_map];exact h.ln),hnd⟩
 obtain⟨z,hz,-⟩:=(h.co.row n hn a).1 ha
 exact List.mem_map.2 ⟨_,look_in hz,rfl⟩
theorem WQ.watlen {q:QR} (h:WQ q) {r:List UInt64} (hn:r.Nodup) (hr:∀x,(q.wat x).isSome=decide (x∈r)):r.length≤200:=by
 refine Nat.le_trans (nodup_le hn (m:=q.its.map Prod.fst) fun a ha=> ?_) (by rw[List.length_map];exact h.ln)
 have h1:=hr a
 rw[decide_eq_true ha,h.co.wat] at h1
 cases hz:look q a with
 |none=>rw[hz] at h1;simp at h1
 |some z=>exact List.mem_map.2 ⟨_,look_in hz,rfl⟩
theorem WQ.hldlen {q:QR} (h:WQ q):q.hld.length≤200:=by
 have hnd:(q.hld.map Prod.snd).Nodup:=by
  have h1:q.hld.Pairwise fun a b=>a.1≠b.1:=by
   have:=h.hn
   unfold List.Nodup at this
   rwa[List.pairwise_map] at this
  unfold List.Nodup
  rw[List.pairwise_map]
  refine h1.imp_of_mem fun{a b} ha hb hab e=> ?_
  obtain⟨y,k1,-,k2⟩:=(h.co.hld a.1 a.2).1 (nodup_lku h.hn ha)
  obtain⟨z,k3,-,k4⟩:=(h.co.hld b.1 b.2).1 (nodup_lku h.hn hb)
  rw[e,k3] at k1
  cases k1
  exact hab (k2.symm.trans k4)
 have:=nodup_le hnd (m:=q.its.map Prod.fst) fun a ha=>by
  obtain⟨z,hz,rfl⟩:=List.mem_map.1 ha
  obtain⟨y,k1,-⟩:=(h.co.hld z.1 z.2).1 (nodup_lku h.hn hz)
  exact List.mem_map.2 ⟨_,look_in k1,rfl⟩
 rw[List.length_map,List.length_map] at this
 exact Nat.le_trans this h.ln
def LfR (q:QR) (l:L):Prop:=
 (l.s=1∧0≤l.c∧l.c<q.del∧l.d=0∧l.t=0)∨(l.s=2∧0≤l.c∧l.c<q.del∧l.t=0)∨(l.s=3∧1≤l.c∧l.c≤q.del∧1≤l.t∧l.t≤(q.leases.toNat:Int))∨(l.s=4∧l.c=q.del∧l.d=0∧l.t=0)∨l.s=5
theorem leaveQ_same (q:QR) (z:It):(leaveQ q z).lanes=q.lanes∧(leaveQ q z).pay=q.pay∧(leaveQ q z).del=q.del∧(leaveQ q z).now=q.now∧(leaveQ q z).next=q.next∧(leaveQ q z).leases=q.leases:=by
 unfold leaveQ
 repeat' split
 all_goals exact⟨rfl,rfl,rfl,rfl,rfl,rfl⟩
theorem enterQ_same (q:QR) (z:It):(enterQ q z).lanes=q.lanes∧(enterQ q z).pay=q.pay∧(enterQ q z).del=q.del∧(enterQ q z).now=q.now∧(enterQ q z).next=q.next∧(enterQ q z).leases=q.leases∧(enterQ q z).turns=q.turns:=by
 unfold enterQ putI
 repeat' split
 all_goals exact⟨rfl,rfl,rfl,rfl,rfl,rfl,rfl⟩
theorem becQ_same (q:QR) (z:It) (l:L):(becQ q z l).lanes=q.lanes∧(becQ q z l).pay=q.pay∧(becQ q z l).del=q.del∧(becQ q z l).now=q.now∧(becQ q z l).next=q.next∧(becQ q z l).leases=q.leases∧(becQ q z l).turns=if l.s=1 then q.turns+1 else q.turns:=by
 obtain⟨a1,a2,a3,a4,a5,a6⟩:=leaveQ_same q z
 obtain⟨b1,b2,b3,b4,b5,b6,b7⟩:=enterQ_same {leaveQ q z with turns:=if l.s=1 then(leaveQ q z).turns+1 else(leaveQ q z).turns} (becI q z l)
 unfold becQ
 exact⟨b1.trans a1,b2.trans a2,b3.trans a3,b4.trans a4,b5.trans a5,b6.trans a6,by rw[b7];dsimp only;rw[leaveQ_turns]⟩
theorem enterQ_its (q:QR) (z:It) (hs:z.st=1∨z.st=2∨z.st=3∨z.st=4∨z.st=5):(enterQ q z).its=if z.st=5 then noK ((z.id,z)::noK q.its z.id) z.id else(z.id,z)::noK q.its z.id:=by
 unfold enterQ putI
 rcases hs with e|e|e|e|e
 · rw[if_pos e,if_neg (by omega)]
 · rw[if_neg (by omega),if_pos e,if_neg (by omega)]
 · rw[if_neg (by omega),if_neg (by omega),if_pos e,if_neg (by omega)]
 · rw[if_neg (by omega),if_neg (by omega),if_neg (by omega),if_pos e,if_neg (by omega)]
 · rw[if_neg (by omega),if_neg (by omega),if_neg (by omega),if_neg (by omega),if_pos e,if_pos e]
theorem noK_in {α β:Type} [BEq α] [LawfulBEq α] {l:List (α×β)} {x:α} {z:α×β}:z∈noK l x↔z∈l∧z.1≠x:=by
 unfold noK
 rw[List.mem_filter]
 simp
theorem noK_nd {α β:Type} [BEq α] [LawfulBEq α] {l:List (α×β)} {x:α} (h:(l.map Prod.fst).Nodup):((noK l x).map Prod.fst).Nodup:=(List.filter_sublist.map Prod.fst).nodup h
theorem cons_nd {β:Type} {l:List (UInt64×β)} {x:UInt64} {b:β} (h:(l.map Prod.fst).Nodup):(((x,b)::noK l x).map Prod.fst).Nodup:=by
 rw[List.map_cons,List.nodup_cons]
 refine⟨fun hm=> ?_,noK_nd h⟩
 obtain⟨y,hy,e⟩:=List.mem_map.1 hm
 exact(noK_in.1 hy).2 e
theorem noK_le {β:Type} {l:List (UInt64×β)} {x:UInt64}:(noK l x).length≤l.length:=List.length_filter_le _ _
theorem noK_le1 {β:Type} {l:List (UInt64×β)} {x:UInt64} {b:β} (h:l.lookup x=some b) (hn:(l.map Prod.fst).Nodup):(noK l x).length+1=l.length:=by
 have:=(noK_perm (lku_mem h) hn).length_eq
 simpa using this
theorem leaveQ_nd {q:QR} {z:It} (h:(q.hld.map Prod.fst).Nodup) (k:(q.dd.rows.map Prod.fst).Nodup):((leaveQ q z).hld.map Prod.fst).Nodup∧((leaveQ q z).dd.rows.map Prod.fst).Nodup:=by
 unfold leaveQ dropD
 repeat' split
 all_goals exact⟨by first|exact h|exact noK_nd h,by first|exact k|exact noK_nd k⟩
theorem enterQ_nd {q:QR} {z:It} (h:(q.hld.map Prod.fst).Nodup) (k:(q.dd.rows.map Prod.fst).Nodup):((enterQ q z).hld.map Prod.fst).Nodup∧((enterQ q z).dd.rows.map Prod.fst).Nodup:=by
 have ha:((addD q.dd z.id).2.rows.map Prod.fst).Nodup:=by
  unfold addD
  split
  · exact k
  · rename_i hd
    dsimp only
    rw[List.map_append,List.nodup_append]
    refine⟨k,by simp,fun a ha b hb e=> ?_⟩
    simp at hb
    subst hb
    subst e
    obtain⟨y,hy,e⟩:=List.mem_map.1 ha
    rw[←e,nodup_lku k hy] at hd
    simp at hd
 unfold enterQ putI
 repeat' split
 all_goals exact⟨by first|exact h|exact cons_nd h,by first|exact k|exact ha⟩
theorem WQ.become {q:QR} (h:WQ q) {z:It} {l:L} (hz:look q z.id=some z∨look q z.id=none∧z.st=0∧q.its.length<200∧1≤z.id.toNat∧(q.next=0∨z.id<q.next)∧(0≤z.lane∧z.lane<q.lanes)∧(0≤z.size∧z.size≤q.pay))
 (hl:LfR q l) (ht:q.turns.toNat<18446744073709551615) (hu:0≤l.t∧l.t≤18446744073709551615)
 (hk:l.s=3→∀i y,i≠z.id→look q i=some y→y.st=3→y.tok≠UInt64.ofNat l.t.toNat):WQ (becQ q z l):=by
 obtain⟨e1,e2,e3,e4,e5,e6,e7⟩:=becQ_same q z l
 have hz1:1≤z.id.toNat∧(q.next=0∨z.id<q.next)∧(0≤z.lane∧z.lane<q.lanes)∧(0≤z.size∧z.size≤q.pay):=by
  rcases hz with hz|⟨-,-,-,k⟩
  · have:=h.it _ (look_in hz)
    exact⟨this.ida,this.idn,this.ln,this.sz⟩
  · exact k
 have hcf:=h.cf
 have hs:l.s=1∨l.s=2∨l.s=3∨l.s=4∨l.s=5:=by
  unfold LfR at hl
  omega
 have htn:(q.turns+1).toNat=q.turns.toNat+1:=by
  rw[UInt64.toNat_add,show(1:UInt64).toNat=1 from rfl]
  omega
 have htl:∀i y,look q i=some y→y.turn<q.turns+1:=fun i y hy=>by
  have:y.turn≤q.turns:=(h.it _ (look_in hy)).tn
  rw[UInt64.lt_iff_toNat_lt,htn]
  rw[UInt64.le_iff_toNat_le] at this
  omega
 have hco:Cons (look (becQ q z l)) (becQ q z l):=by
  refine h.co.become ?_ ?_ hs (fun _=>htl) hk
  · rcases hz with hz|⟨k1,k2,-⟩
    · refine .inl ⟨hz,?_⟩
      have:=(h.it _ (look_in hz)).lf
      dsimp only at this
      omega
    · exact .inr ⟨k1,k2⟩
  · omega
 have hits:(becQ q z l).its=if l.s=5 then noK ((z.id,becI q z l)::noK q.its z.id) z.id else(z.id,becI q z l)::noK q.its z.id:=by
  unfold becQ
  dsimp only
  rw[enterQ_its _ _ hs]
  dsimp only
  rw[leaveQ_its]
  rfl
 have hin:∀y∈(becQ q z l).its,(y∈q.its∧y.1≠z.id)∨(l.s≠5∧y=(z.id,becI q z l)):=by
  intro y hy
  rw[hits] at hy
  split at hy
  · have:=noK_in.1 hy
    rcases List.mem_cons.1 this.1 with k|k
    · rw[k] at this;exact absurd rfl this.2
    · exact .inl (noK_in.1 k)
  · rename_i h5
    rcases List.mem_cons.1 hy with k|k
    · exact .inr ⟨h5,k⟩
    · exact .inl (noK_in.1 k)
 have hnd2:=leaveQ_nd (z:=z) h.hn h.dn
 have hnd3:=enterQ_nd (q:={leaveQ q z with turns:=if l.s=1 then(leaveQ q z).turns+1 else(leaveQ q z).turns}) (z:=becI q z l) hnd2.1 hnd2.2
 refine⟨by rw[e1,e2,e3];exact h.cf,?_,?_,?_,?_,hco,hnd3.1,hnd3.2⟩
 · rw[hits]
   have h1:(noK q.its z.id).length≤q.its.length:=noK_le
   have h2:(noK q.its z.id).length+1≤200:=by
    rcases hz with hz|⟨-,-,k,-⟩
    · have h2:=noK_le1 hz h.nd
      have h3:=h.ln
      omega
    · omega
   split
   · have:(noK ((z.id,becI q z l)::noK q.its z.id) z.id).length≤((z.id,becI q z l)::noK q.its z.id).length:=noK_le
     simp only[List.length_cons] at this
     omega
   · simp only[List.length_cons]
     omega
 · rw[hits]
   split
   · exact noK_nd (cons_nd h.nd)
   · exact cons_nd h.nd
 · intro y hy
   rcases hin y hy with ⟨k,-⟩|⟨-,k⟩
   · exact h.ky y k
   · rw[k];rfl
 · intro y hy
   rcases hin y hy with ⟨k,-⟩|⟨h5,k⟩
   · obtain⟨a1,a2,a3,a4,a5,a6⟩:=h.it y k
     refine⟨a1,by rw[e5];exact a2,by rw[e1];exact a3,by rw[e2];exact a4,?_,by rw[e3,e6];exact a6⟩
     rw[e7]
     split
     · rw[UInt64.le_iff_toNat_le,htn]
       rw[UInt64.le_iff_toNat_le] at a5
       omega
     · exact a5
   · rw[k]
     have hb:(becI q z l).turn=if l.s=1 then q.turns+1 else 0:=rfl
     refine⟨hz1.1,by rw[e5];exact hz1.2.1,by rw[e1];exact hz1.2.2.1,by rw[e2];exact hz1.2.2.2,?_,?_⟩
     · show(becI q z l).turn≤_
       rw[hb,e7]
       split
       · exact UInt64.le_refl _
       · rw[UInt64.le_iff_toNat_le];exact Nat.zero_le _
     · rw[e3,e6]
       show(l.s=1∧0≤l.c∧l.c<q.del∧UInt64.ofNat l.d.toNat=0∧UInt64.ofNat l.t.toNat=0∧1≤(becI q z l).turn.toNat)∨(l.s=2∧0≤l.c∧l.c<q.del∧UInt64.ofNat l.t.toNat=0∧(becI q z l).turn=0)∨
        (l.s=3∧1≤l.c∧l.c≤q.del∧1≤(UInt64.ofNat l.t.toNat).toNat∧UInt64.ofNat l.t.toNat≤q.leases∧(becI q z l).turn=0)∨(l.s=4∧l.c=q.del∧UInt64.ofNat l.d.toNat=0∧UInt64.ofNat l.t.toNat=0∧(becI q z l).turn=0)
       rw[hb]
       rcases hl with ⟨k1,k2,k3,k4,k5⟩|⟨k1,k2,k3,k4⟩|⟨k1,k2,k3,k4,k5⟩|⟨k1,k2,k3,k4⟩|k1
       · refine .inl ⟨k1,k2,k3,by rw[k4];rfl,by rw[k5];rfl,?_⟩
         rw[if_pos k1,htn];omega
       · exact .inr (.inl ⟨k1,k2,k3,by rw[k4];rfl,by rw[if_neg (by omega)]⟩)
       · have ho:(UInt64.ofNat l.t.toNat).toNat=l.t.toNat:=by
          rw[UInt64.toNat_ofNat']
          omega
         refine .inr (.inr (.inl ⟨k1,k2,k3,by omega,?_,by rw[if_neg (by omega)]⟩))
         rw[UInt64.le_iff_toNat_le,ho]
         omega
       · exact .inr (.inr (.inr ⟨k1,k2,by rw[k3];rfl,by rw[k4];rfl,by rw[if_neg (by omega)]⟩))
       · exact absurd k1 h5
end Go.Proofs.YtcfgafododiioaaGreatDoor
