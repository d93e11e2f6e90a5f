/- Texts of a claim, side by side. -/
import Derived.Test.YtcfgafododiioaaGreatDoorC16
import Derived.Test.YtcfgafododiioaaGreatDoorC15
import Derived.Test.YtcfgafododiioaaGreatDoorRows
import Derived.Test.YtcfgafododiioaaGreatDoorC1
import Derived.Lib.OthersKept
import Derived.Laws.RangeString
import Derived.Laws.RangeAny
import Derived.Deep.QuietTactic
import Derived.BigQuiet
import Derived.Handy
import Derived.Laws.Cover4
import Derived.Laws.IdiomStrings
import Derived.Lib.SmallJoins
import Derived.Sort.LotA
set_option linter.unusedSimpArgs false
set_option linter.unusedVariables false
namespace Go.Proofs.YtcfgafododiioaaGreatDoor
open Go Go.RowKit Go.Tum Go.Tum.Rn
theorem dec_at (l:List UInt8) (pos:Nat):Utf8.decode (str l) pos=Lib.decodeL (l.drop pos):=by
 have:=Lib.decodeL_drop (str l) pos
 rw[str_data] at this
 exact this.symm
theorem str_extract (l:List UInt8) (a b:Nat):(str l).extract a b=str ((l.take b).drop a):=by
 apply ByteArray.ext
 apply Array.ext'
 simp[str,ByteArray.data_extract,List.drop_take]
theorem drop_ne {l:List UInt8} {pos:Nat} (h:pos<l.length):l.drop pos≠[]:=by
 intro h2
 have:=congrArg List.length h2
 rw[List.length_drop,List.length_nil] at this
 omega
theorem letter_any (r:Nat) (w:World):Calls Tryz.prog 176 #[.int .i32 (r:Int)] w fun e w'=>e= .returned (.bool (letterB r))∧w=w':=by
 go_enter Tryz.func176,Tryz.ntmps176
 go_wp2
 all_goals
  go_ret
  refine⟨?_,rfl⟩
  show Ending.returned (Value.bool _)=Ending.returned (Value.bool _)
  simp only[letterB,Ending.returned.injEq,Value.bool.injEq]
  rw[Bool.eq_iff_iff]
  simp<;>omega
theorem folded_any (r:Nat) (hr:r≤1114111) (w:World):Calls Tryz.prog 175 #[.int .i32 (r:Int)] w fun e w'=>e= .returned (.int .i32 (foldI r))∧w=w':=by
 go_enter Tryz.func175,Tryz.ntmps175
 go_wp2
 all_goals
  go_ret
  refine⟨?_,rfl⟩
  simp only[foldI,Ending.returned.injEq,Value.int.injEq,true_and]
  repeat' split
  all_goals (first|omega|(simp_all<;>omega))
set_option maxHeartbeats 1000000 in
theorem right_any (l:List UInt8) (w:World) (hl:l.length≤1048576):
 Calls Tryz.prog 139 #[.string (str l)] w fun e w'=>e= .returned (.bool (rightL l))∧Ext w w':=by
 go_enter Tryz.func139,Tryz.ntmps139
 go_wp2
 go_loopw [3] (fun n wr=>∃(pos k:Nat),pos≤l.length∧k≤pos∧n= .int .i64 k∧k≤8∧Hid (wr.heap[w.heap.size]? =some (.stringIter (str l) pos))∧Hid (Ext w wr)∧
  Hid (rightL l=(decide (0<k+(runes (l.drop pos)).length) && (decide (k+(runes (l.drop pos)).length≤8) && (runes (l.drop pos)).all letterB)))) (fun n _=>l.length - (intOf n).toNat)
 case atStart=>exact⟨0,0,by omega,by omega,rfl,by omega,World.iter_heap w (str l) 0,Ext.alloc _ _,hid (by simp[rightL])⟩
 case round=>
  obtain⟨pos,k,hpos,hk,rfl,hk8,HIT,HE,HR⟩:=hrel
  by_cases hlt:pos<l.length
  · have hne:=drop_ne hlt
    have hst:=runes_step hne
    have hle:=Lib.decodeL_le _ hne
    have hwd:=Lib.decodeL_width (l.drop pos)
    have hnx:∀ty,(Instr.next (.pointer (some ⟨w.heap.size,0,none⟩)) true ty).run Tryz.prog wr=_:=fun ty=>Lib.run_next_any_at wr w.heap.size (str l) pos ty HIT.out (by rw[str_size];exact hlt)
    obtain⟨R,K,hRK⟩:∃R K,Lib.decodeL (l.drop pos)=(R,K):=⟨_,_,rfl⟩
    rw[dec_at] at hnx
    rw[hRK] at hnx hst hle hwd
    simp only[List.drop_drop,List.length_drop] at hnx hst hle hwd
    have hit2:=Lib.iterAt_heap wr w.heap.size (str l) pos (pos+K) HIT.out
    have hE2:=Lib.below_iterAt HE.out (k:=w.heap.size) (Nat.le_refl _) (str l) (pos+K)
    obtain⟨W2,hW⟩:∃W2,wr.iterAt w.heap.size (str l) (pos+K)=W2:=⟨_,rfl⟩
    rw[hW] at hnx hit2 hE2
    have HIT2:=hid hit2
    have HE2:=hid hE2
    have hr:=HR.out
    rw[hst] at hr
    have HR2:=hid hr
    clear hst hit2 hE2 hW hRK hne hr
    by_cases h9:k+1≤8
    · have hd:decide (8<(k:Int)+1)=false:=by simp;omega
      obtain⟨LB,hLB⟩:∃LB,letterB R=LB:=⟨_,rfl⟩
      have HLB:=hid hLB
      clear hLB
      go_wp2_with fail
      refine(letter_any R _).mono ?_
      rintro e w3 ⟨rfl,rfl⟩
      rw[HLB.out]
      cases LB with
      |true=>
       go_wp2
       go_roundw
       case rel=>exact⟨pos+K,k+1,by omega,by omega,by go_num,by omega,HIT2,HE2,hid (by
        rw[HR2.out,List.all_cons,HLB.out,List.length_cons,Bool.true_and,Nat.add_right_comm k 1,Nat.add_assoc k _ 1])⟩
       case measure=>simp[intOf];omega
      |false=>
       go_wp2
       go_ret
       refine⟨?_,HE2.out⟩
       rw[HR2.out,List.all_cons,HLB.out]
       simp
    · have hd:decide (8<(k:Int)+1)=true:=by simp;omega
      go_wp2
      go_ret
      refine⟨?_,HE2.out⟩
      rw[HR2.out,List.length_cons]
      have:decide (k+((runes (l.drop (pos+K))).length+1)≤8)=false:=by simp;omega
      rw[this];simp
  · have hnx:∀ty,(Instr.next (.pointer (some ⟨w.heap.size,0,none⟩)) true ty).run Tryz.prog wr=_:=fun ty=>Lib.run_next_end_at wr w.heap.size (str l) pos ty HIT.out (by rw[str_size];exact hlt)
    have HR2:=hid (show rightL l=decide (0<k) by
     rw[HR.out,List.drop_of_length_le (by omega),runes_nil]
     simp
     intro _;exact hk8)
    go_wp2
    go_ret
    refine⟨?_,HE.out⟩
    rw[HR2.out]
    simp
abbrev TB (w:World):Prop:=Lib.Utf8Tabs 0 1 w
theorem fold_any (l:List UInt8) (w:World) (hl:l.length≤1048576) (ht:TB w):
 Calls Tryz.prog 138 #[.string (str l)] w fun e w'=>e= .returned (.string (str (foldL l)))∧Ext w w':=by
 have HT:=hid ht
 clear ht
 go_enter Tryz.func138,Tryz.ntmps138
 go_wp2_with fail
 refine(Tryz.strings_Map_runes 175 #[] (enters_of Tryz.func175 (by kernel_rfl) rfl) foldI (str l) w (by rw[str_size];omega) ?_ ?_ HT.out).mono ?_
 · intro W x hx hb
   unfold FnGives
   refine(folded_any x hx W).mono ?_
   rintro e w' ⟨rfl,rfl⟩
   exact⟨rfl,0,rfl⟩
 · intro x hx
   unfold foldI
   repeat' split
   all_goals omega
 · rintro e w1 ⟨rfl,hw⟩
   rw[str_data,mapD_fold]
   have hE:Ext w w1:=hw
   go_wp2
   go_ret
   exact⟨rfl,hE⟩
theorem lessR_cons (x:Nat) (a:List Nat) (y:Nat) (b:List Nat):lessR (x::a) (y::b)=if x=y then lessR a b else decide (x<y):=by rw[lessR]
def strLen:Value→Nat
 | .string s=>s.size
 |_=>0
theorem decodeGo_str (l:List UInt8) (h:l≠[]):Lib.decodeGo (str l)=Lib.decodeL l:=by
 have hp:=List.length_pos_iff.2 h
 unfold Lib.decodeGo
 rw[if_neg (by rw[str_size];omega),dec_at,List.drop_zero]
set_option maxHeartbeats 1000000 in
theorem less_any (a b:List UInt8) (w:World) (ha:a.length≤1048576) (hb:b.length≤1048576) (ht:TB w):
 Calls Tryz.prog 160 #[.string (str a),.string (str b)] w fun e w'=>e= .returned (.bool (lessR (runes a) (runes b)))∧Ext w w':=by
 have HT:=hid ht
 clear ht
 go_enter Tryz.func160,Tryz.ntmps160
 go_wp2
 go_loopw [1] (fun bv wr=>∃(pos:Nat) (c:List UInt8),pos≤a.length∧bv= .string (str c)∧c.length≤1048576∧Hid (wr.heap[w.heap.size]? =some (.stringIter (str a) pos))∧Hid (Ext w wr)∧Hid (w.heap.size<wr.heap.size)∧
  Hid (lessR (runes a) (runes b)=lessR (runes (a.drop pos)) (runes c))) (fun bv _=>strLen bv)
 case atStart=>exact⟨0,b,by omega,rfl,hb,World.iter_heap w (str a) 0,Ext.alloc _ _,hid (by simp[World.iter]),hid (by simp)⟩
 case round=>
  obtain⟨pos,c,hpos,rfl,hcl,HIT,HE,HSZ,HR⟩:=hrel
  by_cases hlt:pos<a.length
  · have hne:=drop_ne hlt
    have hst:=runes_step hne
    have hle:=Lib.decodeL_le _ hne
    have hwd:=Lib.decodeL_width (a.drop pos)
    have hnx:∀ty,(Instr.next (.pointer (some ⟨w.heap.size,0,none⟩)) true ty).run Tryz.prog wr=_:=fun ty=>Lib.run_next_any_at wr w.heap.size (str a) pos ty HIT.out (by rw[str_size];exact hlt)
    obtain⟨R,K,hRK⟩:∃R K,Lib.decodeL (a.drop pos)=(R,K):=⟨_,_,rfl⟩
    rw[dec_at] at hnx
    rw[hRK] at hnx hst hle hwd
    simp only[List.drop_drop,List.length_drop] at hnx hst hle hwd
    have hit2:=Lib.iterAt_heap wr w.heap.size (str a) pos (pos+K) HIT.out
    have hE2:=Lib.below_iterAt HE.out (k:=w.heap.size) (Nat.le_refl _) (str a) (pos+K)
    have hsz2:w.heap.size<(wr.iterAt w.heap.size (str a) (pos+K)).heap.size:=by rw[Lib.iterAt_size];exact HSZ.out
    obtain⟨W2,hW⟩:∃W2,wr.iterAt w.heap.size (str a) (pos+K)=W2:=⟨_,rfl⟩
    rw[hW] at hnx hit2 hE2 hsz2
    have HIT2:=hid hit2
    have HE2:=hid hE2
    have hr:=HR.out
    rw[hst] at hr
    have HR2:=hid hr
    have HSZ2:=hid hsz2
    clear hst hit2 hE2 hW hRK hne hr hsz2
    by_cases hc:c=[]
    · subst hc
      go_wp2
      go_ret
      refine⟨?_,HE2.out⟩
      rw[HR2.out];rfl
    · have hcs:=runes_step hc
      have hcle:=Lib.decodeL_le _ hc
      have hcw:=Lib.decodeL_width c
      obtain⟨Q,S,hQS⟩:∃Q S,Lib.decodeL c=(Q,S):=⟨_,_,rfl⟩
      have hdg:=decodeGo_str c hc
      rw[hQS] at hdg hcs hcle hcw
      simp only at hcs hcle hcw
      have hd0:(c==([]:List UInt8))=false:=by simp[hc]
      have HDG:=hid hdg
      have hr:=HR2.out
      rw[hcs] at hr
      rw[lessR_cons] at hr
      have HR3:=hid hr
      clear hcs hQS hr hdg
      go_wp2_with fail
      refine(Tryz.utf8_DecodeRuneInString (str c) W2 (Utf8Tabs_below HT.out HE2.out)).mono ?_
      rintro e w3 ⟨rfl,hw3⟩
      rw[HDG.out]
      have HE3:=hid (Ext.trans HE2.out hw3)
      have HIT3:=hid ((hw3.block _ HSZ2.out).trans HIT2.out)
      have HSZ3:=hid (Nat.lt_of_lt_of_le HSZ2.out hw3.size)
      clear hw3
      by_cases hRQ:R=Q
      · have hne:((R:Int) !=(Q:Int))=false:=by simp[hRQ]
        have hsz:(str c).size=c.length:=str_size c
        have HX:=hid (show(str c).extract S c.length=str (c.drop S) by rw[str_extract,List.take_of_length_le (Nat.le_refl _)])
        have HR4:=hid (show lessR (runes a) (runes b)=lessR (runes (a.drop (pos+K))) (runes (c.drop S)) by rw[HR3.out,if_pos hRQ])
        clear hRQ
        go_wp2
        go_roundw
        case rel=>exact⟨pos+K,c.drop S,by omega,by rw[HX.out],by rw[List.length_drop];omega,HIT3,HE3,HSZ3,HR4⟩
        case measure=>simp[strLen,str_size,HX.out];omega
      · have hne:((R:Int) !=(Q:Int))=true:=by simp;omega
        have HR4:=hid (show lessR (runes a) (runes b)=decide ((R:Int)<(Q:Int)) by rw[HR3.out,if_neg hRQ];simp)
        clear hRQ
        go_wp2
        go_ret
        refine⟨?_,HE3.out⟩
        rw[HR4.out];simp
  · have hnx:∀ty,(Instr.next (.pointer (some ⟨w.heap.size,0,none⟩)) true ty).run Tryz.prog wr=_:=fun ty=>Lib.run_next_end_at wr w.heap.size (str a) pos ty HIT.out (by rw[str_size];exact hlt)
    have HC:=hid (show lessR (runes a) (runes b)=decide (c≠[]) by
     rw[HR.out,List.drop_of_length_le (by omega),runes_nil]
     by_cases hc:c=[]
     · subst hc;rfl
     · rw[runes_step hc];simp[hc,lessR])
    by_cases hc:c=[]
    · subst hc
      go_wp2
      go_ret
      refine⟨?_,HE.out⟩
      rw[HC.out];rfl
    · have hd0:(c==([]:List UInt8))=false:=by simp[hc]
      go_wp2
      go_ret
      refine⟨?_,HE.out⟩
      rw[HC.out];simp[hc]
end Go.Proofs.YtcfgafododiioaaGreatDoor
namespace Go.Proofs.YtcfgafododiioaaGreatDoor
open Go Go.RowKit Go.Tum Go.ChangeMaps Go.Sort Go.Tum.Rn
open Go.ParB (upd Lof)
open Go.ParE (putS slotsR slots Closed)
abbrev Cur:=Nm×UInt64
abbrev encC (x:Cur):List Value:=[vN x.1,vU x.2]
def ltC (x y:Cur):Bool:=lessR (runes x.1) (runes y.1)
def cfC (x y:Cur):Int:=if ltC x y then -1 else if ltC y x then 1 else 0
theorem cfC_neg (x y:Cur):decide (cfC x y<0)=ltC x y:=by
 unfold cfC
 cases h:ltC x y
 · cases h2:ltC y x<;>simp
 · simp
theorem TBx {w w':World} (h:TB w) (k:Ext w w'):TB w':=Utf8Tabs_below h k
theorem byName_any (a b:Cur) (w:World) (ha:a.1.length≤1048576) (hb:b.1.length≤1048576) (ht:TB w):Calls Tryz.prog 118 #[.agg #[vN a.1,vU a.2],.agg #[vN b.1,vU b.2]] w fun e w'=>e= .returned (.int .i64 (cfC a b))∧Ext w w':=by
 obtain⟨a1,a2⟩:=a
 obtain⟨b1,b2⟩:=b
 dsimp only at ha hb⊢
 have HB0:=(Ext.alloc _ _).obj (heap_alloc_new w (.cells #[vN a1,vU a2] 123 (0,0))) (w':=(w.alloc (.cells #[vN a1,vU a2] 123 (0,0))).alloc (.cells #[vN b1,vU b2] 123 (0,0)))
 have HB1:=heap_alloc_new (w.alloc (.cells #[vN a1,vU a2] 123 (0,0))) (.cells #[vN b1,vU b2] 123 (0,0))
 have HG:Hid (Ext w ((w.alloc (.cells #[vN a1,vU a2] 123 (0,0))).alloc (.cells #[vN b1,vU b2] 123 (0,0)))):=hid ((Ext.alloc _ _).trans (Ext.alloc _ _))
 rw[World.size_alloc] at HB1
 have HT:=hid (TBx ht HG.out)
 have HA:=hid ha
 have HBL:=hid hb
 obtain⟨c,hc⟩:∃c,cfC (a1,a2) (b1,b2)=c:=⟨_,rfl⟩
 have HC:=hid hc
 rw[hc]
 obtain⟨p0,h0⟩:∃p,w.heap.size=p:=⟨_,rfl⟩
 clear ht ha hb hc
 go_enter Tryz.func118,Tryz.ntmps118
 go_wp2_with fail
 rw[h0] at HB0 HB1
 try rw[h0]
 generalize (w.alloc (.cells #[vN a1,vU a2] 123 (0,0))).alloc (.cells #[vN b1,vU b2] 123 (0,0))=W1 at*
 have H0:=hid HB0
 have H1:=hid HB1
 clear HB0 HB1
 obtain⟨q0,-,-⟩:=lk2 H0.out
 obtain⟨q1,-,-⟩:=lk2 H1.out
 go_wp2_with fail
 clear q0 q1
 refine(less_any a1 b1 W1 HA.out HBL.out HT.out).mono ?_
 rintro e w2 ⟨rfl,hE⟩
 have HE2:=hid (HG.out.trans hE)
 have HT2:=hid (TBx HT.out hE)
 have hH0:=hid (hE.obj H0.out)
 have hH1:=hid (hE.obj H1.out)
 clear hE
 cases hl:lessR (runes a1) (runes b1)
 case true=>
  have HR:Hid (c= -1):=hid (by rw[←HC.out];unfold cfC ltC;simp[hl])
  clear hl
  go_wp2
  go_ret
  exact⟨by rw[HR.out];rfl,HE2.out⟩
 case false=>
  have HL:=hid hl
  clear hl
  obtain⟨q0,-,-⟩:=lk2 hH0.out
  obtain⟨q1,-,-⟩:=lk2 hH1.out
  go_wp2_with fail
  clear q0 q1
  refine(less_any b1 a1 w2 HBL.out HA.out HT2.out).mono ?_
  rintro e w3 ⟨rfl,hE⟩
  have HE3:=hid (HE2.out.trans hE)
  clear hE
  cases hl:lessR (runes b1) (runes a1)
  case true=>
   have HR:Hid (c=1):=hid (by rw[←HC.out];unfold cfC ltC;simp[hl,HL.out])
   clear hl
   go_wp2
   go_ret
   exact⟨by rw[HR.out];rfl,HE3.out⟩
  case false=>
   have HR:Hid (c=0):=hid (by rw[←HC.out];unfold cfC ltC;simp[hl,HL.out])
   clear hl
   go_wp2
   go_ret
   exact⟨by rw[HR.out];rfl,HE3.out⟩
theorem enByName (args:Array Value) (w:World):Sem.run Tryz.prog (callFunc 118 args) w= .ok (.enter 118 args) w:=enter_ofD Tryz.func118 (by kernel_rfl) (by kernel_rfl) args w
theorem val_callvD {P:Program} {ρ:Operand→Value} {w:World} {K:Value→World→Prop} {f:FuncId} {callee:Operand} {cb:Array Value} (hf:∀args w,Sem.run P (callFunc f args) w= .ok (.enter f args) w)
 {dst:Option Tmp} {xs:Array Operand} {ats:Array TypeId} {ty:TypeId} {pos:String} {after:Array Edge} {guard:Option (Nat×Bool)}
 (e0:ρ callee= .func (.func f) #[] cb) (hc:Calls P f (xs.map ρ++cb) w fun e w''=>∃v,e= .returned v∧K v w''):
 Par.vUpon P K ((execOp ρ {dst,op:= .call {callee:= .value callee,args:=xs,argTypes:=ats},type:=ty,pos,after,guard}).run P w):=by
 have h:(execOp ρ {dst,op:= .call {callee:= .value callee,args:=xs,argTypes:=ats},type:=ty,pos,after,guard}).run P w= .ok (.enter f (xs.map ρ++cb)) w:=by
  have hr:=hf (xs.map ρ++cb) w
  simp[execOp,resolve,e0,invoke,Deferred.ofValue,hr]
 rw[h]
 exact hc
theorem addr0 (g k:Nat):(⟨g,0,none⟩:Addr).add k=⟨g,k,none⟩:=by unfold Addr.add;split<;>simp_all
structure EC (w:World) (a:Addr) (j:Nat) (z:Cur):Prop where
 c0:w.cell? (a.add (j*2))=some (vN z.1)
 c1:w.cell? ⟨(a.add (j*2)).block,(a.add (j*2)).off+1,none⟩=some (vU z.2)
 f0:w.frozen? (a.add (j*2))=false
 f1:w.frozen? ⟨(a.add (j*2)).block,(a.add (j*2)).off+1,none⟩=false
abbrev RowC (w:World) (B g n cap:Nat) (l:List Cur):Prop:=w.ownsRow B 123 2 (.slice (some ⟨g,0,none⟩) n cap) n (l.flatMap encC)
theorem RowC.ec {w:World} {B g n cap:Nat} {l:List Cur} (h:RowC w B g n cap l) (hn:l.length=n) {j:Nat} (hj:j<n):EC w ⟨g,0,none⟩ j (l[j]'(by omega)):=by
 obtain⟨g0,g1⟩:=flat2_get (A:=fun z:Cur=>vN z.1) (Bf:=fun z=>vU z.2) l j (by omega)
 refine⟨?_,?_,?_,?_⟩
 · rw[addr0,World.ownsRow.cellAt h _ (by omega),g0]
 · rw[addr0]
   show w.cell? ⟨g,j*2+1,none⟩=_
   rw[World.ownsRow.cellAt h _ (by omega),g1]
 · rw[addr0];exact World.ownsRow.frozenAt h _
 · rw[addr0];exact World.ownsRow.frozenAt h _
theorem flat2_set2 {α:Type} {A Bf:α→Value} (l:List α) (i:Nat) (h:i<l.length) (z:α):((l.flatMap fun z=>[A z,Bf z]).set (i*2) (A z)).set (i*2+1) (Bf z)=(l.set i z).flatMap fun z=>[A z,Bf z]:=by
 induction l generalizing i with
 |nil=>simp at h
 |cons y r ih=>
  cases i with
  |zero=>simp
  |succ i=>
   have:=ih i (by simpa using h)
   rw[show(i+1)*2=i*2+1+1 by omega]
   simpa using this
theorem RowC.set {w:World} {B g n cap:Nat} {l:List Cur} (h:RowC w B g n cap l) (hn:l.length=n) {j:Nat} (hj:j<n) (z:Cur):
 RowC ((w.setCell ⟨g,j*2,none⟩ (vN z.1)).setCell ⟨g,j*2+1,none⟩ (vU z.2)) B g n cap (l.set j z)∧Fr [g] w ((w.setCell ⟨g,j*2,none⟩ (vN z.1)).setCell ⟨g,j*2+1,none⟩ (vU z.2)):=by
 have h1:=(World.ownsRow.stored h (j*2) (vN z.1)).1
 have h2:=(World.ownsRow.stored h1 (j*2+1) (vU z.2)).1
 rw[flat2_set2 (A:=fun z:Cur=>vN z.1) (Bf:=fun z=>vU z.2) l j (by omega) z] at h2
 exact⟨h2,(fr_setCell _ _ _ (by simp)).trans (fr_setCell _ _ _ (by simp))⟩
end Go.Proofs.YtcfgafododiioaaGreatDoor
