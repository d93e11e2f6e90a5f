/- Texts of a claim, side by side. -/
import Derived.Test.YtcfgafododiioaaGreatDoorC11
import Derived.Test.YtcfgafododiioaaGreatDoorC6
set_option linter.unusedSimpArgs false
set_option linter.unusedVariables false
namespace Go.Proofs.YtcfgafododiioaaGreatDoor
open Go Go.RowKit Go.Tum Go.ChangeMaps Go.Tum.Hp
def keyI (At:UInt64→Option Int) (x:UInt64):Int:=tim At x*18446744073709551616+(x.toNat:Int)
theorem ahead_key (At:UInt64→Option Int) (x y:UInt64):aheadB At x y=decide (keyI At x<keyI At y):=by
 have hx:=x.toNat_lt
 have hy:=y.toNat_lt
 unfold aheadB keyI
 split
 · rename_i h
   rw[decide_eq_decide]
   omega
 · rename_i h
   have h:tim At x=tim At y:=by simpa using h
   rw[h,decide_eq_decide,UInt64.lt_iff_toNat_lt]
   omega
def rowK (At:UInt64→Option Int) (row:List UInt64):Nat→Int:=fun k=>keyI At (row.getD k 0)
theorem rowK_at {At:UInt64→Option Int} {row:List UInt64} {k:Nat} (h:k<row.length):rowK At row k=keyI At row[k]:=by
 unfold rowK
 rw[List.getD_eq_getElem?_getD,List.getElem?_eq_getElem h];rfl
theorem rowK_swap {At:UInt64→Option Int} {row:List UInt64} {i j:Nat} (hi:i<row.length) (hj:j<row.length):∀a,a<row.length→sw (rowK At row) i j a=rowK At (swapL row i j hi hj) a:=by
 intro a ha
 rw[rowK_at (by rw[swap_len];exact ha)]
 unfold sw
 split
 · rename_i e;subst e;rw[rowK_at hj,swap_i hi hj]
 · split
   · rename_i e;subst e;rw[rowK_at hi,swap_j hi hj]
   · rename_i h1 h2;rw[rowK_at ha,swap_k hi hj ha h1 h2]
theorem Tr.ext {b:Nat} {w w':World} {p mt mp nt:Nat} {At:UInt64→Option Int} {row:List UInt64} {v:Value} (h:Tr b w p mt mp nt At row v) (k:Ext w w'):Tr b w' p mt mp nt At row v:=
 ⟨k.obj h.hd,h.ti.fr (S:=[]) (Ext.fr k) (by simp),h.pl.fr (S:=[]) (Ext.fr k) (by simp),h.ow.ext k,h.nd,h.ne⟩
theorem enter_of {P : Program} {K : Nat} {fn : Func} (hK : P.funcs[K]? = some fn) (hK1 : (fn.name == "runtime.NumGoroutine") = false) (hK2 : fn.body.isNone = false) (args : Array Value) (w : World) :
 Sem.run P (callFunc K args) w= .ok (.enter K args) w:=by
 have h1 : ¬ fn.name = "runtime.NumGoroutine" := by simpa using hK1
 have h2:¬fn.body=none:=fun h=>by rw[h] at hK2;simp at hK2
 simp[callFunc,hK,h1,h2]
theorem enter_ahead (args:Array Value) (w:World):Sem.run Tryz.prog (callFunc 173 args) w= .ok (.enter 173 args) w:=enter_of Tryz.func173 (by kernel_rfl) (by kernel_rfl) args w
abbrev FV (p:Nat):Value:= .func (.func 173) #[pv p] #[]
theorem val_callv {P:Program} {ρ:Operand→Value} {w:World} {K:Value→World→Prop} {f:FuncId} {t:Nat} {bound:Array Value} (e0:ρ (.tmp t)= .func (.func f) bound #[]) (hK:∀args w,Sem.run P (callFunc f args) w= .ok (.enter f args) w)
 {dst:Option Tmp} {xs:Array Operand} {ats:Array TypeId} {ty:TypeId} {pos:String} {after:Array Edge} {guard:Option (Nat×Bool)}
 (hc:Calls P f (bound++xs.map ρ) w fun e w''=>∃v,e= .returned v∧K v w''):
 Par.vUpon P K ((execOp ρ {dst,op:= .call {callee:= .value (.tmp t),args:=xs,argTypes:=ats},type:=ty,pos,after,guard}).run P w):=by
 have h:(execOp ρ {dst,op:= .call {callee:= .value (.tmp t),args:=xs,argTypes:=ats},type:=ty,pos,after,guard}).run P w= .ok (.enter f (bound++xs.map ρ)) w:=by
  simp[execOp,resolve,e0,invoke,Deferred.ofValue,hK]
 rw[h]
 exact hc
theorem par_cast {i:Nat} (h:i≠0):((i:Int) - 1) / 2=((par i:Nat):Int):=by unfold par;omega
theorem par_of {c i:Nat} (h0:0<c) (h:par c=i):c=2*i+1∨c=2*i+2:=by unfold par at h;omega
def Least (f:Nat→Int) (N i fi bl:Nat):Prop:=(fi=i∨(0<fi∧par fi=i))∧f fi≤f i∧∀c,0<c→c<bl→c<N→par c=i→f fi≤f c
set_option maxRecDepth 100000 in
set_option maxHeartbeats 1000000 in
theorem settle_any (b:Nat) (w:World) (p mt mp nt:Nat) (At:UInt64→Option Int) (row:List UInt64) (g N cap:Nat) (i0:Nat) (x:UInt64) (h:Tr b w p mt mp nt At row (.slice (some ⟨g,0,none⟩) N cap)) (hi:i0<row.length) (hx:row[i0]=x) (hl:row.length≤1000000)
 (ha:AH (rowK At row) N i0):
 Calls Tryz.prog 195 #[.pointer (some ⟨p,1,none⟩),vU x,FV p] w fun e w'=>(∃v,e= .returned v)∧∃row',row'.Perm row∧Tr b w' p mt mp nt At row' (.slice (some ⟨g,0,none⟩) N cap)∧HP (rowK At row') N∧Fr [g,mp] w w':=by
 have hn:=h.ow.len
 have HN:=hid hn
 have hN:i0<N:=by omega
 have hN2:N≤1000000:=by omega
 have hlk:(Instr.lookup 224 (.map (some mp)) (vU x) false).run Tryz.prog w= .ok (.int .i64 (i0:Int)) w:=by
  have:=h.pl.look Tryz.underlying224 (Tryz.zeroValue3 _) x
  rw[plF_at h.nd hi hx] at this
  exact this
 have HT:=hid h
 have HA:=hid ha
 have HX:=hid hx
 have HK:=hid enter_ahead
 obtain⟨-,a1,a2,-⟩:=lk3 h.hd
 clear h hn ha hl
 go_enter Tryz.func195,Tryz.ntmps195
 go_wp2
 clear hlk a1 a2
 go_loopw [6] (fun iv wr=>∃(i:Nat) (r:List UInt64),i<N∧iv= .int .i64 i∧Hid (r.Perm row)∧Hid (Tr b wr p mt mp nt At r (.slice (some ⟨g,0,none⟩) N cap))∧Hid (r[i]? =some x)∧Hid (AH (rowK At r) N i)∧Hid (Fr [g,mp] w wr)) (fun iv _=>(intOf iv).toNat)
 case atStart=>exact⟨i0,row,hN,rfl,hid (List.Perm.refl _),HT,hid (by rw[List.getElem?_eq_getElem hi,hx]),HA,hid (Fr.refl _ _)⟩
 case round=>
  obtain⟨wr1,hwr1⟩:∃W,W=wr:=⟨_,rfl⟩
  subst hwr1
  obtain⟨i,r,hiN,rfl,HP,HT1,HX1,HA1,HF1⟩:=hrel
  obtain⟨-,c1,-⟩:=lk3 HT1.out.hd
  have HN1:Hid (r.length=N):=hid (by rw[HP.out.length_eq,HN.out])
  by_cases hi0:i=0
  · have hd:decide (0<i)=false:=by rw[decide_eq_false_iff_not];omega
    have HAU3:Hid (AH (rowK At r) N i∧UP (rowK At r) i):=hid ⟨HA1.out,fun h=>absurd h (by omega)⟩
    clear hi0
    go_wp2
    clear c1
    have HP3:=HP
    have HT3:=HT1
    have HF3:=HF1
    clear HP HT1 HX1 HA1 HF1 HN1
    go_loopw [6] (fun iv wr=>∃(i:Nat) (r:List UInt64),i<N∧iv= .int .i64 i∧Hid (r.Perm row)∧Hid (Tr b wr p mt mp nt At r (.slice (some ⟨g,0,none⟩) N cap))∧Hid (AH (rowK At r) N i∧UP (rowK At r) i)∧Hid (Fr [g,mp] w wr)) (fun iv _=>N - (intOf iv).toNat)
    case atStart=>exact⟨i,r,hiN,rfl,HP3,HT3,HAU3,HF3⟩
    case round=>
     obtain⟨wr2,hwr2⟩:∃W,W=wr:=⟨_,rfl⟩
     subst hwr2
     clear HP3 HT3 HAU3 HF3 hiN
     obtain⟨i,r,hiN,rfl,HP4,HT4,HAU,HF4⟩:=hrel
     have HN4:Hid (r.length=N):=hid (by rw[HP4.out.length_eq,HN.out])
     go_wp2
     go_loopw [7,8] (fun fv bv wr=>∃(fi bl:Nat),fv= .int .i64 fi∧bv= .int .i64 bl∧2*i+1≤bl∧bl≤2*i+3∧fi<N∧Hid (Least (rowK At r) N i fi bl)∧Hid (Tr b wr p mt mp nt At r (.slice (some ⟨g,0,none⟩) N cap))∧Hid (Ext wr2 wr)) (fun _ bv _=>2*i+3 - (intOf bv).toNat)
     case atStart=>exact⟨i,2*i+1,rfl,by go_num,by omega,by omega,hiN,hid ⟨.inl rfl,Int.le_refl _,fun c c0 cb cN cp=>by have:=par_of c0 cp;omega⟩,HT4,hid (Ext.refl _)⟩
     case round=>
      obtain⟨wr3,hwr3⟩:∃W,W=wr:=⟨_,rfl⟩
      subst hwr3
      obtain⟨fi,bl,rfl,rfl,hb1,hb2,hfiN,HQ,HT5,HX5⟩:=hrel
      obtain⟨-,c1,-⟩:=lk3 HT5.out.hd
      by_cases hle:bl≤2*i+2
      · have hd1:decide ((bl:Int)≤2*(i:Int)+2)=true:=by simp;omega
        by_cases hlt:bl<N
        · have hd2:decide ((bl:Int)<N)=true:=by simp;omega
          obtain⟨yb,hyb⟩:∃y,r[bl]'(by have:=HN4.out;omega)=y:=⟨_,rfl⟩
          obtain⟨yf,hyf⟩:∃y,r[fi]'(by have:=HN4.out;omega)=y:=⟨_,rfl⟩
          have k1:=HT5.out.ow.cell bl (by have:=HN4.out;omega)
          have k2:=HT5.out.ow.cell fi (by have:=HN4.out;omega)
          rw[hyb] at k1
          rw[hyf] at k2
          have hkb:rowK At r bl=keyI At yb:=by rw[rowK_at (by have:=HN4.out;omega),hyb]
          have hkf:rowK At r fi=keyI At yf:=by rw[rowK_at (by have:=HN4.out;omega),hyf]
          have HKK:=hid (And.intro hkb hkf)
          have HK1:=hid k1
          have HK2:=hid k2
          have HC1:=hid c1
          obtain⟨BB,hBB⟩:∃BB,aheadB At yb yf=BB:=⟨_,rfl⟩
          have HBB:=hid hBB
          have hblI:(bl:Int)<N:=by omega
          have hfiI:(fi:Int)<N:=by omega
          clear hkb hkf k1 k2 hyb hyf hBB
          go_wp2
          refine Par.wp_region_par (l:=[_,_,_,_,_,_,_,_,_,_,_,_,_,_,_,_]) rfl Ext (Par.VL [Par.EQ (FV p),Par.EQ (Value.pointer (some ⟨p,1,none⟩)),Par.EQ (Value.pointer (some ⟨p,1,none⟩)),Par.EQ (Value.pointer (some ⟨p,1,none⟩)),Par.EQ (Value.slice (some ⟨g,0,none⟩) N cap),Par.EQ (Value.int IntKind.i64 (bl:Int)),Par.EQ (Value.pointer (some ⟨g,bl,none⟩)),Par.EQ (vU yb),Par.EQ (Value.pointer (some ⟨p,1,none⟩)),Par.EQ (Value.pointer (some ⟨p,1,none⟩)),Par.EQ (Value.pointer (some ⟨p,1,none⟩)),Par.EQ (Value.slice (some ⟨g,0,none⟩) N cap),Par.EQ (Value.int IntKind.i64 (fi:Int)),Par.EQ (Value.pointer (some ⟨g,fi,none⟩)),Par.EQ (vU yf),Par.EQ (Value.bool BB)]) (by kernel_rfl) Ext.refl (fun _ _ _ h1 h2=>Ext.trans h1 h2) (Ext.draw _) (Par.VL_stab ?_) ?_ ?_
          · simp only[List.forall_mem_cons,List.not_mem_nil,false_implies,implies_true,and_true]
            refine⟨fun _ _ _ _ h=>h,fun _ _ _ _ h=>h,fun _ _ _ _ h=>h,fun _ _ _ _ h=>h,fun _ _ _ _ h=>h,fun _ _ _ _ h=>h,fun _ _ _ _ h=>h,fun _ _ _ _ h=>h,fun _ _ _ _ h=>h,fun _ _ _ _ h=>h,fun _ _ _ _ h=>h,fun _ _ _ _ h=>h,fun _ _ _ _ h=>h,fun _ _ _ _ h=>h,fun _ _ _ _ h=>h,fun _ _ _ _ h=>h⟩
          · refine⟨⟨fun _ _=>trivial,fun ρ w' hX hG hk=> ?_⟩,?_⟩
            · exact Par.val_of_run rfl ⟨Ext.refl _,hk.1⟩
            refine⟨⟨fun _ _=>trivial,fun ρ w' hX hG hk=> ?_⟩,?_⟩
            · exact Par.val_of_run rfl ⟨Ext.refl _,hk.1⟩
            refine⟨⟨fun _ _=>trivial,fun ρ w' hX hG hk=> ?_⟩,?_⟩
            · obtain⟨(e0:ρ (.tmp 61)=Value.pointer (some ⟨p,1,none⟩)),-⟩:=hk;refine Par.val_k fun K hK=> ?_;unfold Par.val
              (go_simp;exact hK _ _ ⟨Ext.refl _,rfl⟩)
            refine⟨⟨fun _ _=>trivial,fun _ _ _ _ hk=>Par.pv [(62,Value.pointer (some ⟨p,1,none⟩))] hk (by kernel_rfl) ⟨Ext.refl _,rfl⟩⟩,?_⟩
            refine⟨⟨fun _ _=>trivial,fun ρ w' hX hG hk=> ?_⟩,?_⟩
            · obtain⟨(e0:ρ (.tmp 63)=Value.pointer (some ⟨p,1,none⟩)),-⟩:=hk;refine Par.val_k fun K hK=> ?_;unfold Par.val
              (have c:=hX.cell HC1.out;go_simp;exact hK _ _ ⟨Ext.refl _,rfl⟩)
            refine⟨⟨fun _ _=>trivial,fun ρ w' hX hG hk=> ?_⟩,?_⟩
            · exact Par.val_of_run rfl ⟨Ext.refl _,hk.1⟩
            refine⟨⟨fun _ _=>trivial,fun ρ w' hX hG hk=> ?_⟩,?_⟩
            · obtain⟨(e0:ρ (.tmp 64)=Value.slice (some ⟨g,0,none⟩) N cap),(e1:ρ (.tmp 65)=Value.int IntKind.i64 (bl:Int)),-⟩:=hk;refine Par.val_k fun K hK=> ?_;unfold Par.val
              (go_simp;exact hK _ _ ⟨Ext.refl _,rfl⟩)
            refine⟨⟨fun _ _=>trivial,fun ρ w' hX hG hk=> ?_⟩,?_⟩
            · obtain⟨(e0:ρ (.tmp 66)=Value.pointer (some ⟨g,bl,none⟩)),-⟩:=hk;refine Par.val_k fun K hK=> ?_;unfold Par.val
              (have c:=hX.cell HK1.out;go_simp;exact hK _ _ ⟨Ext.refl _,rfl⟩)
            refine⟨⟨fun _ _=>trivial,fun ρ w' hX hG hk=> ?_⟩,?_⟩
            · exact Par.val_of_run rfl ⟨Ext.refl _,hk.1⟩
            refine⟨⟨fun _ _=>trivial,fun ρ w' hX hG hk=> ?_⟩,?_⟩
            · obtain⟨(e0:ρ (.tmp 68)=Value.pointer (some ⟨p,1,none⟩)),-⟩:=hk;refine Par.val_k fun K hK=> ?_;unfold Par.val
              (go_simp;exact hK _ _ ⟨Ext.refl _,rfl⟩)
            refine⟨⟨fun _ _=>trivial,fun _ _ _ _ hk=>Par.pv [(69,Value.pointer (some ⟨p,1,none⟩))] hk (by kernel_rfl) ⟨Ext.refl _,rfl⟩⟩,?_⟩
            refine⟨⟨fun _ _=>trivial,fun ρ w' hX hG hk=> ?_⟩,?_⟩
            · obtain⟨(e0:ρ (.tmp 70)=Value.pointer (some ⟨p,1,none⟩)),-⟩:=hk;refine Par.val_k fun K hK=> ?_;unfold Par.val
              (have c:=hX.cell HC1.out;go_simp;exact hK _ _ ⟨Ext.refl _,rfl⟩)
            refine⟨⟨fun _ _=>trivial,fun ρ w' hX hG hk=> ?_⟩,?_⟩
            · exact Par.val_of_run rfl ⟨Ext.refl _,hk.1⟩
            refine⟨⟨fun _ _=>trivial,fun ρ w' hX hG hk=> ?_⟩,?_⟩
            · obtain⟨(e0:ρ (.tmp 71)=Value.slice (some ⟨g,0,none⟩) N cap),(e1:ρ (.tmp 72)=Value.int IntKind.i64 (fi:Int)),-⟩:=hk;refine Par.val_k fun K hK=> ?_;unfold Par.val
              (go_simp;exact hK _ _ ⟨Ext.refl _,rfl⟩)
            refine⟨⟨fun _ _=>trivial,fun ρ w' hX hG hk=> ?_⟩,?_⟩
            · obtain⟨(e0:ρ (.tmp 73)=Value.pointer (some ⟨g,fi,none⟩)),-⟩:=hk;refine Par.val_k fun K hK=> ?_;unfold Par.val
              (have c:=hX.cell HK2.out;go_simp;exact hK _ _ ⟨Ext.refl _,rfl⟩)
            refine⟨⟨fun _ _=>trivial,fun ρ w' hX hG hk=> ?_⟩,?_⟩
            · obtain⟨(e0:ρ (.tmp 60)=FV p),(e1:ρ (.tmp 67)=vU yb),(e2:ρ (.tmp 74)=vU yf),-⟩:=hk;refine Par.val_k fun K hK=> ?_;unfold Par.val
              (refine val_callv e0 (fun a u=>HK.out a u) ?_;simp only[List.map_toArray,List.map_cons,List.map_nil,e1,e2];refine(ahead_any b _ p mt mp nt At r _ yb yf (HT5.out.ext hX)).mono ?_;rintro e u ⟨rfl,n7,rfl⟩;exact⟨_,rfl,hK _ _ ⟨Ext.drewN _ _,congrArg Value.bool HBB.out⟩⟩)
            trivial
          intro a' w' inv
          have hX:=inv.ext
          have hq:=Par.donesI inv;simp only[Par.dones,Par.EQ,true_and,and_true] at hq
          clear inv
          simp only[List.filterMap_cons,List.filterMap_nil,Par.putAll,Act.put,List.setIfInBounds_toArray,List.set_cons_succ,List.set_cons_zero,hq]
          clear hq
          clear a'
          have HT6:=hid (HT5.out.ext hX)
          have HX6:Hid (Ext wr2 _):=hid (HX5.out.trans hX)
          clear hX HC1 c1
          have hbb:=HBB.out
          rw[ahead_key,←HKK.out.1,←HKK.out.2] at hbb
          have HB2:=hid hbb
          clear hbb
          cases BB with
          |true=>
           go_wp2
           go_roundw
           case rel=>
            have h1:rowK At r bl<rowK At r fi:=by simpa using HB2.out
            obtain⟨q1,q2,q3⟩:=HQ.out
            exact⟨bl,bl+1,rfl,by go_num,by omega,by omega,hlt,hid ⟨.inr ⟨by omega,by unfold par;omega⟩,by omega,fun c c0 cb cN cp=>by
             rcases Nat.lt_or_ge c bl with h|h
             · have:=q3 c c0 h cN cp;omega
             · obtain rfl:c=bl:=by omega
               exact Int.le_refl _⟩,HT6,HX6⟩
           case measure=>simp[intOf];omega
          |false=>
           go_wp2
           go_roundw
           case rel=>
            have h1:¬rowK At r bl<rowK At r fi:=by simpa using HB2.out
            obtain⟨q1,q2,q3⟩:=HQ.out
            exact⟨fi,bl+1,rfl,by go_num,by omega,by omega,hfiN,hid ⟨q1,q2,fun c c0 cb cN cp=>by
             rcases Nat.lt_or_ge c bl with h|h
             · exact q3 c c0 h cN cp
             · obtain rfl:c=bl:=by omega
               omega⟩,HT6,HX6⟩
           case measure=>simp[intOf];omega
        · have hd2:decide ((bl:Int)<N)=false:=by simp;omega
          obtain⟨hq1,hq2,hq3⟩:=HQ.out
          have hall:∀c,0<c→c<N→par c=i→rowK At r fi≤rowK At r c:=fun c c0 cN cp=>hq3 c c0 (by have:=par_of c0 cp;omega) cN cp
          have HALL:=hid hall
          have HF6:Hid (Fr [g,mp] w wr3):=hid (HF4.out.trans (Ext.fr HX5.out))
          clear hall hq3
          by_cases hfi:fi=i
          · subst hfi
            have heq:((fi:Int)==(fi:Int))=true:=by simp
            go_wp2
            go_returns
            exact⟨⟨_,rfl⟩,r,HP4.out,HT5.out,down_done HAU.out.1 HAU.out.2 HALL.out,HF6.out⟩
          · have heq:((fi:Int)==(i:Int))=false:=by simp;omega
            have hc1:0<fi∧par fi=i:=by
             rcases hq1 with h|h
             · exact absurd h hfi
             · exact h
            have HC1:=hid hc1
            have HQ2:=hid hq2
            clear hq1 hq2 hc1 hfi
            go_wp2_with fail
            refine(swap_any b wr3 p mt mp nt At r g N cap i fi HT5.out (by have:=HN4.out;omega) (by have:=HN4.out;omega) (by have:=HN4.out;omega)).mono ?_
            rintro e w6 ⟨⟨u,rfl⟩,T6,F6⟩
            have HT6:=hid T6
            have HF7:Hid (Fr [g,mp] w w6):=hid (HF6.out.trans F6)
            have hir:i<r.length:=by have:=HN4.out;omega
            have hfr:fi<r.length:=by have:=HN4.out;omega
            have HIR:=hid hir
            have HFR:=hid hfr
            clear T6 F6 hir hfr
            go_wp2
            go_roundw
            case rel=>
             have hs:=down_step HAU.out.1 HAU.out.2 hiN HC1.out.1 hfiN HC1.out.2 HQ2.out HALL.out
             exact⟨fi,swapL r i fi HIR.out HFR.out,hfiN,rfl,(swap_perm _ _).trans HP4.out,HT6,hid ⟨hs.1.congr hfiN (fun a ha=>rowK_swap _ _ a (by have:=HN4.out;omega)),hs.2.congr hfiN (fun a ha=>rowK_swap _ _ a (by have:=HN4.out;omega))⟩,HF7⟩
            case measure=>
             have:=par_lt HC1.out.1
             have:=HC1.out.2
             simp only[intOf]
             omega
      · have hd1:decide ((bl:Int)≤2*(i:Int)+2)=false:=by simp;omega
        obtain⟨hq1,hq2,hq3⟩:=HQ.out
        have hall:∀c,0<c→c<N→par c=i→rowK At r fi≤rowK At r c:=fun c c0 cN cp=>hq3 c c0 (by have:=par_of c0 cp;omega) cN cp
        have HALL:=hid hall
        have HF6:Hid (Fr [g,mp] w wr3):=hid (HF4.out.trans (Ext.fr HX5.out))
        clear hall hq3
        by_cases hfi:fi=i
        · subst hfi
          have heq:((fi:Int)==(fi:Int))=true:=by simp
          go_wp2
          go_returns
          exact⟨⟨_,rfl⟩,r,HP4.out,HT5.out,down_done HAU.out.1 HAU.out.2 HALL.out,HF6.out⟩
        · have heq:((fi:Int)==(i:Int))=false:=by simp;omega
          have hc1:0<fi∧par fi=i:=by
           rcases hq1 with h|h
           · exact absurd h hfi
           · exact h
          have HC1:=hid hc1
          have HQ2:=hid hq2
          clear hq1 hq2 hc1 hfi
          go_wp2_with fail
          refine(swap_any b wr3 p mt mp nt At r g N cap i fi HT5.out (by have:=HN4.out;omega) (by have:=HN4.out;omega) (by have:=HN4.out;omega)).mono ?_
          rintro e w6 ⟨⟨u,rfl⟩,T6,F6⟩
          have HT6:=hid T6
          have HF7:Hid (Fr [g,mp] w w6):=hid (HF6.out.trans F6)
          have hir:i<r.length:=by have:=HN4.out;omega
          have hfr:fi<r.length:=by have:=HN4.out;omega
          have HIR:=hid hir
          have HFR:=hid hfr
          clear T6 F6 hir hfr
          go_wp2
          go_roundw
          case rel=>
           have hs:=down_step HAU.out.1 HAU.out.2 hiN HC1.out.1 hfiN HC1.out.2 HQ2.out HALL.out
           exact⟨fi,swapL r i fi HIR.out HFR.out,hfiN,rfl,(swap_perm _ _).trans HP4.out,HT6,hid ⟨hs.1.congr hfiN (fun a ha=>rowK_swap _ _ a (by have:=HN4.out;omega)),hs.2.congr hfiN (fun a ha=>rowK_swap _ _ a (by have:=HN4.out;omega))⟩,HF7⟩
          case measure=>
           have:=par_lt HC1.out.1
           have:=HC1.out.2
           simp only[intOf]
           omega
  · have hd:decide ((0:Int)<i)=true:=by simp;omega
    have enter:=HK.out
    obtain⟨hxl,hxe⟩:=List.getElem?_eq_some_iff.1 HX1.out
    have hpl:par i<r.length:=by have:=par_lt (i:=i) (by omega);omega
    obtain⟨y,hy⟩:∃y,r[par i]=y:=⟨_,rfl⟩
    have hc:=HT1.out.ow.cell (par i) hpl
    rw[hy] at hc
    unfold par at hc
    have hcast:=par_cast hi0
    have HC:=hid hcast
    have hkx:rowK At r i=keyI At x:=by rw[rowK_at hxl,hxe]
    have hky:rowK At r (par i)=keyI At y:=by rw[rowK_at hpl,hy]
    have HKK:=hid (And.intro hkx hky)
    have HPL:=hid (And.intro hxl hpl)
    clear hcast hkx hky hpl hy hxl hxe
    have hpN:(i - 1) / 2<N:=by omega
    go_wp2_with fail
    refine(ahead_any b wr1 p mt mp nt At r _ x y HT1.out).mono ?_
    rintro e w2 ⟨rfl,n2,rfl⟩
    have HT2:=hid (HT1.out.ext (Ext.drewN wr1 n2))
    have HF2:Hid (Fr [g,mp] w (wr1.drewN n2)):=hid (HF1.out.trans (Ext.fr (Ext.drewN wr1 n2)))
    rw[ahead_key]
    clear c1 hc hpN
    by_cases hlt:keyI At x<keyI At y
    · rw[show decide (keyI At x<keyI At y)=true by simpa using hlt]
      have HLT:=hid hlt
      clear hlt
      go_wp2_with fail
      have hsw:=swap_any b (wr1.drewN n2) p mt mp nt At r g N cap i (par i) HT2.out HPL.out.1 HPL.out.2 (by have:=HN1.out;omega)
      rw[←HC.out] at hsw
      refine hsw.mono ?_
      rintro e w3 ⟨⟨u,rfl⟩,T3,F3⟩
      have HT3:=hid T3
      have HF3:Hid (Fr [g,mp] w w3):=hid (HF2.out.trans F3)
      clear T3 F3 hsw
      go_wp2
      go_roundw
      case rel=>
       have hs:=up_step HA1.out (by omega) hiN (by rw[HKK.out.1,HKK.out.2];exact HLT.out)
       have hpi:=par_lt (i:=i) (by omega)
       refine⟨par i,swapL r i (par i) HPL.out.1 HPL.out.2,by omega,by rw[HC.out],hid ((swap_perm _ _).trans HP.out),HT3,hid ?_,hid (hs.congr (by omega) (fun a ha=>rowK_swap _ _ a (by have:=HN1.out;omega))),HF3⟩
       rw[List.getElem?_eq_getElem (by rw[swap_len];exact HPL.out.2),swap_j HPL.out.1 HPL.out.2]
       have:=HX1.out
       rwa[List.getElem?_eq_getElem HPL.out.1] at this
      case measure=>simp[intOf];omega
    · rw[show decide (keyI At x<keyI At y)=false by simpa using hlt]
      have HAU3:Hid (AH (rowK At r) N i∧UP (rowK At r) i):=hid ⟨HA1.out,fun _=>by rw[HKK.out.1,HKK.out.2];omega⟩
      clear hlt
      go_wp2
      have HP3:=HP
      have HT3:=HT2
      have HF3:=HF2
      clear HP HT1 HX1 HA1 HF1 HT2 HF2 HKK HPL HC hd hi0 HN1
      go_loopw [6] (fun iv wr=>∃(i:Nat) (r:List UInt64),i<N∧iv= .int .i64 i∧Hid (r.Perm row)∧Hid (Tr b wr p mt mp nt At r (.slice (some ⟨g,0,none⟩) N cap))∧Hid (AH (rowK At r) N i∧UP (rowK At r) i)∧Hid (Fr [g,mp] w wr)) (fun iv _=>N - (intOf iv).toNat)
      case atStart=>exact⟨i,r,hiN,rfl,HP3,HT3,HAU3,HF3⟩
      case round=>
       obtain⟨wr2,hwr2⟩:∃W,W=wr:=⟨_,rfl⟩
       subst hwr2
       clear HP3 HT3 HAU3 HF3 hiN
       obtain⟨i,r,hiN,rfl,HP4,HT4,HAU,HF4⟩:=hrel
       have HN4:Hid (r.length=N):=hid (by rw[HP4.out.length_eq,HN.out])
       go_wp2
       go_loopw [7,8] (fun fv bv wr=>∃(fi bl:Nat),fv= .int .i64 fi∧bv= .int .i64 bl∧2*i+1≤bl∧bl≤2*i+3∧fi<N∧Hid (Least (rowK At r) N i fi bl)∧Hid (Tr b wr p mt mp nt At r (.slice (some ⟨g,0,none⟩) N cap))∧Hid (Ext wr2 wr)) (fun _ bv _=>2*i+3 - (intOf bv).toNat)
       case atStart=>exact⟨i,2*i+1,rfl,by go_num,by omega,by omega,hiN,hid ⟨.inl rfl,Int.le_refl _,fun c c0 cb cN cp=>by have:=par_of c0 cp;omega⟩,HT4,hid (Ext.refl _)⟩
       case round=>
        obtain⟨wr3,hwr3⟩:∃W,W=wr:=⟨_,rfl⟩
        subst hwr3
        obtain⟨fi,bl,rfl,rfl,hb1,hb2,hfiN,HQ,HT5,HX5⟩:=hrel
        obtain⟨-,c1,-⟩:=lk3 HT5.out.hd
        by_cases hle:bl≤2*i+2
        · have hd1:decide ((bl:Int)≤2*(i:Int)+2)=true:=by simp;omega
          by_cases hlt:bl<N
          · have hd2:decide ((bl:Int)<N)=true:=by simp;omega
            obtain⟨yb,hyb⟩:∃y,r[bl]'(by have:=HN4.out;omega)=y:=⟨_,rfl⟩
            obtain⟨yf,hyf⟩:∃y,r[fi]'(by have:=HN4.out;omega)=y:=⟨_,rfl⟩
            have k1:=HT5.out.ow.cell bl (by have:=HN4.out;omega)
            have k2:=HT5.out.ow.cell fi (by have:=HN4.out;omega)
            rw[hyb] at k1
            rw[hyf] at k2
            have hkb:rowK At r bl=keyI At yb:=by rw[rowK_at (by have:=HN4.out;omega),hyb]
            have hkf:rowK At r fi=keyI At yf:=by rw[rowK_at (by have:=HN4.out;omega),hyf]
            have HKK:=hid (And.intro hkb hkf)
            have HK1:=hid k1
            have HK2:=hid k2
            have HC1:=hid c1
            obtain⟨BB,hBB⟩:∃BB,aheadB At yb yf=BB:=⟨_,rfl⟩
            have HBB:=hid hBB
            have hblI:(bl:Int)<N:=by omega
            have hfiI:(fi:Int)<N:=by omega
            clear hkb hkf k1 k2 hyb hyf hBB
            go_wp2
            refine Par.wp_region_par (l:=[_,_,_,_,_,_,_,_,_,_,_,_,_,_,_,_]) rfl Ext (Par.VL [Par.EQ (FV p),Par.EQ (Value.pointer (some ⟨p,1,none⟩)),Par.EQ (Value.pointer (some ⟨p,1,none⟩)),Par.EQ (Value.pointer (some ⟨p,1,none⟩)),Par.EQ (Value.slice (some ⟨g,0,none⟩) N cap),Par.EQ (Value.int IntKind.i64 (bl:Int)),Par.EQ (Value.pointer (some ⟨g,bl,none⟩)),Par.EQ (vU yb),Par.EQ (Value.pointer (some ⟨p,1,none⟩)),Par.EQ (Value.pointer (some ⟨p,1,none⟩)),Par.EQ (Value.pointer (some ⟨p,1,none⟩)),Par.EQ (Value.slice (some ⟨g,0,none⟩) N cap),Par.EQ (Value.int IntKind.i64 (fi:Int)),Par.EQ (Value.pointer (some ⟨g,fi,none⟩)),Par.EQ (vU yf),Par.EQ (Value.bool BB)]) (by kernel_rfl) Ext.refl (fun _ _ _ h1 h2=>Ext.trans h1 h2) (Ext.draw _) (Par.VL_stab ?_) ?_ ?_
            · simp only[List.forall_mem_cons,List.not_mem_nil,false_implies,implies_true,and_true]
              refine⟨fun _ _ _ _ h=>h,fun _ _ _ _ h=>h,fun _ _ _ _ h=>h,fun _ _ _ _ h=>h,fun _ _ _ _ h=>h,fun _ _ _ _ h=>h,fun _ _ _ _ h=>h,fun _ _ _ _ h=>h,fun _ _ _ _ h=>h,fun _ _ _ _ h=>h,fun _ _ _ _ h=>h,fun _ _ _ _ h=>h,fun _ _ _ _ h=>h,fun _ _ _ _ h=>h,fun _ _ _ _ h=>h,fun _ _ _ _ h=>h⟩
            · refine⟨⟨fun _ _=>trivial,fun ρ w' hX hG hk=> ?_⟩,?_⟩
              · exact Par.val_of_run rfl ⟨Ext.refl _,hk.1⟩
              refine⟨⟨fun _ _=>trivial,fun ρ w' hX hG hk=> ?_⟩,?_⟩
              · exact Par.val_of_run rfl ⟨Ext.refl _,hk.1⟩
              refine⟨⟨fun _ _=>trivial,fun ρ w' hX hG hk=> ?_⟩,?_⟩
              · obtain⟨(e0:ρ (.tmp 61)=Value.pointer (some ⟨p,1,none⟩)),-⟩:=hk;refine Par.val_k fun K hK=> ?_;unfold Par.val
                (go_simp;exact hK _ _ ⟨Ext.refl _,rfl⟩)
              refine⟨⟨fun _ _=>trivial,fun _ _ _ _ hk=>Par.pv [(62,Value.pointer (some ⟨p,1,none⟩))] hk (by kernel_rfl) ⟨Ext.refl _,rfl⟩⟩,?_⟩
              refine⟨⟨fun _ _=>trivial,fun ρ w' hX hG hk=> ?_⟩,?_⟩
              · obtain⟨(e0:ρ (.tmp 63)=Value.pointer (some ⟨p,1,none⟩)),-⟩:=hk;refine Par.val_k fun K hK=> ?_;unfold Par.val
                (have c:=hX.cell HC1.out;go_simp;exact hK _ _ ⟨Ext.refl _,rfl⟩)
              refine⟨⟨fun _ _=>trivial,fun ρ w' hX hG hk=> ?_⟩,?_⟩
              · exact Par.val_of_run rfl ⟨Ext.refl _,hk.1⟩
              refine⟨⟨fun _ _=>trivial,fun ρ w' hX hG hk=> ?_⟩,?_⟩
              · obtain⟨(e0:ρ (.tmp 64)=Value.slice (some ⟨g,0,none⟩) N cap),(e1:ρ (.tmp 65)=Value.int IntKind.i64 (bl:Int)),-⟩:=hk;refine Par.val_k fun K hK=> ?_;unfold Par.val
                (go_simp;exact hK _ _ ⟨Ext.refl _,rfl⟩)
              refine⟨⟨fun _ _=>trivial,fun ρ w' hX hG hk=> ?_⟩,?_⟩
              · obtain⟨(e0:ρ (.tmp 66)=Value.pointer (some ⟨g,bl,none⟩)),-⟩:=hk;refine Par.val_k fun K hK=> ?_;unfold Par.val
                (have c:=hX.cell HK1.out;go_simp;exact hK _ _ ⟨Ext.refl _,rfl⟩)
              refine⟨⟨fun _ _=>trivial,fun ρ w' hX hG hk=> ?_⟩,?_⟩
              · exact Par.val_of_run rfl ⟨Ext.refl _,hk.1⟩
              refine⟨⟨fun _ _=>trivial,fun ρ w' hX hG hk=> ?_⟩,?_⟩
              · obtain⟨(e0:ρ (.tmp 68)=Value.pointer (some ⟨p,1,none⟩)),-⟩:=hk;refine Par.val_k fun K hK=> ?_;unfold Par.val
                (go_simp;exact hK _ _ ⟨Ext.refl _,rfl⟩)
              refine⟨⟨fun _ _=>trivial,fun _ _ _ _ hk=>Par.pv [(69,Value.pointer (some ⟨p,1,none⟩))] hk (by kernel_rfl) ⟨Ext.refl _,rfl⟩⟩,?_⟩
              refine⟨⟨fun _ _=>trivial,fun ρ w' hX hG hk=> ?_⟩,?_⟩
              · obtain⟨(e0:ρ (.tmp 70)=Value.pointer (some ⟨p,1,none⟩)),-⟩:=hk;refine Par.val_k fun K hK=> ?_;unfold Par.val
                (have c:=hX.cell HC1.out;go_simp;exact hK _ _ ⟨Ext.refl _,rfl⟩)
              refine⟨⟨fun _ _=>trivial,fun ρ w' hX hG hk=> ?_⟩,?_⟩
              · exact Par.val_of_run rfl ⟨Ext.refl _,hk.1⟩
              refine⟨⟨fun _ _=>trivial,fun ρ w' hX hG hk=> ?_⟩,?_⟩
              · obtain⟨(e0:ρ (.tmp 71)=Value.slice (some ⟨g,0,none⟩) N cap),(e1:ρ (.tmp 72)=Value.int IntKind.i64 (fi:Int)),-⟩:=hk;refine Par.val_k fun K hK=> ?_;unfold Par.val
                (go_simp;exact hK _ _ ⟨Ext.refl _,rfl⟩)
              refine⟨⟨fun _ _=>trivial,fun ρ w' hX hG hk=> ?_⟩,?_⟩
              · obtain⟨(e0:ρ (.tmp 73)=Value.pointer (some ⟨g,fi,none⟩)),-⟩:=hk;refine Par.val_k fun K hK=> ?_;unfold Par.val
                (have c:=hX.cell HK2.out;go_simp;exact hK _ _ ⟨Ext.refl _,rfl⟩)
              refine⟨⟨fun _ _=>trivial,fun ρ w' hX hG hk=> ?_⟩,?_⟩
              · obtain⟨(e0:ρ (.tmp 60)=FV p),(e1:ρ (.tmp 67)=vU yb),(e2:ρ (.tmp 74)=vU yf),-⟩:=hk;refine Par.val_k fun K hK=> ?_;unfold Par.val
                (refine val_callv e0 (fun a u=>HK.out a u) ?_;simp only[List.map_toArray,List.map_cons,List.map_nil,e1,e2];refine(ahead_any b _ p mt mp nt At r _ yb yf (HT5.out.ext hX)).mono ?_;rintro e u ⟨rfl,n7,rfl⟩;exact⟨_,rfl,hK _ _ ⟨Ext.drewN _ _,congrArg Value.bool HBB.out⟩⟩)
              trivial
            intro a' w' inv
            have hX:=inv.ext
            have hq:=Par.donesI inv;simp only[Par.dones,Par.EQ,true_and,and_true] at hq
            clear inv
            simp only[List.filterMap_cons,List.filterMap_nil,Par.putAll,Act.put,List.setIfInBounds_toArray,List.set_cons_succ,List.set_cons_zero,hq]
            clear hq
            clear a'
            have HT6:=hid (HT5.out.ext hX)
            have HX6:Hid (Ext wr2 _):=hid (HX5.out.trans hX)
            clear hX HC1 c1
            have hbb:=HBB.out
            rw[ahead_key,←HKK.out.1,←HKK.out.2] at hbb
            have HB2:=hid hbb
            clear hbb
            cases BB with
            |true=>
             go_wp2
             go_roundw
             case rel=>
              have h1:rowK At r bl<rowK At r fi:=by simpa using HB2.out
              obtain⟨q1,q2,q3⟩:=HQ.out
              exact⟨bl,bl+1,rfl,by go_num,by omega,by omega,hlt,hid ⟨.inr ⟨by omega,by unfold par;omega⟩,by omega,fun c c0 cb cN cp=>by
               rcases Nat.lt_or_ge c bl with h|h
               · have:=q3 c c0 h cN cp;omega
               · obtain rfl:c=bl:=by omega
                 exact Int.le_refl _⟩,HT6,HX6⟩
             case measure=>simp[intOf];omega
            |false=>
             go_wp2
             go_roundw
             case rel=>
              have h1:¬rowK At r bl<rowK At r fi:=by simpa using HB2.out
              obtain⟨q1,q2,q3⟩:=HQ.out
              exact⟨fi,bl+1,rfl,by go_num,by omega,by omega,hfiN,hid ⟨q1,q2,fun c c0 cb cN cp=>by
               rcases Nat.lt_or_ge c bl with h|h
               · exact q3 c c0 h cN cp
               · obtain rfl:c=bl:=by omega
                 omega⟩,HT6,HX6⟩
             case measure=>simp[intOf];omega
          · have hd2:decide ((bl:Int)<N)=false:=by simp;omega
            obtain⟨hq1,hq2,hq3⟩:=HQ.out
            have hall:∀c,0<c→c<N→par c=i→rowK At r fi≤rowK At r c:=fun c c0 cN cp=>hq3 c c0 (by have:=par_of c0 cp;omega) cN cp
            have HALL:=hid hall
            have HF6:Hid (Fr [g,mp] w wr3):=hid (HF4.out.trans (Ext.fr HX5.out))
            clear hall hq3
            by_cases hfi:fi=i
            · subst hfi
              have heq:((fi:Int)==(fi:Int))=true:=by simp
              go_wp2
              go_returns
              exact⟨⟨_,rfl⟩,r,HP4.out,HT5.out,down_done HAU.out.1 HAU.out.2 HALL.out,HF6.out⟩
            · have heq:((fi:Int)==(i:Int))=false:=by simp;omega
              have hc1:0<fi∧par fi=i:=by
               rcases hq1 with h|h
               · exact absurd h hfi
               · exact h
              have HC1:=hid hc1
              have HQ2:=hid hq2
              clear hq1 hq2 hc1 hfi
              go_wp2_with fail
              refine(swap_any b wr3 p mt mp nt At r g N cap i fi HT5.out (by have:=HN4.out;omega) (by have:=HN4.out;omega) (by have:=HN4.out;omega)).mono ?_
              rintro e w6 ⟨⟨u,rfl⟩,T6,F6⟩
              have HT6:=hid T6
              have HF7:Hid (Fr [g,mp] w w6):=hid (HF6.out.trans F6)
              have hir:i<r.length:=by have:=HN4.out;omega
              have hfr:fi<r.length:=by have:=HN4.out;omega
              have HIR:=hid hir
              have HFR:=hid hfr
              clear T6 F6 hir hfr
              go_wp2
              go_roundw
              case rel=>
               have hs:=down_step HAU.out.1 HAU.out.2 hiN HC1.out.1 hfiN HC1.out.2 HQ2.out HALL.out
               exact⟨fi,swapL r i fi HIR.out HFR.out,hfiN,rfl,(swap_perm _ _).trans HP4.out,HT6,hid ⟨hs.1.congr hfiN (fun a ha=>rowK_swap _ _ a (by have:=HN4.out;omega)),hs.2.congr hfiN (fun a ha=>rowK_swap _ _ a (by have:=HN4.out;omega))⟩,HF7⟩
              case measure=>
               have:=par_lt HC1.out.1
               have:=HC1.out.2
               simp only[intOf]
               omega
        · have hd1:decide ((bl:Int)≤2*(i:Int)+2)=false:=by simp;omega
          obtain⟨hq1,hq2,hq3⟩:=HQ.out
          have hall:∀c,0<c→c<N→par c=i→rowK At r fi≤rowK At r c:=fun c c0 cN cp=>hq3 c c0 (by have:=par_of c0 cp;omega) cN cp
          have HALL:=hid hall
          have HF6:Hid (Fr [g,mp] w wr3):=hid (HF4.out.trans (Ext.fr HX5.out))
          clear hall hq3
          by_cases hfi:fi=i
          · subst hfi
            have heq:((fi:Int)==(fi:Int))=true:=by simp
            go_wp2
            go_returns
            exact⟨⟨_,rfl⟩,r,HP4.out,HT5.out,down_done HAU.out.1 HAU.out.2 HALL.out,HF6.out⟩
          · have heq:((fi:Int)==(i:Int))=false:=by simp;omega
            have hc1:0<fi∧par fi=i:=by
             rcases hq1 with h|h
             · exact absurd h hfi
             · exact h
            have HC1:=hid hc1
            have HQ2:=hid hq2
            clear hq1 hq2 hc1 hfi
            go_wp2_with fail
            refine(swap_any b wr3 p mt mp nt At r g N cap i fi HT5.out (by have:=HN4.out;omega) (by have:=HN4.out;omega) (by have:=HN4.out;omega)).mono ?_
            rintro e w6 ⟨⟨u,rfl⟩,T6,F6⟩
            have HT6:=hid T6
            have HF7:Hid (Fr [g,mp] w w6):=hid (HF6.out.trans F6)
            have hir:i<r.length:=by have:=HN4.out;omega
            have hfr:fi<r.length:=by have:=HN4.out;omega
            have HIR:=hid hir
            have HFR:=hid hfr
            clear T6 F6 hir hfr
            go_wp2
            go_roundw
            case rel=>
             have hs:=down_step HAU.out.1 HAU.out.2 hiN HC1.out.1 hfiN HC1.out.2 HQ2.out HALL.out
             exact⟨fi,swapL r i fi HIR.out HFR.out,hfiN,rfl,(swap_perm _ _).trans HP4.out,HT6,hid ⟨hs.1.congr hfiN (fun a ha=>rowK_swap _ _ a (by have:=HN4.out;omega)),hs.2.congr hfiN (fun a ha=>rowK_swap _ _ a (by have:=HN4.out;omega))⟩,HF7⟩
            case measure=>
             have:=par_lt HC1.out.1
             have:=HC1.out.2
             simp only[intOf]
             omega
end Go.Proofs.YtcfgafododiioaaGreatDoor
