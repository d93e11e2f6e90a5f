/- Texts of a claim, side by side. -/
import Derived.Test.YtcfgafododiioaaGreatDoorC11
import Derived.Shelf.Utf8.RuneCount
import Derived.Shelf.Unicode.DecodeSlow
import Derived.Shelf.Unicode.DecodeAny
import Derived.Shelf.Strings.MapAny
import Derived.Shelf.Small.Bits
import Derived.Shelf.SlSortCmp.NoneTotal
import Derived.Test.YtcfgafododiioaaGreatDoorProg
set_option linter.unusedSimpArgs false
set_option linter.unusedVariables false
namespace Go.Proofs.YtcfgafododiioaaGreatDoor
open Go Go.RowKit Go.Tum Go.ChangeMaps Go.Sort
open Go.ParB (upd Lof)
open Go.ParE (putS slotsR slots Closed)
theorem Grw.draw (w:World):Grw w {w with drawn:=w.drawn+1}:=⟨1,#[],by rw[grow_empty];rfl⟩
theorem Grw.alloc (w:World) (o:Obj):Grw w (w.alloc o):=⟨0,#[o],by rw[alloc_eq_grow];rfl⟩
theorem Grw.trans {a b c:World} (h:Grw a b) (k:Grw b c):Grw a c:=by
 obtain⟨q,os,rfl⟩:=h
 obtain⟨q2,os2,rfl⟩:=k
 exact⟨q+q2,os++os2,by simp[World.drewN,grow,Nat.add_assoc,Array.append_assoc]⟩
theorem Grw.ext {a b:World} (h:Grw a b):Ext a b:=by
 obtain⟨q,os,rfl⟩:=h
 exact⟨rfl,rfl,rfl,by simp[World.drewN,grow],fun k hk=>by simp[World.drewN,grow,Array.getElem?_append,hk]⟩
def cmpU (x y:UInt64):Int:=if x<y then -1 else if y<x then 1 else 0
theorem nan_any (x:UInt64) (w:World):Calls Tryz.prog 156 #[vU x] w fun e w'=>e= .returned (.bool false)∧w=w':=by
 go_enter Tryz.func156,Tryz.ntmps156
 go_wp2
 go_ret
 exact⟨by simp,rfl⟩
set_option maxHeartbeats 1000000 in
theorem compare_any (x y:UInt64) (w:World):Calls Tryz.prog 114 #[vU x,vU y] w fun e w'=>e= .returned (.int .i64 (cmpU x y))∧w=w':=by
 unfold cmpU
 by_cases h1:x<y
 · have e1:decide (x.toNat<y.toNat)=true:=by simpa using UInt64.lt_iff_toNat_lt.1 h1
   rw[if_pos h1]
   clear h1
   go_enter Tryz.func114,Tryz.ntmps114
   go_wp2_with fail
   refine(nan_any x w).mono ?_
   rintro e w1 ⟨rfl,rfl⟩
   go_wp2_with fail
   refine(nan_any y w).mono ?_
   rintro e w1 ⟨rfl,rfl⟩
   go_wp2
   go_ret
   exact⟨rfl,rfl⟩
 · have e1:decide (x.toNat<y.toNat)=false:=by rw[UInt64.lt_iff_toNat_lt] at h1;simpa using h1
   rw[if_neg h1]
   clear h1
   by_cases h2:y<x
   · have e2:decide (y.toNat<x.toNat)=true:=by simpa using UInt64.lt_iff_toNat_lt.1 h2
     rw[if_pos h2]
     clear h2
     go_enter Tryz.func114,Tryz.ntmps114
     go_wp2_with fail
     refine(nan_any x w).mono ?_
     rintro e w1 ⟨rfl,rfl⟩
     go_wp2_with fail
     refine(nan_any y w).mono ?_
     rintro e w1 ⟨rfl,rfl⟩
     go_wp2
     go_ret
     exact⟨rfl,rfl⟩
   · have e2:decide (y.toNat<x.toNat)=false:=by rw[UInt64.lt_iff_toNat_lt] at h2;simpa using h2
     rw[if_neg h2]
     clear h2
     go_enter Tryz.func114,Tryz.ntmps114
     go_wp2_with fail
     refine(nan_any x w).mono ?_
     rintro e w1 ⟨rfl,rfl⟩
     go_wp2_with fail
     refine(nan_any y w).mono ?_
     rintro e w1 ⟨rfl,rfl⟩
     go_wp2
     go_ret
     exact⟨rfl,rfl⟩
def or2 (a b:Int):Int:=if a≠0 then a else b
set_option maxHeartbeats 1000000 in
theorem or_any (a b:Int) (g:Nat) (w:World) (e:Nat) (h:w.heap[g]? =some (.cells #[.int .i64 a,.int .i64 b] e (0,0))):
 Calls Tryz.prog 141 #[.slice (some ⟨g,0,none⟩) 2 2] w fun e w'=>e= .returned (.int .i64 (or2 a b))∧w=w':=by
 obtain⟨c0,c1,-⟩:=lk2 h
 clear h
 go_enter Tryz.func141,Tryz.ntmps141
 go_wp2
 go_loopw [8] (fun i wr=>∃k:Nat,k≤2∧i= .int .i64 k∧(1≤k→a=0)∧(2≤k→b=0)∧wr=w) (fun i _=>2 - (intOf i).toNat)
 case atStart=>exact⟨0,by omega,rfl,by omega,by omega,rfl⟩
 case round=>
  obtain⟨k,hk,rfl,h1,h2,rfl⟩:=hrel
  rcases(show k=0∨k=1∨k=2 by omega) with rfl|rfl|rfl
  · by_cases ha:a=0
    · have ea:(a !=0)=false:=by simp[ha]
      have HA:=hid ha
      clear ha h1 h2
      go_wp2
      go_roundw
      case rel=>exact⟨1,by omega,by go_num,fun _=>HA.out,fun h=>by omega,trivial⟩
      case measure=>simp[intOf]
    · have ea:(a !=0)=true:=by simpa using ha
      have HA:=hid ha
      clear ha h1 h2
      go_wp2
      go_ret
      exact⟨by unfold or2;rw[if_pos HA.out];rfl,rfl⟩
  · have HA:=hid (h1 (by omega))
    clear h1 h2
    by_cases hb:b=0
    · have eb:(b !=0)=false:=by simp[hb]
      have HB:=hid hb
      clear hb
      go_wp2
      go_roundw
      case rel=>exact⟨2,by omega,by go_num,fun _=>HA.out,fun _=>HB.out,trivial⟩
      case measure=>simp[intOf]
    · have eb:(b !=0)=true:=by simpa using hb
      have HB:=hid hb
      clear hb
      go_wp2
      go_ret
      exact⟨by unfold or2;rw[if_neg (by simp[HA.out])];rfl,rfl⟩
  · have HA:=hid (h1 (by omega))
    have HB:=hid (h2 (by omega))
    clear h1 h2
    go_wp2
    go_ret
    exact⟨by unfold or2;rw[if_neg (by simp[HA.out]),HB.out];rfl,rfl⟩
def cfP (a b:UInt64×UInt64):Int:=or2 (cmpU a.2 b.2) (cmpU a.1 b.1)
abbrev encR (x:UInt64×UInt64):List Value:=[vU x.1,vU x.2]
def ByQ (W:World) (a b:UInt64×UInt64) (i:Nat) (σ:Nat→Value) (w':World):Prop:=Grw W w'∧match i with
 |1=>∃g e,σ 15= .slice (some ⟨g,0,none⟩) 2 2∧w'.heap[g]? =some (.cells #[.int .i64 (cmpU a.2 b.2),.int .i64 (cmpU a.1 b.1)] e (0,0))
 |_=>True
set_option maxRecDepth 100000 in
set_option maxHeartbeats 1000000 in
theorem byPlace_any (a b:UInt64×UInt64) (w:World):Calls Tryz.prog 158 #[.agg (encR a).toArray,.agg (encR b).toArray] w fun e w'=>e= .returned (.int .i64 (cfP a b))∧Grw w w':=by
 obtain⟨a1,a2⟩:=a
 obtain⟨b1,b2⟩:=b
 show Calls Tryz.prog 158 #[.agg #[vU a1,vU a2],.agg #[vU b1,vU b2]] w fun e w'=>e= .returned (.int .i64 (cfP (a1,a2) (b1,b2)))∧Grw w w'
 have HB0:=(Ext.alloc _ _).obj (heap_alloc_new w (.cells #[vU a1,vU a2] 96 (0,0))) (w':=(w.alloc (.cells #[vU a1,vU a2] 96 (0,0))).alloc (.cells #[vU b1,vU b2] 96 (0,0)))
 have HB1:=heap_alloc_new (w.alloc (.cells #[vU a1,vU a2] 96 (0,0))) (.cells #[vU b1,vU b2] 96 (0,0))
 have HG:Hid (Grw w ((w.alloc (.cells #[vU a1,vU a2] 96 (0,0))).alloc (.cells #[vU b1,vU b2] 96 (0,0)))):=hid ((Grw.alloc _ _).trans (Grw.alloc _ _))
 rw[World.size_alloc] at HB1
 go_enter Tryz.func158,Tryz.ntmps158
 go_wp2_with fail
 generalize (w.alloc (.cells #[vU a1,vU a2] 96 (0,0))).alloc (.cells #[vU b1,vU b2] 96 (0,0))=W1 at*
 have H0:=hid HB0
 have H1:=hid HB1
 clear HB0 HB1
 refine ParE.wp_region_e (l:=[_,_,_,_,_,_,_,_,_,_,_,_,_]) rfl (Rg.Ch [10] [15] (ByQ W1 (a1,a2) (b1,b2))) (ParC.VC [ParC.EQ (Value.pointer (some ⟨w.heap.size,1,none⟩)),ParC.EQ (vU a2),ParC.EQ (Value.pointer (some ⟨w.heap.size+1,1,none⟩)),ParC.EQ (vU b2),ParC.EQ (Value.int IntKind.i64 (cmpU a2 b2)),ParC.EQ (Value.pointer (some ⟨w.heap.size,0,none⟩)),ParC.EQ (vU a1),ParC.EQ (Value.pointer (some ⟨w.heap.size+1,0,none⟩)),ParC.EQ (vU b1),ParC.EQ (Value.int IntKind.i64 (cmpU a1 b1)),(fun _=>True),ParC.EQ (Value.int IntKind.i64 (or2 (cmpU a2 b2) (cmpU a1 b1))),ParC.EQ (Value.int IntKind.i64 (or2 (cmpU a2 b2) (cmpU a1 b1)))]) (by kernel_rfl) (by kernel_rfl) (Rg.Ch.start ⟨Grw.draw _,trivial⟩) ?_ ?_
 · refine⟨fun _ _ _ hR _ _ _ hk=>Par.pv [(2,Value.pointer (some ⟨w.heap.size,0,none⟩))] hk (by kernel_rfl) ⟨hR.other (by decide),rfl⟩,?_⟩
   refine⟨fun L ρ w' hR hC hL hd hk=> ?_,?_⟩
   · obtain⟨(e0:ρ (.tmp 5)=Value.pointer (some ⟨w.heap.size,1,none⟩)),-⟩:=hk;refine Par.val_k fun K hK=> ?_;unfold Par.val
     (obtain⟨i,-,-,hx,-⟩:=hR.ex;have cc:=(lk2 (hx.ext.obj H0.out)).2.1;go_simp;exact hK _ _ ⟨hR.other (by decide),rfl⟩)
   refine⟨fun _ _ _ hR _ _ _ hk=>Par.pv [(3,Value.pointer (some ⟨w.heap.size+1,0,none⟩))] hk (by kernel_rfl) ⟨hR.other (by decide),rfl⟩,?_⟩
   refine⟨fun L ρ w' hR hC hL hd hk=> ?_,?_⟩
   · obtain⟨(e0:ρ (.tmp 7)=Value.pointer (some ⟨w.heap.size+1,1,none⟩)),-⟩:=hk;refine Par.val_k fun K hK=> ?_;unfold Par.val
     (obtain⟨i,-,-,hx,-⟩:=hR.ex;have cc:=(lk2 (hx.ext.obj H1.out)).2.1;go_simp;exact hK _ _ ⟨hR.other (by decide),rfl⟩)
   refine⟨fun L ρ w' hR hC hL hd hk=> ?_,?_⟩
   · obtain⟨e0,(e1:ρ (.tmp 6)=vU a2),(e2:ρ (.tmp 8)=vU b2),-⟩:=hk;refine Par.val_k fun K hK=> ?_;unfold Par.val
     (refine Par.val_call Tryz.func114 (by kernel_rfl) rfl e0 ?_;simp only[List.map_toArray,List.map_cons,List.map_nil,e1,e2];refine(compare_any a2 b2 _).mono ?_;rintro e w2 ⟨rfl,rfl⟩;exact⟨_,rfl,hK _ _ ⟨hR.other (by decide),rfl⟩⟩)
   refine⟨fun _ _ _ hR _ _ _ hk=>Par.pv [(2,Value.pointer (some ⟨w.heap.size,0,none⟩))] hk (by kernel_rfl) ⟨hR.other (by decide),rfl⟩,?_⟩
   refine⟨fun L ρ w' hR hC hL hd hk=> ?_,?_⟩
   · obtain⟨(e0:ρ (.tmp 10)=Value.pointer (some ⟨w.heap.size,0,none⟩)),-⟩:=hk;refine Par.val_k fun K hK=> ?_;unfold Par.val
     (obtain⟨i,-,-,hx,-⟩:=hR.ex;have cc:=(lk2 (hx.ext.obj H0.out)).1;go_simp;exact hK _ _ ⟨hR.other (by decide),rfl⟩)
   refine⟨fun _ _ _ hR _ _ _ hk=>Par.pv [(3,Value.pointer (some ⟨w.heap.size+1,0,none⟩))] hk (by kernel_rfl) ⟨hR.other (by decide),rfl⟩,?_⟩
   refine⟨fun L ρ w' hR hC hL hd hk=> ?_,?_⟩
   · obtain⟨(e0:ρ (.tmp 12)=Value.pointer (some ⟨w.heap.size+1,0,none⟩)),-⟩:=hk;refine Par.val_k fun K hK=> ?_;unfold Par.val
     (obtain⟨i,-,-,hx,-⟩:=hR.ex;have cc:=(lk2 (hx.ext.obj H1.out)).1;go_simp;exact hK _ _ ⟨hR.other (by decide),rfl⟩)
   refine⟨fun L ρ w' hR hC hL hd hk=> ?_,?_⟩
   · obtain⟨e0,(e1:ρ (.tmp 11)=vU a1),(e2:ρ (.tmp 13)=vU b1),-⟩:=hk;refine Par.val_k fun K hK=> ?_;unfold Par.val
     (refine Par.val_call Tryz.func114 (by kernel_rfl) rfl e0 ?_;simp only[List.map_toArray,List.map_cons,List.map_nil,e1,e2];refine(compare_any a1 b1 _).mono ?_;rintro e w2 ⟨rfl,rfl⟩;exact⟨_,rfl,hK _ _ ⟨hR.other (by decide),rfl⟩⟩)
   refine⟨fun L ρ w' hR hC hL hd hk=> ?_,?_⟩
   · obtain⟨(e0:ρ (.tmp 9)=Value.int IntKind.i64 (cmpU a2 b2)),(e1:ρ (.tmp 14)=Value.int IntKind.i64 (cmpU a1 b1)),-⟩:=hk;refine Par.val_k fun K hK=> ?_;unfold Par.val
     (obtain⟨hq,hs⟩:=hR.go 0 rfl hL (.inl rfl) (by decide);have hx:=hq.1;go_simp;exact hK _ _ ⟨hs _ _ _ ⟨hx.trans (Grw.alloc _ _),_,_,rfl,heap_alloc_new _ _⟩,trivial⟩)
   refine⟨fun L ρ w' hR hC hL hd hk=> ?_,?_⟩
   · obtain⟨e0,(e1:(fun _=>True) (ρ (.tmp 15))),-⟩:=hk;refine Par.val_k fun K hK=> ?_;unfold Par.val
     (have h10:=hC.before 10 (i:=11) rfl hd (by kernel_rfl);obtain⟨i,hi,hl,hx,hm⟩:=hR.ex;obtain rfl:i=1:=(by have:=hl 0 10 rfl;rw[h10] at this;simp at this hi;omega);obtain⟨g,e9,hg1,hg2⟩:=hm;have e3:ρ (.tmp 15)= .slice (some ⟨g,0,none⟩) 2 2:=hg1;refine Par.val_call Tryz.func141 (by kernel_rfl) rfl e0 ?_;simp only[List.map_toArray,List.map_cons,List.map_nil,e3];refine(or_any _ _ g _ _ hg2).mono ?_;rintro e w2 ⟨rfl,rfl⟩;exact⟨_,rfl,hK _ _ ⟨hR.other (by decide),rfl⟩⟩)
   refine⟨fun L ρ w' hR hC hL hd hk=> ?_,?_⟩
   · exact Par.val_of_run rfl ⟨hR.other (by decide),hk.1⟩
   trivial
 intro a' w' inv hR
 have q15:(fun _=>True) (a'.tmps.getD 15 undef):=inv.done 10 _ 15 rfl rfl rfl
 have hq:=Par.donesC inv;simp only[Par.donesV,ParC.EQ,true_and,and_true] at hq
 clear inv
 simp only[List.filterMap_cons,List.filterMap_nil,Par.putAll,Act.put,List.setIfInBounds_toArray,List.set_cons_succ,List.set_cons_zero,hq]
 clear hq
 obtain⟨hx,-⟩:=Rg.Ch.fin hR (by decide) 1 rfl;have HX:=hid hx;clear hx hR
 generalize a'.tmps.getD 15 undef=u15 at*
 try clear a'
 go_wp2
 go_ret
 exact⟨rfl,HG.out.trans HX.out⟩
end Go.Proofs.YtcfgafododiioaaGreatDoor
namespace Go.Proofs
open Go.Shelf
def Tryz.lays125_ren:Go.Shelf.Ren:=⟨fun|125=>113|128=>154|129=>155|n=>n,fun|46=>182|3=>3|51=>214|53=>36|4=>4|5=>5|9=>9|n=>n,fun|n=>n⟩
theorem Tryz.lays125:Go.Proofs.Lays.n125 Tryz.prog Tryz.lays125_ren:={
 mixed:=by kernel_rfl
 f125:=Tryz.func113.trans (congrArg some (by kernel_rfl))
 f128:=Tryz.func154.trans (congrArg some (by kernel_rfl))
 f129:=Tryz.func155.trans (congrArg some (by kernel_rfl))
 t3:=Tryz.underlying3
 a3:=Tryz.isAgg3
 z3:=Tryz.sizeOf3
 v3:=Tryz.zeroValue3
 t4:=Tryz.underlying4
 a4:=Tryz.isAgg4
 z4:=Tryz.sizeOf4
 v4:=Tryz.zeroValue4
 t5:=Tryz.underlying5
 a5:=Tryz.isAgg5
 z5:=Tryz.sizeOf5
 v5:=Tryz.zeroValue5
 t9:=Tryz.underlying9
 a9:=Tryz.isAgg9
 z9:=Tryz.sizeOf9
 v9:=Tryz.zeroValue9
 t46:=Tryz.underlying182
 a46:=Tryz.isAgg182
 z46:=Tryz.sizeOf182
 v46:=Tryz.zeroValue182
 t51:=Tryz.underlying214
 a51:=Tryz.isAgg214
 z51:=Tryz.sizeOf214
 v51:=Tryz.zeroValue214
 t53:=Tryz.underlying36
 a53:=Tryz.isAgg36
 z53:=Tryz.sizeOf36
 v53:=Tryz.zeroValue36}
theorem Tryz.bits_Len (x:Int) (w:World) (h0:0≤x) (h1:x≤18446744073709551615):
 Calls Tryz.prog 113 #[.int .u64 x] w fun e w'=>e= .returned (.int .i64 (Lib.bitLen x.toNat))∧w'=w:=Any.bits_Len Tryz.lays125 x w h0 h1
def Tryz.lays197_ren:Go.Shelf.Ren:=⟨fun|197=>191|260=>215|n=>n,fun|9=>9|21=>21|3=>3|4=>4|5=>5|105=>253|119=>285|0=>0|46=>182|139=>288|138=>287|n=>n,fun|3=>0|4=>1|n=>n⟩
theorem Tryz.lays197:Go.Proofs.Lays.n197 Tryz.prog Tryz.lays197_ren:={
 mixed:=by kernel_rfl
 f197:=Tryz.func191.trans (congrArg some (by kernel_rfl))
 f260:=Tryz.func215.trans (congrArg some (by kernel_rfl))
 t0:=Tryz.underlying0
 a0:=Tryz.isAgg0
 z0:=Tryz.sizeOf0
 v0:=Tryz.zeroValue0
 t3:=Tryz.underlying3
 a3:=Tryz.isAgg3
 z3:=Tryz.sizeOf3
 v3:=Tryz.zeroValue3
 t4:=Tryz.underlying4
 a4:=Tryz.isAgg4
 z4:=Tryz.sizeOf4
 v4:=Tryz.zeroValue4
 t5:=Tryz.underlying5
 a5:=Tryz.isAgg5
 z5:=Tryz.sizeOf5
 v5:=Tryz.zeroValue5
 t9:=Tryz.underlying9
 a9:=Tryz.isAgg9
 z9:=Tryz.sizeOf9
 v9:=Tryz.zeroValue9
 t21:=Tryz.underlying21
 a21:=Tryz.isAgg21
 z21:=Tryz.sizeOf21
 v21:=Tryz.zeroValue21
 t46:=Tryz.underlying182
 a46:=Tryz.isAgg182
 z46:=Tryz.sizeOf182
 v46:=Tryz.zeroValue182
 t105:=Tryz.underlying253
 a105:=Tryz.isAgg253
 z105:=Tryz.sizeOf253
 v105:=Tryz.zeroValue253
 t119:=Tryz.underlying285
 a119:=Tryz.isAgg285
 z119:=Tryz.sizeOf285
 t138:=Tryz.underlying287
 a138:=Tryz.isAgg287
 z138:=Tryz.sizeOf287
 v138:=Tryz.zeroValue287
 t139:=Tryz.underlying288
 a139:=Tryz.isAgg288
 z139:=Tryz.sizeOf288
 v139:=Tryz.zeroValue288
 g3:=by kernel_rfl
 g4:=by kernel_rfl}
open Go.RowKit Go.Lib in
theorem Tryz.utf8_DecodeRuneInString (s:ByteArray) (w:World) (hT:Lib.Utf8Tabs 0 1 w):
 Calls Tryz.prog 191 #[.string s] w fun e w'=>e= .returned (.tuple #[.int .i32 (Lib.decodeGo s).1,.int .i64 (Lib.decodeGo s).2])∧Below w.heap.size w w':=Any.utf8_DecodeRuneInString Tryz.lays197 s w hT
def Tryz.lays230_ren:Go.Shelf.Ren:=⟨fun|230=>174|197=>191|118=>196|165=>197|166=>198|168=>199|270=>200|167=>201|169=>202|260=>215|240=>216|241=>217|242=>218|276=>223|277=>224|278=>225|n=>n,fun|107=>240|9=>9|72=>260|0=>0|4=>4|3=>3|21=>21|105=>253|76=>265|5=>5|75=>264|70=>257|20=>20|37=>258|127=>281|119=>285|46=>182|139=>288|138=>287|164=>289|51=>214|80=>269|n=>n,fun|3=>0|4=>1|n=>n⟩
theorem Tryz.lays230:Go.Proofs.Lays.n230 Tryz.prog Tryz.lays230_ren:={
 mixed:=by kernel_rfl
 f118:=Tryz.func196.trans (congrArg some (by kernel_rfl))
 f165:=Tryz.func197.trans (congrArg some (by kernel_rfl))
 f166:=Tryz.func198.trans (congrArg some (by kernel_rfl))
 f167:=Tryz.func201.trans (congrArg some (by kernel_rfl))
 f168:=Tryz.func199.trans (congrArg some (by kernel_rfl))
 f169:=Tryz.func202.trans (congrArg some (by kernel_rfl))
 f197:=Tryz.func191.trans (congrArg some (by kernel_rfl))
 f230:=Tryz.func174.trans (congrArg some (by kernel_rfl))
 f240:=Tryz.func216.trans (congrArg some (by kernel_rfl))
 f241:=Tryz.func217.trans (congrArg some (by kernel_rfl))
 f242:=Tryz.func218.trans (congrArg some (by kernel_rfl))
 f260:=Tryz.func215.trans (congrArg some (by kernel_rfl))
 f270:=Tryz.func200.trans (congrArg some (by kernel_rfl))
 f276:=Tryz.func223.trans (congrArg some (by kernel_rfl))
 f277:=Tryz.func224.trans (congrArg some (by kernel_rfl))
 f278:=Tryz.func225.trans (congrArg some (by kernel_rfl))
 t0:=Tryz.underlying0
 a0:=Tryz.isAgg0
 z0:=Tryz.sizeOf0
 v0:=Tryz.zeroValue0
 t3:=Tryz.underlying3
 a3:=Tryz.isAgg3
 z3:=Tryz.sizeOf3
 v3:=Tryz.zeroValue3
 t4:=Tryz.underlying4
 a4:=Tryz.isAgg4
 z4:=Tryz.sizeOf4
 v4:=Tryz.zeroValue4
 t5:=Tryz.underlying5
 a5:=Tryz.isAgg5
 z5:=Tryz.sizeOf5
 v5:=Tryz.zeroValue5
 t9:=Tryz.underlying9
 a9:=Tryz.isAgg9
 z9:=Tryz.sizeOf9
 v9:=Tryz.zeroValue9
 t20:=Tryz.underlying20
 a20:=Tryz.isAgg20
 z20:=Tryz.sizeOf20
 v20:=Tryz.zeroValue20
 t21:=Tryz.underlying21
 a21:=Tryz.isAgg21
 z21:=Tryz.sizeOf21
 v21:=Tryz.zeroValue21
 t37:=Tryz.underlying258
 a37:=Tryz.isAgg258
 z37:=Tryz.sizeOf258
 v37:=Tryz.zeroValue258
 t46:=Tryz.underlying182
 a46:=Tryz.isAgg182
 z46:=Tryz.sizeOf182
 v46:=Tryz.zeroValue182
 t51:=Tryz.underlying214
 a51:=Tryz.isAgg214
 z51:=Tryz.sizeOf214
 v51:=Tryz.zeroValue214
 t70:=Tryz.underlying257
 a70:=Tryz.isAgg257
 z70:=Tryz.sizeOf257
 v70:=Tryz.zeroValue257
 t72:=Tryz.underlying260
 a72:=Tryz.isAgg260
 z72:=Tryz.sizeOf260
 v72:=Tryz.zeroValue260
 t75:=Tryz.underlying264
 a75:=Tryz.isAgg264
 z75:=Tryz.sizeOf264
 v75:=Tryz.zeroValue264
 t76:=Tryz.underlying265
 a76:=Tryz.isAgg265
 z76:=Tryz.sizeOf265
 v76:=Tryz.zeroValue265
 t105:=Tryz.underlying253
 a105:=Tryz.isAgg253
 z105:=Tryz.sizeOf253
 v105:=Tryz.zeroValue253
 t107:=Tryz.underlying240
 a107:=Tryz.isAgg240
 z107:=Tryz.sizeOf240
 v107:=Tryz.zeroValue240
 t119:=Tryz.underlying285
 a119:=Tryz.isAgg285
 z119:=Tryz.sizeOf285
 t127:=Tryz.underlying281
 a127:=Tryz.isAgg281
 z127:=Tryz.sizeOf281
 v127:=Tryz.zeroValue281
 t138:=Tryz.underlying287
 a138:=Tryz.isAgg287
 z138:=Tryz.sizeOf287
 v138:=Tryz.zeroValue287
 t139:=Tryz.underlying288
 a139:=Tryz.isAgg288
 z139:=Tryz.sizeOf288
 v139:=Tryz.zeroValue288
 t164:=Tryz.underlying289
 a164:=Tryz.isAgg289
 z164:=Tryz.sizeOf289
 v164:=Tryz.zeroValue289
 g3:=by kernel_rfl
 g4:=by kernel_rfl}
theorem Tryz.Builder_Extra_230:Builder.Extra Tryz.prog Tryz.lays230_ren:={
 sizeBuilder:=by kernel_rfl
 liesBuilder:=by kernel_rfl
 t5:=Tryz.underlying5
 a5:=Tryz.isAgg5
 z5:=Tryz.sizeOf5
 v5:=Tryz.zeroValue5
 infoByte:=by kernel_rfl
 cellsByte:=by kernel_rfl
 sizeByte:=by kernel_rfl
 neB5:=by decide}
open Go.RowKit Go.Lib in
theorem Tryz.strings_Map_runes (g:Nat) (lb:Array Value) (eg:∀args w,(callFunc g args).run Tryz.prog w= .ok (.enter g args) w) (f:Int→Int) (s:ByteArray) (w:World) (hs:s.size<35184372088832) (hf:MapAtRunes Tryz.prog g lb f w) (hnn:∀x:Nat,x≤1114111→0≤f x∧f x≤2147483647) (hT:Lib.Utf8Tabs 0 1 w):
 Calls Tryz.prog 174 #[.func (.func g) #[] lb,.string s] w fun e w'=>e= .returned (.string ⟨(Lib.mapD f s.data.toList).toArray⟩)∧Below w.heap.size w w':=Any.strings_Map_runes Tryz.lays230 Tryz.Builder_Extra_230 g lb eg f s w hs hf hnn hT
def Tryz.sortRow_ren:Go.Shelf.Ren:=⟨fun|6=>157|15=>113|14=>182|28=>154|29=>155|20=>204|21=>205|22=>206|23=>207|24=>208|25=>209|26=>210|27=>211|46=>219|47=>178|48=>179|49=>220|50=>221|57=>226|n=>n,fun|22=>60|24=>96|25=>216|3=>3|39=>182|0=>0|53=>214|55=>36|4=>4|46=>207|45=>206|50=>211|5=>5|9=>9|66=>242|70=>245|76=>270|77=>271|n=>n,fun|n=>n⟩
theorem Tryz.sortRow:Go.Proofs.SlLaysF0.n6 Tryz.prog Tryz.sortRow_ren:={
 mixed:=by kernel_rfl
 f6:=⟨Tryz.f157.name,by decide,Tryz.func157.trans (congrArg some (by kernel_rfl))⟩
 f14:=⟨Tryz.f182.name,by decide,Tryz.func182.trans (congrArg some (by kernel_rfl))⟩
 f15:=Tryz.func113.trans (congrArg some (by kernel_rfl))
 f20:=⟨Tryz.f204.name,by decide,Tryz.func204.trans (congrArg some (by kernel_rfl))⟩
 f21:=⟨Tryz.f205.name,by decide,Tryz.func205.trans (congrArg some (by kernel_rfl))⟩
 f22:=⟨Tryz.f206.name,by decide,Tryz.func206.trans (congrArg some (by kernel_rfl))⟩
 f23:=⟨Tryz.f207.name,by decide,Tryz.func207.trans (congrArg some (by kernel_rfl))⟩
 f24:=⟨Tryz.f208.name,by decide,Tryz.func208.trans (congrArg some (by kernel_rfl))⟩
 f25:=⟨Tryz.f209.name,by decide,Tryz.func209.trans (congrArg some (by kernel_rfl))⟩
 f26:=⟨Tryz.f210.name,by decide,Tryz.func210.trans (congrArg some (by kernel_rfl))⟩
 f27:=⟨Tryz.f211.name,by decide,Tryz.func211.trans (congrArg some (by kernel_rfl))⟩
 f28:=Tryz.func154.trans (congrArg some (by kernel_rfl))
 f29:=Tryz.func155.trans (congrArg some (by kernel_rfl))
 f46:=⟨Tryz.f219.name,by decide,Tryz.func219.trans (congrArg some (by kernel_rfl))⟩
 f47:=Tryz.func178.trans (congrArg some (by kernel_rfl))
 f48:=Tryz.func179.trans (congrArg some (by kernel_rfl))
 f49:=⟨Tryz.f220.name,by decide,Tryz.func220.trans (congrArg some (by kernel_rfl))⟩
 f50:=⟨Tryz.f221.name,by decide,Tryz.func221.trans (congrArg some (by kernel_rfl))⟩
 f57:=⟨Tryz.f226.name,by decide,Tryz.func226.trans (congrArg some (by kernel_rfl))⟩
 t0:=Tryz.underlying0
 a0:=Tryz.isAgg0
 z0:=Tryz.sizeOf0
 v0:=Tryz.zeroValue0
 t3:=Tryz.underlying3
 a3:=Tryz.isAgg3
 z3:=Tryz.sizeOf3
 v3:=Tryz.zeroValue3
 t4:=Tryz.underlying4
 a4:=Tryz.isAgg4
 z4:=Tryz.sizeOf4
 v4:=Tryz.zeroValue4
 t5:=Tryz.underlying5
 a5:=Tryz.isAgg5
 z5:=Tryz.sizeOf5
 v5:=Tryz.zeroValue5
 t9:=Tryz.underlying9
 a9:=Tryz.isAgg9
 z9:=Tryz.sizeOf9
 v9:=Tryz.zeroValue9
 t22:=Tryz.underlying60
 a22:=Tryz.isAgg60
 z22:=Tryz.sizeOf60
 v22:=Tryz.zeroValue60
 t25:=Tryz.underlying216
 a25:=Tryz.isAgg216
 z25:=Tryz.sizeOf216
 v25:=Tryz.zeroValue216
 t39:=Tryz.underlying182
 a39:=Tryz.isAgg182
 z39:=Tryz.sizeOf182
 v39:=Tryz.zeroValue182
 t45:=Tryz.underlying206
 a45:=Tryz.isAgg206
 z45:=Tryz.sizeOf206
 v45:=Tryz.zeroValue206
 t46:=Tryz.underlying207
 a46:=Tryz.isAgg207
 z46:=Tryz.sizeOf207
 v46:=Tryz.zeroValue207
 t50:=Tryz.underlying211
 a50:=Tryz.isAgg211
 z50:=Tryz.sizeOf211
 v50:=Tryz.zeroValue211
 t53:=Tryz.underlying214
 a53:=Tryz.isAgg214
 z53:=Tryz.sizeOf214
 v53:=Tryz.zeroValue214
 t55:=Tryz.underlying36
 a55:=Tryz.isAgg36
 z55:=Tryz.sizeOf36
 v55:=Tryz.zeroValue36
 t66:=Tryz.underlying242
 a66:=Tryz.isAgg242
 z66:=Tryz.sizeOf242
 v66:=Tryz.zeroValue242
 t70:=Tryz.underlying245
 a70:=Tryz.isAgg245
 z70:=Tryz.sizeOf245
 v70:=Tryz.zeroValue245
 t76:=Tryz.underlying270
 a76:=Tryz.isAgg270
 z76:=Tryz.sizeOf270
 v76:=Tryz.zeroValue270
 t77:=Tryz.underlying271
 a77:=Tryz.isAgg271
 z77:=Tryz.sizeOf271
 v77:=Tryz.zeroValue271}
def Tryz.sortCur_ren:Go.Shelf.Ren:=⟨fun|6=>117|15=>113|14=>159|28=>154|29=>155|20=>183|21=>184|22=>185|23=>186|24=>187|25=>188|26=>189|27=>190|46=>212|47=>178|48=>179|49=>213|50=>214|57=>222|n=>n,fun|22=>61|24=>123|25=>190|3=>3|39=>182|0=>0|53=>214|55=>36|4=>4|46=>207|45=>206|50=>211|5=>5|9=>9|66=>242|70=>245|76=>270|77=>271|n=>n,fun|n=>n⟩
theorem Tryz.sortCur:Go.Proofs.SlLaysF0.n6 Tryz.prog Tryz.sortCur_ren:={
 mixed:=by kernel_rfl
 f6:=⟨Tryz.f117.name,by decide,Tryz.func117.trans (congrArg some (by kernel_rfl))⟩
 f14:=⟨Tryz.f159.name,by decide,Tryz.func159.trans (congrArg some (by kernel_rfl))⟩
 f15:=Tryz.func113.trans (congrArg some (by kernel_rfl))
 f20:=⟨Tryz.f183.name,by decide,Tryz.func183.trans (congrArg some (by kernel_rfl))⟩
 f21:=⟨Tryz.f184.name,by decide,Tryz.func184.trans (congrArg some (by kernel_rfl))⟩
 f22:=⟨Tryz.f185.name,by decide,Tryz.func185.trans (congrArg some (by kernel_rfl))⟩
 f23:=⟨Tryz.f186.name,by decide,Tryz.func186.trans (congrArg some (by kernel_rfl))⟩
 f24:=⟨Tryz.f187.name,by decide,Tryz.func187.trans (congrArg some (by kernel_rfl))⟩
 f25:=⟨Tryz.f188.name,by decide,Tryz.func188.trans (congrArg some (by kernel_rfl))⟩
 f26:=⟨Tryz.f189.name,by decide,Tryz.func189.trans (congrArg some (by kernel_rfl))⟩
 f27:=⟨Tryz.f190.name,by decide,Tryz.func190.trans (congrArg some (by kernel_rfl))⟩
 f28:=Tryz.func154.trans (congrArg some (by kernel_rfl))
 f29:=Tryz.func155.trans (congrArg some (by kernel_rfl))
 f46:=⟨Tryz.f212.name,by decide,Tryz.func212.trans (congrArg some (by kernel_rfl))⟩
 f47:=Tryz.func178.trans (congrArg some (by kernel_rfl))
 f48:=Tryz.func179.trans (congrArg some (by kernel_rfl))
 f49:=⟨Tryz.f213.name,by decide,Tryz.func213.trans (congrArg some (by kernel_rfl))⟩
 f50:=⟨Tryz.f214.name,by decide,Tryz.func214.trans (congrArg some (by kernel_rfl))⟩
 f57:=⟨Tryz.f222.name,by decide,Tryz.func222.trans (congrArg some (by kernel_rfl))⟩
 t0:=Tryz.underlying0
 a0:=Tryz.isAgg0
 z0:=Tryz.sizeOf0
 v0:=Tryz.zeroValue0
 t3:=Tryz.underlying3
 a3:=Tryz.isAgg3
 z3:=Tryz.sizeOf3
 v3:=Tryz.zeroValue3
 t4:=Tryz.underlying4
 a4:=Tryz.isAgg4
 z4:=Tryz.sizeOf4
 v4:=Tryz.zeroValue4
 t5:=Tryz.underlying5
 a5:=Tryz.isAgg5
 z5:=Tryz.sizeOf5
 v5:=Tryz.zeroValue5
 t9:=Tryz.underlying9
 a9:=Tryz.isAgg9
 z9:=Tryz.sizeOf9
 v9:=Tryz.zeroValue9
 t22:=Tryz.underlying61
 a22:=Tryz.isAgg61
 z22:=Tryz.sizeOf61
 v22:=Tryz.zeroValue61
 t25:=Tryz.underlying190
 a25:=Tryz.isAgg190
 z25:=Tryz.sizeOf190
 v25:=Tryz.zeroValue190
 t39:=Tryz.underlying182
 a39:=Tryz.isAgg182
 z39:=Tryz.sizeOf182
 v39:=Tryz.zeroValue182
 t45:=Tryz.underlying206
 a45:=Tryz.isAgg206
 z45:=Tryz.sizeOf206
 v45:=Tryz.zeroValue206
 t46:=Tryz.underlying207
 a46:=Tryz.isAgg207
 z46:=Tryz.sizeOf207
 v46:=Tryz.zeroValue207
 t50:=Tryz.underlying211
 a50:=Tryz.isAgg211
 z50:=Tryz.sizeOf211
 v50:=Tryz.zeroValue211
 t53:=Tryz.underlying214
 a53:=Tryz.isAgg214
 z53:=Tryz.sizeOf214
 v53:=Tryz.zeroValue214
 t55:=Tryz.underlying36
 a55:=Tryz.isAgg36
 z55:=Tryz.sizeOf36
 v55:=Tryz.zeroValue36
 t66:=Tryz.underlying242
 a66:=Tryz.isAgg242
 z66:=Tryz.sizeOf242
 v66:=Tryz.zeroValue242
 t70:=Tryz.underlying245
 a70:=Tryz.isAgg245
 z70:=Tryz.sizeOf245
 v70:=Tryz.zeroValue245
 t76:=Tryz.underlying270
 a76:=Tryz.isAgg270
 z76:=Tryz.sizeOf270
 v76:=Tryz.zeroValue270
 t77:=Tryz.underlying271
 a77:=Tryz.isAgg271
 z77:=Tryz.sizeOf271
 v77:=Tryz.zeroValue271}
def Tryz.sortItem_ren:Go.Shelf.Ren:=⟨fun|6=>63|15=>113|14=>112|28=>154|29=>155|20=>146|21=>147|22=>148|23=>149|24=>150|25=>151|26=>152|27=>153|46=>177|47=>178|48=>179|49=>180|50=>181|57=>203|n=>n,fun|22=>59|24=>79|25=>128|3=>3|39=>182|0=>0|53=>214|55=>36|4=>4|46=>207|45=>206|50=>211|5=>5|9=>9|66=>242|70=>245|76=>270|77=>271|n=>n,fun|n=>n⟩
theorem Tryz.sortItem:Go.Proofs.SlLaysF0.n6 Tryz.prog Tryz.sortItem_ren:={
 mixed:=by kernel_rfl
 f6:=⟨Tryz.f63.name,by decide,Tryz.func63.trans (congrArg some (by kernel_rfl))⟩
 f14:=⟨Tryz.f112.name,by decide,Tryz.func112.trans (congrArg some (by kernel_rfl))⟩
 f15:=Tryz.func113.trans (congrArg some (by kernel_rfl))
 f20:=⟨Tryz.f146.name,by decide,Tryz.func146.trans (congrArg some (by kernel_rfl))⟩
 f21:=⟨Tryz.f147.name,by decide,Tryz.func147.trans (congrArg some (by kernel_rfl))⟩
 f22:=⟨Tryz.f148.name,by decide,Tryz.func148.trans (congrArg some (by kernel_rfl))⟩
 f23:=⟨Tryz.f149.name,by decide,Tryz.func149.trans (congrArg some (by kernel_rfl))⟩
 f24:=⟨Tryz.f150.name,by decide,Tryz.func150.trans (congrArg some (by kernel_rfl))⟩
 f25:=⟨Tryz.f151.name,by decide,Tryz.func151.trans (congrArg some (by kernel_rfl))⟩
 f26:=⟨Tryz.f152.name,by decide,Tryz.func152.trans (congrArg some (by kernel_rfl))⟩
 f27:=⟨Tryz.f153.name,by decide,Tryz.func153.trans (congrArg some (by kernel_rfl))⟩
 f28:=Tryz.func154.trans (congrArg some (by kernel_rfl))
 f29:=Tryz.func155.trans (congrArg some (by kernel_rfl))
 f46:=⟨Tryz.f177.name,by decide,Tryz.func177.trans (congrArg some (by kernel_rfl))⟩
 f47:=Tryz.func178.trans (congrArg some (by kernel_rfl))
 f48:=Tryz.func179.trans (congrArg some (by kernel_rfl))
 f49:=⟨Tryz.f180.name,by decide,Tryz.func180.trans (congrArg some (by kernel_rfl))⟩
 f50:=⟨Tryz.f181.name,by decide,Tryz.func181.trans (congrArg some (by kernel_rfl))⟩
 f57:=⟨Tryz.f203.name,by decide,Tryz.func203.trans (congrArg some (by kernel_rfl))⟩
 t0:=Tryz.underlying0
 a0:=Tryz.isAgg0
 z0:=Tryz.sizeOf0
 v0:=Tryz.zeroValue0
 t3:=Tryz.underlying3
 a3:=Tryz.isAgg3
 z3:=Tryz.sizeOf3
 v3:=Tryz.zeroValue3
 t4:=Tryz.underlying4
 a4:=Tryz.isAgg4
 z4:=Tryz.sizeOf4
 v4:=Tryz.zeroValue4
 t5:=Tryz.underlying5
 a5:=Tryz.isAgg5
 z5:=Tryz.sizeOf5
 v5:=Tryz.zeroValue5
 t9:=Tryz.underlying9
 a9:=Tryz.isAgg9
 z9:=Tryz.sizeOf9
 v9:=Tryz.zeroValue9
 t22:=Tryz.underlying59
 a22:=Tryz.isAgg59
 z22:=Tryz.sizeOf59
 v22:=Tryz.zeroValue59
 t25:=Tryz.underlying128
 a25:=Tryz.isAgg128
 z25:=Tryz.sizeOf128
 v25:=Tryz.zeroValue128
 t39:=Tryz.underlying182
 a39:=Tryz.isAgg182
 z39:=Tryz.sizeOf182
 v39:=Tryz.zeroValue182
 t45:=Tryz.underlying206
 a45:=Tryz.isAgg206
 z45:=Tryz.sizeOf206
 v45:=Tryz.zeroValue206
 t46:=Tryz.underlying207
 a46:=Tryz.isAgg207
 z46:=Tryz.sizeOf207
 v46:=Tryz.zeroValue207
 t50:=Tryz.underlying211
 a50:=Tryz.isAgg211
 z50:=Tryz.sizeOf211
 v50:=Tryz.zeroValue211
 t53:=Tryz.underlying214
 a53:=Tryz.isAgg214
 z53:=Tryz.sizeOf214
 v53:=Tryz.zeroValue214
 t55:=Tryz.underlying36
 a55:=Tryz.isAgg36
 z55:=Tryz.sizeOf36
 v55:=Tryz.zeroValue36
 t66:=Tryz.underlying242
 a66:=Tryz.isAgg242
 z66:=Tryz.sizeOf242
 v66:=Tryz.zeroValue242
 t70:=Tryz.underlying245
 a70:=Tryz.isAgg245
 z70:=Tryz.sizeOf245
 v70:=Tryz.zeroValue245
 t76:=Tryz.underlying270
 a76:=Tryz.isAgg270
 z76:=Tryz.sizeOf270
 v76:=Tryz.zeroValue270
 t77:=Tryz.underlying271
 a77:=Tryz.isAgg271
 z77:=Tryz.sizeOf271
 v77:=Tryz.zeroValue271}
end Go.Proofs
