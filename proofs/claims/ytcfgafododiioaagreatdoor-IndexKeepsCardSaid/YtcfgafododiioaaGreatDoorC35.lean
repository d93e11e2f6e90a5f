/- Texts of a claim, side by side. -/
import Derived.Test.YtcfgafododiioaaGreatDoorC11
import Derived.Test.YtcfgafododiioaaGreatDoorC34
set_option linter.unusedSimpArgs false
set_option linter.unusedVariables false
namespace Go.Rg
open Go.RowKit Go.Tum
open Go.ParB (upd Lof)
open Go.ParE (putS slotsR slots Closed)
structure Tri (ka da kb db kc dc k1 d1 k2 d2 k3 d3:Nat) (Q:Bool→Bool→Bool→Value→Value→Value→World→Prop) (F1 F2 F3:Value→World→Prop) (L:Nat→Bool) (σ:Nat→Value) (w:World):Prop where
 q:L k1=false→L k2=false→L k3=false→Q (L ka) (L kb) (L kc) (σ da) (σ db) (σ dc) w
 f1:L k1=true→L k2=false→L k3=false→F1 (σ d1) w
 f2:L k2=true→L k3=false→F2 (σ d2) w
 f3:L k3=true→F3 (σ d3) w
section
variable {w w' : World} {ka da kb db kc dc k1 d1 k2 d2 k3 d3 : Nat} {Q : Bool → Bool → Bool → Value → Value → Value → World → Prop} {F1 F2 F3 : Value → World → Prop} {L : Nat → Bool} {σ : Nat → Value}
theorem putS_ne {σ:Nat→Value} {e:Option Nat} {v:Value} {d:Nat} (h:e≠some d):putS σ e v d=σ d:=by unfold putS;rw[if_neg h]
theorem putS_eq {σ:Nat→Value} {v:Value} {d:Nat}:putS σ (some d) v d=v:=by unfold putS;rw[if_pos rfl]
theorem Tri.start (h:∀a b c,Q false false false a b c w):Tri ka da kb db kc dc k1 d1 k2 d2 k3 d3 Q F1 F2 F3 (fun _=>false) σ w:=
 ⟨fun _ _ _=>h _ _ _,fun h=>by simp at h,fun h=>by simp at h,fun h=>by simp at h⟩
theorem Tri.other (h:Tri ka da kb db kc dc k1 d1 k2 d2 k3 d3 Q F1 F2 F3 L σ w) {i:Nat} {e:Option Nat} {v:Value}
 (hi:(ka≠i∧kb≠i∧kc≠i∧k1≠i∧k2≠i∧k3≠i)∧e≠some da∧e≠some db∧e≠some dc∧e≠some d1∧e≠some d2∧e≠some d3):Tri ka da kb db kc dc k1 d1 k2 d2 k3 d3 Q F1 F2 F3 (upd L i) (putS σ e v) w:=by
 obtain⟨⟨a,b,c,x,y,z⟩,a',b',c',x',y',z'⟩:=hi
 refine⟨?_,?_,?_,?_⟩
 · rw[updN a,updN b,updN c,updN x,updN y,updN z,putS_ne a',putS_ne b',putS_ne c'];exact h.q
 · rw[updN x,updN y,updN z,putS_ne x'];exact h.f1
 · rw[updN y,updN z,putS_ne y'];exact h.f2
 · rw[updN z,putS_ne z'];exact h.f3
theorem Tri.a (h:Tri ka da kb db kc dc k1 d1 k2 d2 k3 d3 Q F1 F2 F3 L σ w) (h1:L k1=false) (h2:L k2=false) (h3:L k3=false) (hl:L ka=false) {v:Value} (hi:kb≠ka∧kc≠ka∧k1≠ka∧k2≠ka∧k3≠ka∧da≠db∧da≠dc)
 (hq:Q false (L kb) (L kc) (σ da) (σ db) (σ dc) w→Q true (L kb) (L kc) v (σ db) (σ dc) w'):Tri ka da kb db kc dc k1 d1 k2 d2 k3 d3 Q F1 F2 F3 (upd L ka) (putS σ (some da) v) w':=by
 obtain⟨b,c,x,y,z,p,q⟩:=hi
 have k:=h.q h1 h2 h3
 rw[hl] at k
 refine⟨fun _ _ _=> ?_,?_,?_,?_⟩
 · rw[updE,updN b,updN c,putS_eq,putS_ne (fun e=>p (Option.some.inj e)),putS_ne (fun e=>q (Option.some.inj e))];exact hq k
 · rw[updN x,h1];intro e;cases e
 · rw[updN y,h2];intro e;cases e
 · rw[updN z,h3];intro e;cases e
theorem Tri.b (h:Tri ka da kb db kc dc k1 d1 k2 d2 k3 d3 Q F1 F2 F3 L σ w) (h1:L k1=false) (h2:L k2=false) (h3:L k3=false) (hl:L kb=false) {v:Value} (hi:ka≠kb∧kc≠kb∧k1≠kb∧k2≠kb∧k3≠kb∧db≠da∧db≠dc)
 (hq:Q (L ka) false (L kc) (σ da) (σ db) (σ dc) w→Q (L ka) true (L kc) (σ da) v (σ dc) w'):Tri ka da kb db kc dc k1 d1 k2 d2 k3 d3 Q F1 F2 F3 (upd L kb) (putS σ (some db) v) w':=by
 obtain⟨b,c,x,y,z,p,q⟩:=hi
 have k:=h.q h1 h2 h3
 rw[hl] at k
 refine⟨fun _ _ _=> ?_,?_,?_,?_⟩
 · rw[updE,updN b,updN c,putS_eq,putS_ne (fun e=>p (Option.some.inj e)),putS_ne (fun e=>q (Option.some.inj e))];exact hq k
 · rw[updN x,h1];intro e;cases e
 · rw[updN y,h2];intro e;cases e
 · rw[updN z,h3];intro e;cases e
theorem Tri.c (h:Tri ka da kb db kc dc k1 d1 k2 d2 k3 d3 Q F1 F2 F3 L σ w) (h1:L k1=false) (h2:L k2=false) (h3:L k3=false) (hl:L kc=false) {v:Value} (hi:ka≠kc∧kb≠kc∧k1≠kc∧k2≠kc∧k3≠kc∧dc≠da∧dc≠db)
 (hq:Q (L ka) (L kb) false (σ da) (σ db) (σ dc) w→Q (L ka) (L kb) true (σ da) (σ db) v w'):Tri ka da kb db kc dc k1 d1 k2 d2 k3 d3 Q F1 F2 F3 (upd L kc) (putS σ (some dc) v) w':=by
 obtain⟨b,c,x,y,z,p,q⟩:=hi
 have k:=h.q h1 h2 h3
 rw[hl] at k
 refine⟨fun _ _ _=> ?_,?_,?_,?_⟩
 · rw[updE,updN b,updN c,putS_eq,putS_ne (fun e=>p (Option.some.inj e)),putS_ne (fun e=>q (Option.some.inj e))];exact hq k
 · rw[updN x,h1];intro e;cases e
 · rw[updN y,h2];intro e;cases e
 · rw[updN z,h3];intro e;cases e
theorem Tri.one (h:Tri ka da kb db kc dc k1 d1 k2 d2 k3 d3 Q F1 F2 F3 L σ w) (h2:L k2=false) (h3:L k3=false) {v:Value} (hi:k2≠k1∧k3≠k1) (hq:F1 v w'):Tri ka da kb db kc dc k1 d1 k2 d2 k3 d3 Q F1 F2 F3 (upd L k1) (putS σ (some d1) v) w':=by
 refine⟨fun e=>(by rw[updE] at e;cases e),fun _ _ _=>by rw[putS_eq];exact hq,?_,?_⟩
 · rw[updN hi.1,h2];intro e;cases e
 · rw[updN hi.2,h3];intro e;cases e
theorem Tri.two (h:Tri ka da kb db kc dc k1 d1 k2 d2 k3 d3 Q F1 F2 F3 L σ w) (h3:L k3=false) {v:Value} (hi:k3≠k2) (hq:F2 v w'):Tri ka da kb db kc dc k1 d1 k2 d2 k3 d3 Q F1 F2 F3 (upd L k2) (putS σ (some d2) v) w':=by
 refine⟨fun _ e=>(by rw[updE] at e;cases e),fun _ e=>(by rw[updE] at e;cases e),fun _ _=>by rw[putS_eq];exact hq,?_⟩
 rw[updN hi,h3];intro e;cases e
theorem Tri.three (h:Tri ka da kb db kc dc k1 d1 k2 d2 k3 d3 Q F1 F2 F3 L σ w) {v:Value} (hq:F3 v w'):Tri ka da kb db kc dc k1 d1 k2 d2 k3 d3 Q F1 F2 F3 (upd L k3) (putS σ (some d3) v) w':=
 ⟨fun _ _ e=>(by rw[updE] at e;cases e),fun _ _ e=>(by rw[updE] at e;cases e),fun _ e=>(by rw[updE] at e;cases e),fun _=>by rw[putS_eq];exact hq⟩
theorem Tri.fin {m:Nat} (h:Tri ka da kb db kc dc k1 d1 k2 d2 k3 d3 Q F1 F2 F3 (Lof (Array.replicate m true)) σ w) (hm:k3<m):F3 (σ d3) w:=h.f3 (by unfold Lof;simp[Array.getElem?_replicate,hm])
end
end Go.Rg
set_option maxRecDepth 100000
namespace Go.Proofs.YtcfgafododiioaaGreatDoor
open Go Go.RowKit Go.Tum Go.ChangeMaps Go.Sort
open Go.ParB (upd Lof)
open Go.ParE (putS slotsR slots Closed)
theorem own0 (w:World) (B e s:Nat) (hB:B≤w.heap.size):(w.alloc (.cells #[] e (0,0))).ownsRow B e s (.slice (some ⟨w.heap.size,0,none⟩) 0 0) 0 []:=
 ⟨by simp,.inr ⟨w.heap.size,0,#[],rfl,hB,heap_alloc_new w _,Nat.le_refl _,by simp[maxLen],by simp,by simp⟩⟩
theorem itsE_one (l:List It):∀y∈l.flatMap itE,y.oneCell'=true:=fun y hy=>by
 obtain⟨z,-,hz⟩:=List.mem_flatMap.1 hy
 exact itE_one z y hz
set_option maxHeartbeats 1000000 in
theorem iclone_any (w:World) {ao:Option Addr} {cap:Nat} (l:List It) (hu:Sl w 10 (.slice ao l.length cap) l.length (l.flatMap itE)) (hl:l.length≤100000):
 Calls Tryz.prog 125 #[.slice ao l.length cap] w fun e w'=>(∃v,e= .returned v∧w'.ownsRow w.heap.size 79 10 v l.length (l.flatMap itE))∧Ext w w':=by
 have q32:∀(w:World) (a:Option Addr) (n c:Nat),(binOp .eql 59 (.slice a n c) (.slice none 0 0)).run Tryz.prog w= .ok (.bool a.isNone) w:=fun w a n c=>Lib.run_eql_slice_nil w _ _ a n c 0 0 Tryz.underlying59
 have HU:=hid hu
 have HL:=hid hl
 obtain⟨-,-,hz,-⟩:=Sl.cells hu
 obtain⟨hle,-,-,-⟩:=Sl.cells hu
 clear hu
 cases ao with
 |none=>
  have h0:l=[]:=List.length_eq_zero_iff.1 (by have:=hz rfl;omega)
  subst h0
  clear hz hle
  go_enter Tryz.func125,Tryz.ntmps125
  go_wp2
  go_ret
  exact⟨⟨_,rfl,World.ownsRow_nil _ _ _ _⟩,Ext.refl _⟩
 |some a=>
  clear hz hle hl
  go_enter Tryz.func125,Tryz.ntmps125
  go_wp2_with (at_builtin;refine wpList_append_slN rfl (.tmp 5) (.tmp 6) 59 rfl w.heap.size 79 Tryz.underlying59 infoItem rfl (by decide) rfl (own0 w w.heap.size 79 10 (Nat.le_refl _)) rfl (HU.out.ext (Ext.alloc _ _)) (itsE_one l) l.length (by simp) (by have:=HL.out;simp[maxLen];omega) (by have:=HL.out;omega) (by simp) ?_;intro ao2 cap2 w2 hO2 hg2 hb2;have HO2:=hid hO2;have HE2:Hid (Ext w w2):=hid (Below.trans (Ext.alloc _ _) hb2);clear hO2 hg2 hb2)
  go_ret
  have:=HO2.out
  rw[List.nil_append] at this
  exact⟨⟨_,rfl,this⟩,HE2.out⟩
theorem HB.lower {B B':Nat} {w:World} {p mt mp:Nat} (h:HB B w p mt mp (fun _=>none) [] (.slice none 0 0)) (k:B'≤B):HB B' w p mt mp (fun _=>none) [] (.slice none 0 0):=
 ⟨⟨h.tr.hd,h.tr.ti,h.tr.pl,OwV.nil _ _ _,h.tr.nd,h.tr.ne⟩,h.has,h.hp,Nat.le_trans k h.bp,Nat.le_trans k h.bt,Nat.le_trans k h.bm⟩
theorem HB.lt3 {B:Nat} {w:World} {p mt mp:Nat} {v:Value} {At:UInt64→Option Int} {row:List UInt64} (h:HB B w p mt mp At row v):p<w.heap.size∧mt<w.heap.size∧mp<w.heap.size:=
 ⟨h.lt p (by simp[Hb]),h.lt mt (by simp[Hb]),h.lt mp (by simp[Hb])⟩
theorem PMI.lt {w:World} {m:Nat} {l:List (UInt64×It)} (h:PMI w m l):m<w.heap.size:=by
 obtain⟨es,c,hb⟩:=h.block
 exact(Array.getElem?_eq_some_iff.1 hb).1
theorem PMU.lt {w:World} {m:Nat} {l:List (UInt64×UInt64)} (h:PMU w m l):m<w.heap.size:=by
 obtain⟨es,c,hb⟩:=h.block
 exact(Array.getElem?_eq_some_iff.1 hb).1
structure MdK (W:World) (i j k:Bool) (m p mt mp h:Nat) (w':World):Prop where
 xx:Ext W w'
 xi:i=true→PMI w' m []∧W.heap.size≤m
 xj:j=true→HB W.heap.size w' p mt mp (fun _=>none) [] (.slice none 0 0)
 xk:k=true→PMU w' h []∧W.heap.size≤h
 ij:i=true→j=true→m≠p∧m≠mt∧m≠mp
 ik:i=true→k=true→m≠h
 jk:j=true→k=true→h≠p∧h≠mt∧h≠mp
def MdQ (W:World) (i j k:Bool) (a b c:Value) (w':World):Prop:=∃m p mt mp h:Nat,MdK W i j k m p mt mp h w'∧(i=true→a= .map (some m))∧(j=true→b=pv p)∧(k=true→c= .map (some h))
theorem MdQ.start (W:World) (a b c:Value):MdQ W false false false a b c {W with drawn:=W.drawn+1}:=
 ⟨0,0,0,0,0,⟨Ext.draw _,(fun h=>by cases h),(fun h=>by cases h),(fun h=>by cases h),(fun h=>by cases h),(fun h=>by cases h),(fun h=>by cases h)⟩,(fun h=>by cases h),(fun h=>by cases h),(fun h=>by cases h)⟩
theorem MdQ.ext {W w':World} {i j k:Bool} {a b c:Value} (h:MdQ W i j k a b c w'):Ext W w':=by obtain⟨m,p,mt,mp,h,hk,-⟩:=h;exact hk.xx
theorem MdQ.a {W w':World} {j k:Bool} {a b c:Value} (h:MdQ W false j k a b c w'):MdQ W true j k (.map (some w'.heap.size)) b c (w'.alloc (.map #[] 0)):=by
 obtain⟨m,p,mt,mp,h,hk,ha,hb,hc⟩:=h
 have e:=Ext.alloc w' (.map #[] 0)
 refine⟨w'.heap.size,p,mt,mp,h,⟨hk.xx.trans e,fun _=>⟨PMI.made w',hk.xx.size⟩,fun q=>(hk.xj q).ext e,fun q=>⟨(hk.xk q).1.ext e,(hk.xk q).2⟩,fun _ q=> ?_,fun _ q=> ?_,hk.jk⟩,fun _=>rfl,hb,hc⟩
 · have:=(hk.xj q).lt3;omega
 · have:=(hk.xk q).1.lt;omega
theorem MdQ.b {W w' w2:World} {i k:Bool} {a b c:Value} (h:MdQ W i false k a b c w') {p mt mp:Nat} (hB:HB w'.heap.size w2 p mt mp (fun _=>none) [] (.slice none 0 0)) (e:Ext w' w2):MdQ W i true k a (pv p) c w2:=by
 obtain⟨m,p',mt',mp',h,hk,ha,hb,hc⟩:=h
 refine⟨m,p,mt,mp,h,⟨hk.xx.trans e,fun q=>⟨(hk.xi q).1.ext e,(hk.xi q).2⟩,fun _=>hB.lower hk.xx.size,fun q=>⟨(hk.xk q).1.ext e,(hk.xk q).2⟩,fun q _=> ?_,hk.ik,fun _ q=> ?_⟩,ha,fun _=>rfl,hc⟩
 · have h1:=(hk.xi q).1.lt;have h2:=hB.bp;have h3:=hB.bt;have h4:=hB.bm;omega
 · have h1:=(hk.xk q).1.lt;have h2:=hB.bp;have h3:=hB.bt;have h4:=hB.bm;omega
theorem MdQ.c {W w':World} {i j:Bool} {a b c:Value} (h:MdQ W i j false a b c w'):MdQ W i j true a b (.map (some w'.heap.size)) (w'.alloc (.map #[] 0)):=by
 obtain⟨m,p,mt,mp,h,hk,ha,hb,hc⟩:=h
 have e:=Ext.alloc w' (.map #[] 0)
 refine⟨m,p,mt,mp,w'.heap.size,⟨hk.xx.trans e,fun q=>⟨(hk.xi q).1.ext e,(hk.xi q).2⟩,fun q=>(hk.xj q).ext e,fun _=>⟨PMU.made w',hk.xx.size⟩,hk.ij,fun q _=> ?_,fun q _=> ?_⟩,ha,hb,fun _=>rfl⟩
 · have:=(hk.xi q).1.lt;omega
 · have:=(hk.xj q).lt3;omega
theorem MdK.ext {W w w':World} {i j k:Bool} {m p mt mp h:Nat} (hk:MdK W i j k m p mt mp h w) (e:Ext w w'):MdK W i j k m p mt mp h w':=
 ⟨hk.xx.trans e,fun q=>⟨(hk.xi q).1.ext e,(hk.xi q).2⟩,fun q=>(hk.xj q).ext e,fun q=>⟨(hk.xk q).1.ext e,(hk.xk q).2⟩,hk.ij,hk.ik,hk.jk⟩
structure SepN (B sz m:Nat) (c:Nat→List Nat):Prop where
 ap:∀i j,i<m→j<m→i≠j→∀a∈c i,a∉c j
 lo:∀i,i<m→∀a∈c i,B≤a∧a<sz
theorem SepN.next {B sz sz' m:Nat} {c c':Nat→List Nat} (h:SepN B sz m c) (hB:B≤sz) (hs:sz≤sz') (ho:∀i,i<m→c' i=c i) (hi:∀a∈c' m,sz≤a∧a<sz'):SepN B sz' (m+1) c':=by
 refine⟨fun i j hi1 hj1 hij a ha hb=> ?_,fun i hi1 a ha=> ?_⟩
 · by_cases e1:i=m
   · subst e1
     rw[ho j (by omega)] at hb
     have h1:=hi a ha
     have h2:=h.lo j (by omega) a hb
     omega
   · rw[ho i (by omega)] at ha
     by_cases e2:j=m
     · subst e2
       have h1:=hi a hb
       have h2:=h.lo i (by omega) a ha
       omega
     · rw[ho j (by omega)] at hb
       exact h.ap i j (by omega) (by omega) hij a ha hb
 · by_cases e1:i=m
   · subst e1
     have:=hi a ha
     omega
   · rw[ho i (by omega)] at ha
     have:=h.lo i (by omega) a ha
     omega
def lv8 (n:Nat) (x:XP) (k:Nat):Value:=if k<n then pv (x.lp k).1 else .pointer none
abbrev idxN (n:Nat) (x:XP) (q:QR):Array Value:= #[.int .i64 q.lanes,.int .i64 q.pay,.int .i64 q.del,vU q.now,vU q.next,vU q.leases,vU q.turns,.map (some x.mi),lv8 n x 0,lv8 n x 1,lv8 n x 2,lv8 n x 3,lv8 n x 4,lv8 n x 5,lv8 n x 6,lv8 n x 7,pv x.hp,.map (some x.mh),pv x.dp]
structure MX (B n:Nat) (w:World) (X:Nat) (x:XP) (q:QR):Prop where
 hd:w.heap[X]? =some (.cells (idxN n x q) 136 (0,0))
 im:PMI w x.mi q.its
 ni:(q.its.map Prod.fst).Nodup
 hm:PMU w x.mh q.hld
 nh:(q.hld.map Prod.fst).Nodup
 ne:x.mi≠x.mh
 ln:∀k,k<n→Lane w (x.lp k).1 (x.lp k).2.1 (x.lp k).2.2
 nl:∀k,k<n→(x.lp k).2.2=[]
 du:HB B w x.hp x.mt x.mp q.wat x.row x.hv
 de:DD w x.dp x.dm x.ds q.dd
 sp:SepN B w.heap.size (n+3) (x.comp X)
theorem idxN_set (n:Nat) (hn:n<8) (x:XP) (q:QR) (p m:Nat):(idxN n x q).setIfInBounds (8+n) (pv p)=idxN (n+1) {x with lp:=updN x.lp n (p,m,[])} q:=by
 match n,hn with
 |0,_=>simp[lv8,updN]
 |1,_=>simp[lv8,updN]
 |2,_=>simp[lv8,updN]
 |3,_=>simp[lv8,updN]
 |4,_=>simp[lv8,updN]
 |5,_=>simp[lv8,updN]
 |6,_=>simp[lv8,updN]
 |7,_=>simp[lv8,updN]
theorem MX.step {B n:Nat} {w w1:World} {X:Nat} {x:XP} {q:QR} (h:MX B n w X x q) (hB:B≤w.heap.size) (hn:n<8) (hx:Ext w w1) {p m:Nat} (hl:Lane w1 p m []) (hp:w.heap.size≤p) (hm:w.heap.size≤m):
 MX B (n+1) (w1.setCell ⟨X,8+n,none⟩ (pv p)) X {x with lp:=updN x.lp n (p,m,[])} q:=by
 have hX:X<w.heap.size:=(Array.getElem?_eq_some_iff.1 h.hd).1
 have f:Fr [X] w1 (w1.setCell ⟨X,8+n,none⟩ (pv p)):=fr_setCell _ _ _ (by simp)
 have hb:=block_set (hx.obj h.hd) (8+n) (pv p)
 rw[idxN_set n hn x q p m] at hb
 have hcomp:∀i,i<n+3→XP.comp {x with lp:=updN x.lp n (p,m,[])} X i=x.comp X i:=fun i hi=>by
  match i,hi with
  |0,_=>rfl
  |1,_=>rfl
  |2,_=>rfl
  |i+3,hi=>
   have:i≠n:=by omega
   simp only[XP.comp,updN,if_neg this]
 have hXm:∀i,i<n+3→i≠0→∀a∈x.comp X i,a∉[X]:=fun i hi hne a ha hm=>h.sp.ap 0 i (by omega) hi (Ne.symm hne) X (by simp[XP.comp]) (by rw[List.mem_singleton] at hm;subst hm;exact ha)
 have hmi:x.mi∉[X]:=by
  rw[List.mem_singleton]
  intro e
  obtain⟨es,ck,hk⟩:=h.im.block
  rw[e,h.hd] at hk;cases hk
 have hmh:x.mh∉[X]:=by
  rw[List.mem_singleton]
  intro e
  obtain⟨es,ck,hk⟩:=h.hm.block
  rw[e,h.hd] at hk;cases hk
 have h2:=hXm 2 (by omega) (by decide)
 refine⟨hb,(h.im.ext hx).fr f hmi,h.ni,(h.hm.ext hx).fr f hmh,h.nh,h.ne,fun k hk=> ?_,fun k hk=> ?_,(h.du.ext hx).keep f (hXm 1 (by omega) (by decide)),(h.de.ext hx).fr f (h2 _ (by simp[XP.comp])) (h2 _ (by simp[XP.comp])) (h2 _ (by simp[XP.comp])),?_⟩
 · by_cases e:k=n
   · subst e
     simp only[updN,if_true]
     refine hl.fr f fun a ha=> ?_
     simp only[Bl,List.map_nil,List.mem_cons,List.not_mem_nil,or_false] at ha
     rw[List.mem_singleton]
     omega
   · simp only[updN,if_neg e]
     exact((h.ln k (by omega)).ext hx).fr f (hXm (k+3) (by omega) (by omega))
 · by_cases e:k=n
   · subst e
     simp only[updN,if_true]
   · simp only[updN,if_neg e]
     exact h.nl k (by omega)
 · refine SepN.next (m:=n+3) h.sp hB (by rw[World.size_setCell];exact hx.size) hcomp fun a ha=> ?_
   simp only[XP.comp,updN,if_true,List.map_nil,List.mem_cons,List.not_mem_nil,or_false] at ha
   rw[World.size_setCell]
   have:=hl.lt a (by simp[Bl];omega)
   omega
theorem MX.done {B:Nat} {w:World} {X:Nat} {x:XP} {q:QR} (h:MX B 8 w X x q) (hr:∀n,q.rows n=[]):IX B w X x q:=by
 refine⟨?_,h.im,h.ni,h.hm,h.nh,h.ne,h.ln,fun n hn=> ?_,h.du,h.de,⟨h.sp.ap,h.sp.lo⟩⟩
 · rw[h.hd]
   simp[lv8]
 · rw[h.nl n hn,hr];rfl
theorem MX.start {la pa de:Int} {s:SR} {d:PD} {w0 W w:World} {m p mt mp h dp dm ds X:Nat} (hW:w0.heap.size≤W.heap.size) (hk:MdK W true true true m p mt mp h w) (hD:DD W dp dm ds d) (hlo:w0.heap.size≤dp∧w0.heap.size≤dm∧w0.heap.size≤ds)
 (hX:w.heap[X]? =some (.cells (idxN 0 ⟨m,h,fun _=>(0,0,[]),p,mt,mp,[],.slice none 0 0,dp,dm,ds⟩ (baseQ la pa de s d)) 136 (0,0))) (hXW:W.heap.size≤X) (hXn:X≠m∧X≠h∧X≠p∧X≠mt∧X≠mp):
 MX w0.heap.size 0 w X ⟨m,h,fun _=>(0,0,[]),p,mt,mp,[],.slice none 0 0,dp,dm,ds⟩ (baseQ la pa de s d):=by
 obtain⟨k0,k1,k2,k3,k4,k5,k6⟩:=hk
 obtain⟨i1,i2⟩:=k1 rfl
 have j1:=k2 rfl
 obtain⟨l1,l2⟩:=k3 rfl
 have a1:=k4 rfl rfl
 have a2:=k5 rfl rfl
 have a3:=k6 rfl rfl
 have hDw:=hD.ext k0
 obtain⟨d1,d2,d3⟩:=hD.lt
 have hl3:=j1.lt3
 have hbp:=j1.bp
 have hbt:=j1.bt
 have hbm:=j1.bm
 have hil:=i1.lt
 have hll:=l1.lt
 have hXl:=(Array.getElem?_eq_some_iff.1 hX).1
 have hsz:=k0.size
 refine⟨hX,i1,by simp[baseQ],l1,by simp[baseQ],a2,fun k hk=>absurd hk (by omega),fun k hk=>absurd hk (by omega),j1.lower hW,hDw,⟨fun i j hi hj hij a ha hb=> ?_,fun i hi a ha=> ?_⟩⟩
 · have e1:∀a,a∈XP.comp ⟨m,h,fun _=>(0,0,[]),p,mt,mp,[],.slice none 0 0,dp,dm,ds⟩ X 0↔a=X∨a=m∨a=h:=fun a=>by simp[XP.comp]
   have e2:∀a,a∈XP.comp ⟨m,h,fun _=>(0,0,[]),p,mt,mp,[],.slice none 0 0,dp,dm,ds⟩ X 1↔a=p∨a=mt∨a=mp:=fun a=>by simp[XP.comp,Hb,Value.ownBlock]
   have e3:∀a,a∈XP.comp ⟨m,h,fun _=>(0,0,[]),p,mt,mp,[],.slice none 0 0,dp,dm,ds⟩ X 2↔a=dp∨a=dm∨a=ds:=fun a=>by simp[XP.comp]
   match i,hi,j,hj with
   |0,_,0,_=>exact hij rfl
   |1,_,1,_=>exact hij rfl
   |2,_,2,_=>exact hij rfl
   |0,_,1,_=>rw[e1] at ha;rw[e2] at hb;omega
   |1,_,0,_=>rw[e2] at ha;rw[e1] at hb;omega
   |0,_,2,_=>rw[e1] at ha;rw[e3] at hb;omega
   |2,_,0,_=>rw[e3] at ha;rw[e1] at hb;omega
   |1,_,2,_=>rw[e2] at ha;rw[e3] at hb;omega
   |2,_,1,_=>rw[e3] at ha;rw[e2] at hb;omega
 · match i,hi with
   |0,_=>simp[XP.comp] at ha;omega
   |1,_=>simp[XP.comp,Hb,Value.ownBlock] at ha;omega
   |2,_=>simp[XP.comp] at ha;omega
structure CntK (k:Nat) (q:QR):Prop where
 it:q.its.length≤k
 hl:q.hld.length≤k
 rl:∀n,n<8→(q.rows n).length≤k
 wd:∀i,(q.wat i).isSome=true→i∈q.its.map Prod.fst
 dl:q.dd.rows.length≤99999
theorem CntK.entL {k:Nat} {q:QR} (h:CntK k q) (hk:k≤10000):EntL q:=by
 refine⟨by have:=h.it;omega,by have:=h.hl;omega,fun n hn=>by have:=h.rl n hn;omega,fun r hr hw=> ?_,h.dl⟩
 have:=nodup_le hr (m:=q.its.map Prod.fst) fun a ha=>h.wd a (by rw[hw,decide_eq_true ha])
 rw[List.length_map] at this
 have:=h.it
 omega
theorem noK_leU {β:Type} {l:List (UInt64×β)} {x:UInt64}:(noK l x).length≤l.length:=List.length_filter_le _ _
theorem CntK.enter {k:Nat} {q:QR} (h:CntK k q) {z:It} (hs:z.st=1∨z.st=2∨z.st=3∨z.st=4) (hd:z.st=4→(q.dd.rows.lookup z.id).isSome=true):CntK (k+1) (enterQ q z):=by
 have hits:(enterQ q z).its=(z.id,z)::noK q.its z.id:=by
  rw[enterQ_its q z (by omega),if_neg (by omega)]
 have h1:(enterQ q z).its.length≤k+1:=by
  rw[hits,List.length_cons]
  have:=noK_leU (l:=q.its) (x:=z.id)
  have:=h.it
  omega
 have hdd:(enterQ q z).dd=q.dd:=enterQ_keep q z hd
 have hin:∀i,i=z.id∨i∈q.its.map Prod.fst→i∈(enterQ q z).its.map Prod.fst:=fun i hi=>by
  rw[hits,List.map_cons,List.mem_cons]
  rcases hi with hi|hi
  · exact .inl hi
  · by_cases e:i=z.id
    · exact .inl e
    · obtain⟨y,hy,e2⟩:=List.mem_map.1 hi
      exact .inr (List.mem_map.2 ⟨y,noK_in.2 ⟨hy,by rw[e2];exact e⟩,e2⟩)
 have hput:∀t i,(putW q.wat z.id t i).isSome=true→i=z.id∨i∈q.its.map Prod.fst:=fun t i hi=>by
  unfold putW at hi
  split at hi
  · exact .inr (h.wd i hi)
  · unfold setF at hi
    split at hi
    · rename_i e;exact .inl e
    · exact .inr (h.wd i hi)
 have hrow:∀n,n<8→((updN q.rows z.lane.toNat (putR (q.rows z.lane.toNat) z.id)) n).length≤k+1:=fun n hn=>by
  unfold updN
  split
  · rename_i e
    subst e
    have:=h.rl _ hn
    unfold putR
    split
    · omega
    · rw[List.length_append];simp;omega
  · have:=h.rl n hn;omega
 refine⟨h1,?_,fun n hn=> ?_,fun i hi=>hin i ?_,by rw[hdd];exact h.dl⟩
 · rcases hs with e|e|e|e
   · rw[enterQ1 _ _ e];have:=h.hl;exact Nat.le_succ_of_le this
   · rw[enterQ2 _ _ e];have:=h.hl;exact Nat.le_succ_of_le this
   · rw[enterQ3 _ _ e]
     show((z.tok,z.id)::noK q.hld z.tok).length≤k+1
     rw[List.length_cons]
     have:=noK_leU (l:=q.hld) (x:=z.tok)
     have:=h.hl
     omega
   · rw[enterQ4 _ _ e];have:=h.hl;exact Nat.le_succ_of_le this
 · rcases hs with e|e|e|e
   · rw[enterQ1 _ _ e];exact hrow n hn
   · rw[enterQ2 _ _ e];exact Nat.le_succ_of_le (h.rl n hn)
   · rw[enterQ3 _ _ e];exact Nat.le_succ_of_le (h.rl n hn)
   · rw[enterQ4 _ _ e];exact Nat.le_succ_of_le (h.rl n hn)
 · rcases hs with e|e|e|e
   · rw[enterQ1 _ _ e] at hi;exact .inr (h.wd i hi)
   · rw[enterQ2 _ _ e] at hi;exact hput _ i hi
   · rw[enterQ3 _ _ e] at hi;exact hput _ i hi
   · rw[enterQ4 _ _ e] at hi;exact .inr (h.wd i hi)
theorem CntK.base (la pa de:Int) (s:SR) (d:PD) (h:d.rows.length≤99999):CntK 0 (baseQ la pa de s d):=⟨Nat.le_refl _,Nat.le_refl _,fun _ _=>Nat.le_refl _,fun i hi=>by simp[baseQ] at hi,h⟩
end Go.Proofs.YtcfgafododiioaaGreatDoor
