/- Texts of a claim, side by side. -/
import Derived.Test.YtcfgafododiioaaGreatDoorC11
import Derived.Test.YtcfgafododiioaaGreatDoorC42
import Derived.Test.YtcfgafododiioaaGreatDoorRows
import Derived.Test.YtcfgafododiioaaGreatDoorC1
import Derived.Deep.QuietTactic
import Derived.BigQuiet
set_option linter.unusedSimpArgs false
set_option linter.unusedVariables false
set_option maxRecDepth 100000
namespace Go.Proofs.YtcfgafododiioaaGreatDoor
open Go Go.RowKit Go.Tum Go.ChangeMaps Go.Sort
open Go.ParB (upd Lof)
open Go.ParE (putS slotsR slots Closed)
theorem infoRItm:(Tryz.prog.info? 46).map (fun i=>(i.zero,i.size,i.bytes))=some (some (itV it0),10,80):=by kernel_rfl
theorem infoRRow:(Tryz.prog.info? 121).map (fun i=>(i.zero,i.size,i.bytes))=some (some (.agg #[.int .u64 0,.int .u64 0]),2,16):=by kernel_rfl
theorem infoRCur:(Tryz.prog.info? 124).map (fun i=>(i.zero,i.size,i.bytes))=some (some (.agg #[.string ⟨#[]⟩,.int .u64 0]),2,24):=by kernel_rfl
structure RSt (B:Nat) (w:World) (s:SR) (a b c:Value):Prop where
 ai:w.ownsRow B 46 10 a s.items.length (s.items.flatMap itE)
 bi:w.ownsRow B 121 2 b s.dead.length (s.dead.flatMap encR)
 ci:w.ownsRow B 124 2 c s.curs.length (s.curs.flatMap encC)
theorem RSt.ext {B:Nat} {w w':World} {s:SR} {a b c:Value} (h:RSt B w s a b c) (k:Ext w w'):RSt B w' s a b c:=⟨k.owns h.ai,k.owns h.bi,k.owns h.ci⟩
structure LsK (w:World) (g rb ob:Nat) (s:SR) (vi vd vc a b c:Value) (la:List It) (lb:List (UInt64×UInt64)) (lc:List Cur) (wr:World):Prop where
 x:Ext w wr
 gb:wr.heap[g]? =some (srO s vi vd vc)
 rr:wr.heap[rb]? =some (.cells #[.int .u64 0,.int .u64 0,.int .u64 0,.int .u64 0,.int .u64 0,.slice none 0 0,.slice none 0 0,.slice none 0 0] 57 (0,0))
 oo:wr.heap[ob]? =some (.cells (srC s a b c) 57 (0,0))
 ai:wr.ownsRow w.heap.size 46 10 a la.length (la.flatMap itE)
 bi:wr.ownsRow w.heap.size 121 2 b lb.length (lb.flatMap encR)
 ci:wr.ownsRow w.heap.size 124 2 c lc.length (lc.flatMap encC)
 lo:w.heap.size≤g∧g<rb∧rb<ob
theorem LsK.ext {w wr w':World} {g rb ob:Nat} {s:SR} {vi vd vc a b c:Value} {la:List It} {lb:List (UInt64×UInt64)} {lc:List Cur} (h:LsK w g rb ob s vi vd vc a b c la lb lc wr) (k:Ext wr w'):LsK w g rb ob s vi vd vc a b c la lb lc w':=
 ⟨h.x.trans k,k.obj h.gb,k.obj h.rr,k.obj h.oo,k.owns h.ai,k.owns h.bi,k.owns h.ci,h.lo⟩
theorem own_apart {w w':World} {B e e' s s' n m:Nat} {v u:Value} {xs ys:List Value} (h:w.ownsRow B e s v n xs) (k:w.ownsRow B e' s' u m ys) (hne:e≠e') (f:Fr (oB u) w w'):w'.ownsRow B e s v n xs:=by
 refine ownsRow_fr h f fun q hq hm=> ?_
 obtain⟨c1,h1⟩:=row_kind h q hq
 obtain⟨c2,h2⟩:=row_kind k q hm
 rw[h1] at h2
 cases h2
 exact hne rfl
theorem blk_apart {w w':World} {B e e' s n b:Nat} {v:Value} {xs:List Value} {cs:Array Value} (h:w.ownsRow B e s v n xs) (hb:w.heap[b]? =some (.cells cs e' (0,0))) (hne:e≠e') (f:Fr (oB v) w w'):w'.heap[b]? =some (.cells cs e' (0,0)):=by
 refine(f.block b (Array.getElem?_eq_some_iff.1 hb).1 fun hm=> ?_).trans hb
 obtain⟨c1,h1⟩:=row_kind h b hm
 rw[hb] at h1
 cases h1
 exact hne rfl
theorem LsK.put5 {w wr w2 w3:World} {g rb ob:Nat} {s:SR} {vi vd vc a b c u':Value} {la:List It} {lb:List (UInt64×UInt64)} {lc:List Cur} (h:LsK w g rb ob s vi vd vc a b c la lb lc wr) {z:It} (hx:Ext wr w2)
 (ho:w3.ownsRow w.heap.size 46 10 u' (la.length+1) ((la++[z]).flatMap itE)) (fr:Fr (oB a) w2 w3) (hE:Ext w w3):LsK w g rb ob s vi vd vc u' b c (la++[z]) lb lc (w3.setCell ⟨ob,5,none⟩ u'):=by
 have k:=h.ext hx
 have f:Fr [ob] w3 (w3.setCell ⟨ob,5,none⟩ u'):=fr_setCell _ _ _ (by simp)
 have hlo:=k.lo
 have hob:=blk_apart k.ai k.oo (by decide) fr
 have hb:=block_set hob 5 u'
 refine⟨Below.trans hE (f.below (by simp;omega) hE.size),?_,?_,hb,ownsRow_fr (by simpa using ho) f (row_off ho hob (by decide)),ownsRow_fr (own_apart k.bi k.ai (by decide) fr) f (row_off (own_apart k.bi k.ai (by decide) fr) hob (by decide)),ownsRow_fr (own_apart k.ci k.ai (by decide) fr) f (row_off (own_apart k.ci k.ai (by decide) fr) hob (by decide)),h.lo⟩
 · have h1:=blk_apart k.ai k.gb (by decide) fr
   exact(f.block g (Array.getElem?_eq_some_iff.1 h1).1 (by simp;omega)).trans h1
 · have h1:=blk_apart k.ai k.rr (by decide) fr
   exact(f.block rb (Array.getElem?_eq_some_iff.1 h1).1 (by simp;omega)).trans h1
theorem LsK.put6 {w wr w2 w3:World} {g rb ob:Nat} {s:SR} {vi vd vc a b c u':Value} {la:List It} {lb:List (UInt64×UInt64)} {lc:List Cur} (h:LsK w g rb ob s vi vd vc a b c la lb lc wr) {z:(UInt64×UInt64)} (hx:Ext wr w2)
 (ho:w3.ownsRow w.heap.size 121 2 u' (lb.length+1) ((lb++[z]).flatMap encR)) (fr:Fr (oB b) w2 w3) (hE:Ext w w3):LsK w g rb ob s vi vd vc a u' c la (lb++[z]) lc (w3.setCell ⟨ob,6,none⟩ u'):=by
 have k:=h.ext hx
 have f:Fr [ob] w3 (w3.setCell ⟨ob,6,none⟩ u'):=fr_setCell _ _ _ (by simp)
 have hlo:=k.lo
 have hob:=blk_apart k.bi k.oo (by decide) fr
 have hb:=block_set hob 6 u'
 refine⟨Below.trans hE (f.below (by simp;omega) hE.size),?_,?_,hb,ownsRow_fr (own_apart k.ai k.bi (by decide) fr) f (row_off (own_apart k.ai k.bi (by decide) fr) hob (by decide)),ownsRow_fr (by simpa using ho) f (row_off ho hob (by decide)),ownsRow_fr (own_apart k.ci k.bi (by decide) fr) f (row_off (own_apart k.ci k.bi (by decide) fr) hob (by decide)),h.lo⟩
 · have h1:=blk_apart k.bi k.gb (by decide) fr
   exact(f.block g (Array.getElem?_eq_some_iff.1 h1).1 (by simp;omega)).trans h1
 · have h1:=blk_apart k.bi k.rr (by decide) fr
   exact(f.block rb (Array.getElem?_eq_some_iff.1 h1).1 (by simp;omega)).trans h1
theorem LsK.put7 {w wr w2 w3:World} {g rb ob:Nat} {s:SR} {vi vd vc a b c u':Value} {la:List It} {lb:List (UInt64×UInt64)} {lc:List Cur} (h:LsK w g rb ob s vi vd vc a b c la lb lc wr) {z:Cur} (hx:Ext wr w2)
 (ho:w3.ownsRow w.heap.size 124 2 u' (lc.length+1) ((lc++[z]).flatMap encC)) (fr:Fr (oB c) w2 w3) (hE:Ext w w3):LsK w g rb ob s vi vd vc a b u' la lb (lc++[z]) (w3.setCell ⟨ob,7,none⟩ u'):=by
 have k:=h.ext hx
 have f:Fr [ob] w3 (w3.setCell ⟨ob,7,none⟩ u'):=fr_setCell _ _ _ (by simp)
 have hlo:=k.lo
 have hob:=blk_apart k.ci k.oo (by decide) fr
 have hb:=block_set hob 7 u'
 refine⟨Below.trans hE (f.below (by simp;omega) hE.size),?_,?_,hb,ownsRow_fr (own_apart k.ai k.ci (by decide) fr) f (row_off (own_apart k.ai k.ci (by decide) fr) hob (by decide)),ownsRow_fr (own_apart k.bi k.ci (by decide) fr) f (row_off (own_apart k.bi k.ci (by decide) fr) hob (by decide)),ownsRow_fr (by simpa using ho) f (row_off ho hob (by decide)),h.lo⟩
 · have h1:=blk_apart k.ci k.gb (by decide) fr
   exact(f.block g (Array.getElem?_eq_some_iff.1 h1).1 (by simp;omega)).trans h1
 · have h1:=blk_apart k.ci k.rr (by decide) fr
   exact(f.block rb (Array.getElem?_eq_some_iff.1 h1).1 (by simp;omega)).trans h1
theorem row2 {α:Type} {f1 f2:α→Value} {w:World} {l:List α} {a:Addr} {n cap:Nat} (h:Sl w 2 (.slice (some a) n cap) n (l.flatMap fun z=>[f1 z,f2 z])) {k:Nat} {z:α} (hz:l[k]? =some z):
 w.cell? (a.add (k*2))=some (f1 z)∧w.cell? ⟨(a.add (k*2)).block,(a.add (k*2)).off+1,none⟩=some (f2 z):=by
 obtain⟨-,-,-,hc⟩:=Sl.cells h
 obtain⟨hk,rfl⟩:=List.getElem?_eq_some_iff.1 hz
 obtain⟨g0,g1⟩:=flat2_get (A:=f1) (Bf:=f2) l k hk
 exact⟨cell_first (i:=k*2) (hc a rfl _ _ g0),cell_next (i:=k*2) (j:=1) (hc a rfl _ _ g1) (by decide)⟩
theorem two_one (w:World) (e:Nat) (x y:Value):Sl (w.alloc (.cells #[x,y] e (0,0))) 2 (.slice (some ⟨w.heap.size,0,none⟩) 1 1) 1 [x,y]:=by
 have hblk:=heap_alloc_new w (.cells #[x,y] e (0,0))
 refine⟨rfl,some ⟨w.heap.size,0,none⟩,1,rfl,Nat.le_refl _,by simp[maxLen],(fun h=>by cases h),fun a ha j u hu=> ?_⟩
 cases ha
 have e1:(⟨w.heap.size,0,none⟩:Addr).add j=⟨w.heap.size,j,none⟩:=by unfold Addr.add;split<;>simp_all
 rw[e1,cell_of_row _ _ _ _ _ _ hblk]
 simpa using hu
theorem lst_results (tmps:Array Value) (w:World) (b:Nat) (s:SR) (vi vd vc:Value) (h4:tmps.getD 2 undef= .pointer (some ⟨b,0,none⟩)) (m:w.heap[b]? =some (.cells (srC s vi vd vc) 57 (0,0))):
 (results Tryz.f22 tmps).run Tryz.prog w= .ok (srV s vi vd vc) w:=by
 have h4':tmps[2]?.getD undef= .pointer (some ⟨b,0,none⟩):=by simpa using h4
 obtain⟨m0,m1,m2,m3,m4,m5,m6,m7,-⟩:=blk8 m
 simp[results,Tryz.results22,go_sem,h4',m0,m1,m2,m3,m4,m5,m6,m7]
def LiQ (w W:World) (z:It) (a:Value) (n:Nat) (la:List It) (P:World→Prop) (i:Nat) (σ:Nat→Value) (w':World):Prop:=match i with
 |0=>Ext W w'
 |1=>Ext W w'∧σ 31=itV z
 |2=>Ext W w'∧Sl w' 10 (σ 32) 1 (itE z)
 |3=>∃W2,Ext W W2∧(∃ao cap,σ 33= .slice ao (n+1) cap∧w'.ownsRow w.heap.size 46 10 (.slice ao (n+1) cap) (la.length+1) ((la++[z]).flatMap itE))∧Fr (oB a) W2 w'∧Ext w w'
 |_=>P w'
set_option maxHeartbeats 4000000 in
theorem lstate_any {w:World} {s:SR} {ao bo co:Option Addr} {cap cb cc:Nat} (hi:Sl w 10 (.slice ao s.items.length cap) s.items.length (s.items.flatMap itE)) (hd:Sl w 2 (.slice bo s.dead.length cb) s.dead.length (s.dead.flatMap encR))
 (hc:Sl w 2 (.slice co s.curs.length cc) s.curs.length (s.curs.flatMap encC)) (hl1:s.items.length≤100000) (hl2:s.dead.length≤100000) (hl3:s.curs.length≤100000):
 Calls Tryz.prog 22 #[srV s (.slice ao s.items.length cap) (.slice bo s.dead.length cb) (.slice co s.curs.length cc)] w fun e w'=>(∃a b c,e= .returned (srV s a b c)∧RSt w.heap.size w' s a b c)∧Ext w w':=by
 obtain⟨W1,hW1⟩:∃W,w.alloc (srO s (.slice ao s.items.length cap) (.slice bo s.dead.length cb) (.slice co s.curs.length cc))=W:=⟨_,rfl⟩
 obtain⟨W2,hW2⟩:∃W,W1.alloc (.cells #[.int .u64 0,.int .u64 0,.int .u64 0,.int .u64 0,.int .u64 0,.slice none 0 0,.slice none 0 0,.slice none 0 0] 57 (0,0))=W:=⟨_,rfl⟩
 have e1:Ext w W1:=by rw[←hW1];exact Ext.alloc _ _
 have e2:Ext W1 W2:=by rw[←hW2];exact Ext.alloc _ _
 have e3:Ext W2 (W2.alloc (.cells (srC s (.slice none 0 0) (.slice none 0 0) (.slice none 0 0)) 57 (0,0))):=Ext.alloc _ _
 have s1:W1.heap.size=w.heap.size+1:=by rw[←hW1];simp
 have s2:W2.heap.size=W1.heap.size+1:=by rw[←hW2];simp
 have b1:W2.heap[w.heap.size]? =some (srO s (.slice ao s.items.length cap) (.slice bo s.dead.length cb) (.slice co s.curs.length cc)):=e2.obj (by rw[←hW1];exact heap_alloc_new _ _)
 have b2:W2.heap[W1.heap.size]? =some (.cells #[.int .u64 0,.int .u64 0,.int .u64 0,.int .u64 0,.int .u64 0,.slice none 0 0,.slice none 0 0,.slice none 0 0] 57 (0,0)):=by rw[←hW2];exact heap_alloc_new _ _
 have b3:(W2.alloc (.cells (srC s (.slice none 0 0) (.slice none 0 0) (.slice none 0 0)) 57 (0,0))).heap[W2.heap.size]? =some (.cells (srC s (.slice none 0 0) (.slice none 0 0) (.slice none 0 0)) 57 (0,0)):=heap_alloc_new _ _
 have HK:Hid (LsK w w.heap.size W1.heap.size W2.heap.size s (.slice ao s.items.length cap) (.slice bo s.dead.length cb) (.slice co s.curs.length cc) (.slice none 0 0) (.slice none 0 0) (.slice none 0 0) [] [] [] (W2.alloc (.cells (srC s (.slice none 0 0) (.slice none 0 0) (.slice none 0 0)) 57 (0,0)))):=hid
  ⟨(e1.trans e2).trans e3,e3.obj b1,e3.obj b2,b3,World.ownsRow_nil _ _ _ _,World.ownsRow_nil _ _ _ _,World.ownsRow_nil _ _ _ _,by omega⟩
 have HI:=hid hi
 have HD:=hid hd
 have HC:=hid hc
 have HL:=hid (And.intro hl1 (And.intro hl2 hl3))
 have hz1:ao=none→s.items.length=0:=fun e=>by obtain⟨h1,-,h3,-⟩:=Sl.cells hi;have:=h3 e;omega
 have hz2:bo=none→s.dead.length=0:=fun e=>by obtain⟨h1,-,h3,-⟩:=Sl.cells hd;have:=h3 e;omega
 have hz3:co=none→s.curs.length=0:=fun e=>by obtain⟨h1,-,h3,-⟩:=Sl.cells hc;have:=h3 e;omega
 have HZ:=hid (And.intro hz1 (And.intro hz2 hz3))
 obtain⟨y0,y1,y2,y3,y4,y5,y6,y7,-⟩:=blk8 b1
 have x5:=fun o=>(Ext.alloc W2 o).cell y5
 clear e1 e2 e3 s1 s2 b1 b2 b3 hi hd hc hl1 hl2 hl3 hz1 hz2 hz3
 go_enter Tryz.func22,Tryz.ntmps22
 go_wp2
 obtain⟨W3,hW3⟩:∃W,W2.alloc (.cells #[vU s.now,vU s.next,vU s.leases,vU s.turns,vU s.deaths,.slice none 0 0,.slice none 0 0,.slice none 0 0] 57 (0,0))=W:=⟨_,rfl⟩
 try rw[hW3]
 rw[show(W2.alloc (.cells (srC s (.slice none 0 0) (.slice none 0 0) (.slice none 0 0)) 57 (0,0)))=W3 from hW3] at HK
 clear hW1 hW2 hW3 y0 y1 y2 y3 y4 y5 y6 y7 x5
 obtain⟨g,hg⟩:∃b,w.heap.size=b:=⟨_,rfl⟩
 obtain⟨rb,hrb⟩:∃b,W1.heap.size=b:=⟨_,rfl⟩
 obtain⟨ob,hob⟩:∃b,W2.heap.size=b:=⟨_,rfl⟩
 have HK2:Hid (LsK w g rb ob s (.slice ao s.items.length cap) (.slice bo s.dead.length cb) (.slice co s.curs.length cc) (.slice none 0 0) (.slice none 0 0) (.slice none 0 0) [] [] [] W3):=hid (by have:=HK.out;rw[hrb,hob] at this;rw[←hg];exact this)
 try rw[hg]
 try rw[hrb]
 try rw[hob]
 clear HK hg hrb hob
 go_loopw [24] (fun iv wr=>∃(k:Nat) (o1:Option Addr) (c1x:Nat),k≤s.items.length∧iv= .int .i64 (k:Int)∧Hid (LsK w g rb ob s (.slice ao s.items.length cap) (.slice bo s.dead.length cb) (.slice co s.curs.length cc) (.slice o1 k c1x) (.slice none 0 0) (.slice none 0 0) (s.items.take k) [] [] wr)) (fun iv _=>s.items.length - (intOf iv).toNat)
 case atStart=>exact⟨0,none,0,Nat.zero_le _,rfl,HK2⟩
 case round=>
  clear HK2
  obtain⟨k,o1,c1x,hk,rfl,HK⟩:=hrel
  by_cases hkm:k<s.items.length
  · have hki:decide ((k:Int)<(s.items.length:Int))=true:=by simp;omega
    obtain⟨a,rfl⟩:∃a,ao=some a:=by
     cases ao with
     |none=>have:=HZ.out.1 rfl;omega
     |some a=>exact⟨a,rfl⟩
    have HKM:=hid hkm
    obtain⟨z,hz2⟩:∃z,s.items[k]? =some z:=⟨_,List.getElem?_eq_getElem hkm⟩
    obtain⟨r0,r1,r2,r3,r4,r5,r6,r7,r8,r9⟩:=row10z (HI.out.ext HK.out.x) hz2
    have hlt:(s.items.take k).length=k:=by rw[List.length_take];omega
    have htk:s.items.take (k+1)=s.items.take k++[z]:=by
     obtain⟨h1,h2⟩:=List.getElem?_eq_some_iff.1 hz2
     rw[List.take_succ_eq_append_getElem h1,h2]
    have HLT:=hid hlt
    have HTK:=hid htk
    obtain⟨id,la,st,ct,du,tk,tu,sg,ps,sz⟩:=z
    dsimp only at r0 r1 r2 r3 r4 r5 r6 r7 r8 r9
    obtain⟨w3,hw3⟩:∃W,wr.alloc (itO ⟨id,la,st,ct,du,tk,tu,sg,ps,sz⟩)=W:=⟨_,rfl⟩
    have e3:Ext wr w3:=by rw[←hw3];exact Ext.alloc _ _
    have hb3:w3.heap[wr.heap.size]? =some (itO ⟨id,la,st,ct,du,tk,tu,sg,ps,sz⟩):=by rw[←hw3];exact heap_alloc_new _ _
    have HK3:=hid (HK.out.ext e3)
    have HB3:=hid hb3
    have HE3:=hid e3
    clear hz2 e3 hb3 hkm hk hlt htk
    go_wp2_with fail
    clear r0 r1 r2 r3 r4 r5 r6 r7 r8 r9 hw3 hki
    obtain⟨ib,hib⟩:∃b,wr.heap.size=b:=⟨_,rfl⟩
    rw[hib] at HB3
    try rw[hib]
    clear hib
    obtain⟨Z,hZ⟩:∃z:It,⟨id,la,st,ct,du,tk,tu,sg,ps,sz⟩=z:=⟨_,rfl⟩
    rw[hZ] at HB3 HTK
    clear hZ
    refine ParE.wp_region_e (l:=[_,_,_,_,_,_,_,_]) rfl (Rg.Ch [3,4,5,7] [31,32,33] (LiQ w w3 Z (.slice o1 k c1x) k (s.items.take k) (fun w'=>∃o2 c2x,LsK w g rb ob s (.slice (some a) s.items.length cap) (.slice bo s.dead.length cb) (.slice co s.curs.length cc) (.slice o2 (k+1) c2x) (.slice none 0 0) (.slice none 0 0) (s.items.take k++[Z]) [] [] w'))) (ParC.VC [ParC.EQ (Value.pointer (some ⟨ob,5,none⟩)),ParC.EQ (Value.slice o1 k c1x),ParC.EQ (itV Z),(fun _=>True),(fun _=>True),(fun _=>True),ParC.EQ (Value.pointer (some ⟨ob,5,none⟩)),fun _=>True]) (by kernel_rfl) (by kernel_rfl) (Rg.Ch.start (Ext.draw _)) ?_ ?_
    · refine⟨fun _ _ _ hR _ _ _ hk=>Par.pv [(3,pv ob)] hk (by kernel_rfl) ⟨hR.other (by decide),rfl⟩,?_⟩
      refine⟨fun L ρ w' hR hC hL hd hk=> ?_,?_⟩
      · obtain⟨(e0:ρ (.tmp 28)=Value.pointer (some ⟨ob,5,none⟩)),-⟩:=hk;refine Par.val_k fun K hK=> ?_;unfold Par.val
        (obtain⟨i,hi,hq⟩:=hR.some 2 rfl (hC.notyet 5 1 hL (by kernel_rfl));have hx:Ext w3 w':=(match i,hi,hq with|0,_,h=>h|1,_,h=>h.1|2,_,h=>h.1);have cc:=(blk8 (hx.obj HK3.out.oo)).2.2.2.2.2.1;go_simp;exact hK _ _ ⟨hR.other (by decide),rfl⟩)
      refine⟨fun L ρ w' hR hC hL hd hk=> ?_,?_⟩
      · obtain⟨(e0:ρ (.tmp 5)=pv ib),-⟩:=hk;refine Par.val_k fun K hK=> ?_;unfold Par.val
        (obtain⟨i,hi,hq⟩:=hR.some 0 rfl (hC.notyet 3 2 hL (by kernel_rfl));have hx:Ext w3 w':=(match i,hi,hq with|0,_,h=>h);obtain⟨cc0,cc1,cc2,cc3,cc4,cc5,cc6,cc7,cc8,cc9,-⟩:=blk10 (hx.obj HB3.out);go_simp;exact hK _ _ ⟨hR.other (by decide),rfl⟩)
      refine⟨fun L ρ w' hR hC hL hd hk=> ?_,?_⟩
      · obtain⟨e0,(e1:ρ (.tmp 30)=itV Z),-⟩:=hk;refine Par.val_k fun K hK=> ?_;unfold Par.val
        (obtain⟨hq,hs⟩:=hR.go 0 rfl hL (.inl rfl) (by decide);have hx:Ext w3 w':=hq;refine Par.val_call Tryz.func46 (by kernel_rfl) rfl e0 ?_;simp only[List.map_toArray,List.map_cons,List.map_nil,e1];refine(item_any Z w').mono ?_;rintro e w5 ⟨rfl,hx5⟩;exact⟨_,rfl,hK _ _ ⟨hs _ _ _ ⟨hx.trans hx5,rfl⟩,trivial⟩⟩)
      refine⟨fun L ρ w' hR hC hL hd hk=> ?_,?_⟩
      · obtain⟨(e0:(fun _=>True) (ρ (.tmp 31))),-⟩:=hk;refine Par.val_k fun K hK=> ?_;unfold Par.val
        (obtain⟨hq,hs⟩:=hR.go 1 rfl hL (.inr ⟨3,rfl,hC.before 3 (i:=4) rfl hd (by kernel_rfl)⟩) (by decide);obtain⟨hx,h31⟩:=hq;have s31:ρ (.tmp 31)=itV Z:=h31;clear h31;go_simp;exact hK _ _ ⟨hs _ _ _ ⟨hx.trans (Ext.alloc _ _),item_one _ 46 Z⟩,trivial⟩)
      refine⟨fun L ρ w' hR hC hL hd hk=> ?_,?_⟩
      · obtain⟨(e0:ρ (.tmp 29)=Value.slice o1 k c1x),(e1:(fun _=>True) (ρ (.tmp 32))),-⟩:=hk;refine Par.val_k fun K hK=> ?_;unfold Par.val
        (obtain⟨hq,hs⟩:=hR.go 2 rfl hL (.inr ⟨4,rfl,hC.before 4 (i:=5) rfl hd (by kernel_rfl)⟩) (by decide);obtain⟨hx,hsl⟩:=hq;have hsl2:Sl w' 10 (ρ (.tmp 32)) 1 (itE Z):=hsl;have hown:=hx.owns HK3.out.ai;rw[HLT.out] at hown;obtain⟨a9,c9,w9,r1,r2,r3,r4⟩:=run_append_sl (P:=Tryz.prog) w.heap.size 53 53 46 Tryz.underlying53 infoRItm rfl (by decide) hown hsl2 (itE_one Z) (by have:=HKM.out;have:=HL.out;simp[maxLen];omega) (by have:=HKM.out;have:=HL.out;omega) (HK3.out.x.trans hx).size;rw[←e0] at r1;exact Par.val_append r1 (hK _ _ ⟨hs _ _ _ ⟨w',hx,⟨a9,c9,rfl,(by rw[HLT.out,List.flatMap_append];simpa using r2)⟩,fr_grownD r3 r4,Below.trans (HK3.out.x.trans hx) r4⟩,trivial⟩))
      refine⟨fun _ _ _ hR _ _ _ hk=>Par.pv [(3,pv ob)] hk (by kernel_rfl) ⟨hR.other (by decide),rfl⟩,?_⟩
      refine⟨fun L ρ w' hR hC hL hd hk=> ?_,?_⟩
      · obtain⟨(e0:ρ (.tmp 34)=Value.pointer (some ⟨ob,5,none⟩)),(e1:(fun _=>True) (ρ (.tmp 33))),-⟩:=hk;refine Par.val_k fun K hK=> ?_;unfold Par.val
        (obtain⟨hq,hs⟩:=hR.go 3 rfl hL (.inr ⟨5,rfl,hC.before 5 (i:=7) rfl hd (by kernel_rfl)⟩) (by decide);obtain⟨W2,hx,⟨o2,c2x,h33,ho⟩,hfr,hE⟩:=hq;have s33:ρ (.tmp 33)= .slice o2 (k+1) c2x:=h33;have hk2:=LsK.put5 HK3.out hx ho hfr hE;have hob:=blk_apart (HK3.out.ext hx).ai (HK3.out.ext hx).oo (by decide) hfr;obtain⟨-,-,-,-,-,cc,-,-,ff⟩:=blk8 hob;have ff5:=ff 5;have HKK:=hid hk2;clear h33 ho hfr hE hk2 hob ff hx;go_simp;exact hK _ _ ⟨hs none _ _ ⟨o2,c2x,HKK.out⟩,trivial⟩)
      trivial
    intro a' w' inv hR
    have q31:(fun _=>True) (a'.tmps.getD 31 undef):=inv.done 3 _ 31 rfl rfl rfl
    have q32:(fun _=>True) (a'.tmps.getD 32 undef):=inv.done 4 _ 32 rfl rfl rfl
    have q33:(fun _=>True) (a'.tmps.getD 33 undef):=inv.done 5 _ 33 rfl rfl rfl
    have hq:=Par.donesC inv;simp only[Par.donesV,ParC.EQ,true_and,and_true] at hq
    clear inv
    simp only[List.filterMap_cons,List.filterMap_nil,Par.putAll,Act.put,List.setIfInBounds_toArray,List.set_cons_succ,List.set_cons_zero,hq]
    clear hq
    have hp:=Rg.Ch.fin hR (by decide) 4 rfl;have HP:=hid hp;clear hp hR
    generalize a'.tmps.getD 31 undef=u31 at*
    generalize a'.tmps.getD 32 undef=u32 at*
    generalize a'.tmps.getD 33 undef=u33 at*
    try clear a'
    obtain⟨o2,c2x,hk2⟩:=HP.out
    have HK5:=hid hk2
    clear hk2 HP
    go_wp2
    go_roundw
    case rel=>exact⟨k+1,o2,c2x,HKM.out,next_i64L (by have:=HKM.out;have:=HL.out;omega),hid (by rw[HTK.out];exact HK5.out)⟩
    case measure=>exact next_lessL (by have:=HKM.out;have:=HL.out;omega) HKM.out
  · obtain rfl:k=s.items.length:=by omega
    have hki:decide ((s.items.length:Int)<(s.items.length:Int))=false:=by simp
    have HK7:=HK
    rw[List.take_length] at HK7
    obtain⟨y0,y1,y2,y3,y4,y5,y6,y7,-⟩:=blk8 HK7.out.gb
    clear hkm hk HK
    go_wp2
    clear y0 y1 y2 y3 y4 y5 y6 y7
    go_loopw [39] (fun iv wr=>∃(k:Nat) (o2:Option Addr) (c2x:Nat),k≤s.dead.length∧iv= .int .i64 (k:Int)∧Hid (LsK w g rb ob s (.slice ao s.items.length cap) (.slice bo s.dead.length cb) (.slice co s.curs.length cc) (.slice o1 s.items.length c1x) (.slice o2 k c2x) (.slice none 0 0) s.items (s.dead.take k) [] wr)) (fun iv _=>s.dead.length - (intOf iv).toNat)
    case atStart=>exact⟨0,none,0,Nat.zero_le _,rfl,HK7⟩
    case round=>
     clear HK7
     obtain⟨k,o2,c2x,hk,rfl,HK⟩:=hrel
     by_cases hkm:k<s.dead.length
     · have hki:decide ((k:Int)<(s.dead.length:Int))=true:=by simp;omega
       obtain⟨a,rfl⟩:∃a,bo=some a:=by
        cases bo with
        |none=>have:=HZ.out.2.1 rfl;omega
        |some a=>exact⟨a,rfl⟩
       have HKM:=hid hkm
       obtain⟨z,hz2⟩:∃z,s.dead[k]? =some z:=⟨_,List.getElem?_eq_getElem hkm⟩
       obtain⟨r0,r1⟩:=row2 (f1:=fun z:UInt64×UInt64=>vU z.1) (f2:=fun z=>vU z.2) (HD.out.ext HK.out.x) hz2
       have HLT:=hid (show(s.dead.take k).length=k by rw[List.length_take];omega)
       have HTK:Hid (s.dead.take (k+1)=s.dead.take k++[z]):=hid (by
        obtain⟨h1,h2⟩:=List.getElem?_eq_some_iff.1 hz2
        rw[List.take_succ_eq_append_getElem h1,h2])
       obtain⟨z1,z2⟩:=z
       dsimp only at r0 r1
       obtain⟨w3,hw3⟩:∃W,wr.alloc (.cells #[vU z1,vU z2] 96 (0,0))=W:=⟨_,rfl⟩
       have e3:Ext wr w3:=by rw[←hw3];exact Ext.alloc _ _
       have hb3:w3.heap[wr.heap.size]? =some (.cells #[vU z1,vU z2] 96 (0,0)):=by rw[←hw3];exact heap_alloc_new _ _
       obtain⟨d0,d1,-⟩:=lk2 hb3
       have HK3:=hid (HK.out.ext e3)
       obtain⟨-,-,-,-,-,q5,q6,q7,-⟩:=blk8 HK3.out.oo
       have HOW:Hid (w3.ownsRow w.heap.size 121 2 (.slice o2 k c2x) k ((s.dead.take k).flatMap encR)):=hid (by have:=HK3.out.bi;rw[HLT.out] at this;exact this)
       clear hz2 e3 hb3 hkm hk
       go_wp2_with (at_builtin;refine wpList_append_slN rfl (.tmp 44) (.tmp 46) 54 rfl w.heap.size 121 Tryz.underlying54 infoRRow rfl (by decide) rfl ((Ext.alloc w3 _).owns HOW.out) rfl (two_one w3 121 (vU z1) (vU z2)) (by intro y hy;simp at hy;rcases hy with rfl|rfl<;>rfl) (k+1) (by omega) (by have:=HKM.out;have:=HL.out;simp[maxLen];omega) (by have:=HKM.out;have:=HL.out;omega) (Nat.le_trans HK3.out.x.size (by simp)) ?_;intro ao3 cap3 w5 hO3 hf3 hb5;have HB5:Hid (Ext w w5):=hid (Below.trans (HK3.out.x.trans (Ext.alloc _ _)) hb5);have HF5:=hid hf3;have HO5:=hid hO3;have hoo:=blk_apart ((Ext.alloc w3 _).owns HOW.out) ((Ext.alloc w3 _).obj HK3.out.oo) (by decide) hf3;obtain⟨-,-,-,-,-,t5,t6,t7,tf⟩:=blk8 hoo;have tf6:=tf 6;clear hO3 hf3 hb5 hoo tf)
       go_roundw
       case rel=>exact⟨k+1,ao3,cap3,HKM.out,next_i64L (by have:=HKM.out;have:=HL.out;omega),hid (by rw[HTK.out];exact LsK.put6 HK3.out (Ext.alloc w3 _) (by rw[HLT.out,List.flatMap_append];simpa using HO5.out) HF5.out HB5.out)⟩
       case measure=>exact next_lessL (by have:=HKM.out;have:=HL.out;omega) HKM.out
     · obtain rfl:k=s.dead.length:=by omega
       have hki:decide ((s.dead.length:Int)<(s.dead.length:Int))=false:=by simp
       have HK8:=HK
       rw[List.take_length] at HK8
       obtain⟨y0,y1,y2,y3,y4,y5,y6,y7,-⟩:=blk8 HK8.out.gb
       clear hkm hk HK
       go_wp2
       clear y0 y1 y2 y3 y4 y5 y6 y7
       go_loopw [53] (fun iv wr=>∃(k:Nat) (o3:Option Addr) (c3x:Nat),k≤s.curs.length∧iv= .int .i64 (k:Int)∧Hid (LsK w g rb ob s (.slice ao s.items.length cap) (.slice bo s.dead.length cb) (.slice co s.curs.length cc) (.slice o1 s.items.length c1x) (.slice o2 s.dead.length c2x) (.slice o3 k c3x) s.items s.dead (s.curs.take k) wr)) (fun iv _=>s.curs.length - (intOf iv).toNat)
       case atStart=>exact⟨0,none,0,Nat.zero_le _,rfl,HK8⟩
       case round=>
        clear HK8
        obtain⟨k,o3,c3x,hk,rfl,HK⟩:=hrel
        by_cases hkm:k<s.curs.length
        · have hki:decide ((k:Int)<(s.curs.length:Int))=true:=by simp;omega
          obtain⟨a,rfl⟩:∃a,co=some a:=by
           cases co with
           |none=>have:=HZ.out.2.2 rfl;omega
           |some a=>exact⟨a,rfl⟩
          have HKM:=hid hkm
          obtain⟨z,hz2⟩:∃z,s.curs[k]? =some z:=⟨_,List.getElem?_eq_getElem hkm⟩
          obtain⟨r0,r1⟩:=row2 (f1:=fun z:Cur=>vN z.1) (f2:=fun z=>vU z.2) (HC.out.ext HK.out.x) hz2
          have HLT:=hid (show(s.curs.take k).length=k by rw[List.length_take];omega)
          have HTK:Hid (s.curs.take (k+1)=s.curs.take k++[z]):=hid (by
           obtain⟨h1,h2⟩:=List.getElem?_eq_some_iff.1 hz2
           rw[List.take_succ_eq_append_getElem h1,h2])
          obtain⟨z1,z2⟩:=z
          dsimp only at r0 r1
          obtain⟨w3,hw3⟩:∃W,wr.alloc (.cells #[vN z1,vU z2] 123 (0,0))=W:=⟨_,rfl⟩
          have e3:Ext wr w3:=by rw[←hw3];exact Ext.alloc _ _
          have hb3:w3.heap[wr.heap.size]? =some (.cells #[vN z1,vU z2] 123 (0,0)):=by rw[←hw3];exact heap_alloc_new _ _
          obtain⟨d0,d1,-⟩:=lk2 hb3
          have HK3:=hid (HK.out.ext e3)
          obtain⟨-,-,-,-,-,q5,q6,q7,-⟩:=blk8 HK3.out.oo
          have HOW:Hid (w3.ownsRow w.heap.size 124 2 (.slice o3 k c3x) k ((s.curs.take k).flatMap encC)):=hid (by have:=HK3.out.ci;rw[HLT.out] at this;exact this)
          clear hz2 e3 hb3 hkm hk
          go_wp2_with (at_builtin;refine wpList_append_slN rfl (.tmp 58) (.tmp 60) 55 rfl w.heap.size 124 Tryz.underlying55 infoRCur rfl (by decide) rfl ((Ext.alloc w3 _).owns HOW.out) rfl (two_one w3 124 (vN z1) (vU z2)) (by intro y hy;simp at hy;rcases hy with rfl|rfl<;>rfl) (k+1) (by omega) (by have:=HKM.out;have:=HL.out;simp[maxLen];omega) (by have:=HKM.out;have:=HL.out;omega) (Nat.le_trans HK3.out.x.size (by simp)) ?_;intro ao3 cap3 w5 hO3 hf3 hb5;have HB5:Hid (Ext w w5):=hid (Below.trans (HK3.out.x.trans (Ext.alloc _ _)) hb5);have HF5:=hid hf3;have HO5:=hid hO3;have hoo:=blk_apart ((Ext.alloc w3 _).owns HOW.out) ((Ext.alloc w3 _).obj HK3.out.oo) (by decide) hf3;obtain⟨-,-,-,-,-,t5,t6,t7,tf⟩:=blk8 hoo;have tf7:=tf 7;clear hO3 hf3 hb5 hoo tf)
          go_roundw
          case rel=>exact⟨k+1,ao3,cap3,HKM.out,next_i64L (by have:=HKM.out;have:=HL.out;omega),hid (by rw[HTK.out];exact LsK.put7 HK3.out (Ext.alloc w3 _) (by rw[HLT.out,List.flatMap_append];simpa using HO5.out) HF5.out HB5.out)⟩
          case measure=>exact next_lessL (by have:=HKM.out;have:=HL.out;omega) HKM.out
        · obtain rfl:k=s.curs.length:=by omega
          have hki:decide ((s.curs.length:Int)<(s.curs.length:Int))=false:=by simp
          have HK9:=HK
          rw[List.take_length] at HK9
          obtain⟨y0,y1,y2,y3,y4,y5,y6,y7,-⟩:=blk8 HK9.out.gb
          clear hkm hk HK
          obtain⟨q0,q1,q2,q3,q4,q5,q6,q7,-⟩:=blk8 HK9.out.oo
          obtain⟨m0,m1,m2,m3,m4,m5,m6,m7,mf⟩:=blk8 HK9.out.rr
          have f0:=mf 0
          have f1:=mf 1
          have f2:=mf 2
          have f3:=mf 3
          have f4:=mf 4
          have f5:=mf 5
          have f6:=mf 6
          have f7:=mf 7
          have HF:Hid ((setS wr rb (vU s.now) (vU s.next) (vU s.leases) (vU s.turns) (vU s.deaths) (.slice o1 s.items.length c1x) (.slice o2 s.dead.length c2x) (.slice o3 s.curs.length c3x)).heap[rb]? =some (.cells (srC s (.slice o1 s.items.length c1x) (.slice o2 s.dead.length c2x) (.slice o3 s.curs.length c3x)) 57 (0,0))∧RSt w.heap.size (setS wr rb (vU s.now) (vU s.next) (vU s.leases) (vU s.turns) (vU s.deaths) (.slice o1 s.items.length c1x) (.slice o2 s.dead.length c2x) (.slice o3 s.curs.length c3x)) s (.slice o1 s.items.length c1x) (.slice o2 s.dead.length c2x) (.slice o3 s.curs.length c3x)∧Ext w (setS wr rb (vU s.now) (vU s.next) (vU s.leases) (vU s.turns) (vU s.deaths) (.slice o1 s.items.length c1x) (.slice o2 s.dead.length c2x) (.slice o3 s.curs.length c3x))):=hid (by
           have f:=setS_fr wr rb (vU s.now) (vU s.next) (vU s.leases) (vU s.turns) (vU s.deaths) (.slice o1 s.items.length c1x) (.slice o2 s.dead.length c2x) (.slice o3 s.curs.length c3x)
           have k:=HK9.out
           exact⟨setS_blk k.rr _ _ _ _ _ _ _ _,⟨ownsRow_fr k.ai f (row_off k.ai k.rr (by decide)),ownsRow_fr k.bi f (row_off k.bi k.rr (by decide)),ownsRow_fr k.ci f (row_off k.ci k.rr (by decide))⟩,Below.trans k.x (f.below (by have:=k.lo;simp;omega) k.x.size)⟩)
          clear mf
          go_wp2
          refine bodyPost_ret (lst_results _ _ rb s _ _ _ rfl HF.out.1) rfl ?_
          exact⟨⟨_,_,_,rfl,HF.out.2.1⟩,HF.out.2.2⟩
end Go.Proofs.YtcfgafododiioaaGreatDoor
namespace Go.Proofs.YtcfgafododiioaaGreatDoor
open Go.RowKit Go.Tum
theorem rsame64_any (u v:Value) (l m:List UInt64) (w:World) (hb:Vec uv w u l) (hc:Vec uv w v m):
 Calls Tryz.prog 39 #[u,v] w fun e w'=>e= .returned (.bool (l==m))∧Ext w w':=by
 obtain⟨ao,cap,rfl,hle,hm,hnn,hcell⟩:=hb.open
 obtain⟨bo,cbp,rfl,hle2,hm2,hnn2,hcell2⟩:=hc.open
 clear hb hc
 have HC:=hid hcell
 have HC2:=hid hcell2
 clear hcell hcell2
 by_cases hlen:l.length=m.length
 · have hne:((l.length:Int) !=(m.length:Int))=false:=by simp[hlen]
   go_enter Tryz.func39,Tryz.ntmps39
   have HL:=hid hlen
   clear hlen
   go_wp2
   go_loopw [5] (fun i wr=>∃k:Nat,k≤l.length∧i= .int .i64 k∧Hid (l.take k=m.take k)∧∃n,wr=w.drewN n) (fun i _=>l.length - (intOf i).toNat)
   case atStart=>exact⟨0,by omega,rfl,hid rfl,0,rfl⟩
   case round=>
    obtain⟨k,hk,rfl,HE,n,rfl⟩:=hrel
    by_cases hlt:k<l.length
    · obtain⟨a,rfl⟩:=hnn (by omega)
      have hlt2:k<m.length:=by rw[←HL.out];exact hlt
      obtain⟨b,rfl⟩:=hnn2 (by omega)
      have hc1:=HC.out a rfl k hlt
      have hc2:=HC2.out b rfl k hlt2
      have hi1:(k:Int)<l.length:=by omega
      have hi2:(k:Int)<m.length:=by omega
      go_wp2
      by_cases he:l[k]=m[k]
      · have ht:((l[k].toNat:Int) !=(m[k].toNat:Int))=false:=by simp[he]
        go_quiet (fail)
        go_wp2
        go_roundw
        case rel=>exact⟨k+1,by omega,by go_num,hid (by rw[List.take_succ_eq_append_getElem hlt,List.take_succ_eq_append_getElem hlt2,HE.out,he]),_,rfl⟩
        case measure=>simp[intOf];omega
      · have ht:((l[k].toNat:Int) !=(m[k].toNat:Int))=true:=by
         simp;intro e;exact he (UInt64.toNat_inj.1 (by omega))
        go_quiet (fail)
        go_wp2
        go_ret
        refine⟨?_,(Ext.drewN _ _).trans (Ext.drewN _ _)⟩
        have:(l==m)=false:=by
         rw[beq_eq_false_iff_ne];intro e;subst e;exact he rfl
        rw[this];rfl
    · obtain rfl:k=l.length:=by omega
      go_wp2
      go_ret
      refine⟨?_,Ext.drewN _ _⟩
      have:(l==m)=true:=by
       have:=HE.out
       rw[List.take_length,HL.out,List.take_length] at this
       rw[this];simp
      rw[this];rfl
 · have hne:((l.length:Int) !=(m.length:Int))=true:=by simp;omega
   have hf:(l==m)=false:=by rw[beq_eq_false_iff_ne];intro e;exact hlen (by rw[e])
   have HF:=hid hf
   clear hf
   go_enter Tryz.func39,Tryz.ntmps39
   go_wp2
   go_ret
   exact⟨by rw[HF.out];rfl,Ext.refl _⟩
end Go.Proofs.YtcfgafododiioaaGreatDoor
