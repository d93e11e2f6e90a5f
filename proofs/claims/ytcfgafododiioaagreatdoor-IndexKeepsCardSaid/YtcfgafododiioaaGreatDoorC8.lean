/- Texts of a claim, side by side. -/
import Derived.Test.YtcfgafododiioaaGreatDoorC11
import Derived.Test.YtcfgafododiioaaGreatDoorC7
import Derived.Maps.AppendAt
import Derived.RangeFuncBox
set_option linter.unusedSimpArgs false
set_option linter.unusedVariables false
namespace Go.Proofs.YtcfgafododiioaaGreatDoor
open Go Go.RowKit Go.Tum Go.ChangeMaps Go.Tum.Hp
open Go.ParB (upd Lof)
theorem info64:(Tryz.prog.info? 36).map (fun i=>(i.zero,i.size,i.bytes))=some (some (.int .u64 0),1,8):=by kernel_rfl
theorem owv_ne {w:World} {b g n cap j:Nat} {l:List UInt64} {o:Obj} (h:OwV vU w b 36 (.slice (some ⟨g,0,none⟩) n cap) l) (hj:w.heap[j]? =some o) (ho:∀cs,o≠ .cells cs 36 (0,0)):j≠g:=by
 rintro rfl
 rcases h.2 with ⟨e,_⟩|⟨g',cap',cur,hv,hb,hgg,_⟩
 · cases e
 · cases hv
   rw[hgg] at hj
   exact ho _ (Option.some.inj hj).symm
theorem owv_fr {S:List Nat} {w w':World} {b:Nat} {v:Value} {l:List UInt64} (h:OwV vU w b 36 v l) (k:Fr S w w') (hs:∀x∈S,∃o,w.heap[x]? =some o∧∀cs,o≠ .cells cs 36 (0,0)):OwV vU w' b 36 v l:=by
 refine⟨h.1,?_⟩
 rcases h.2 with hn|⟨g,cap,cur,hv,hb,hgg,rest⟩
 · exact .inl hn
 · refine .inr ⟨g,cap,cur,hv,hb,?_,rest⟩
   rw[k.block g (Array.getElem?_eq_some_iff.1 hgg).1 fun hm=> ?_]
   · exact hgg
   · obtain⟨o,h1,h2⟩:=hs g hm
     rw[hgg] at h1
     exact h2 _ (Option.some.inj h1).symm
theorem grown_obj {w w':World} {b j:Nat} {v:Value} {l:List UInt64} {o:Obj} (h:OwV vU w b 36 v l) (hj:w.heap[j]? =some o) (ho:∀cs,o≠ .cells cs 36 (0,0)) (k:w.grownBy w' v.ownBlock):w'.heap[j]? =some o:=by
 refine(k.block j (Array.getElem?_eq_some_iff.1 hj).1 fun e=> ?_).trans hj
 rcases h.2 with ⟨rfl,_⟩|⟨g,cap,cur,rfl,hb,hgg,_⟩
 · simp[Value.ownBlock] at e
 · simp[Value.ownBlock] at e
   subst e
   rw[hgg] at hj
   exact ho _ (Option.some.inj hj).symm
theorem heapO_ne {mt mp:Nat} {v:Value} (cs:Array Value):heapO mt mp v≠ .cells cs 36 (0,0):=by simp
theorem map_ne {es:Array MapEntry} {c:Nat} (cs:Array Value):Obj.map es c≠ .cells cs 36 (0,0):=by simp
structure OnM (w0:World) (mp k:Nat) (Q:World→Prop) (L:Nat→Bool) (w:World):Prop where
 fr:Fr [mp] w0 w
 s0:L k=false→w.heap[mp]? =w0.heap[mp]?
 s1:L k=true→Q w
theorem OnM.other {w0 w:World} {mp k:Nat} {Q:World→Prop} {L:Nat→Bool} (h:OnM w0 mp k Q L w) {o:Nat} (ho:k≠o):OnM w0 mp k Q (upd L o) w:=
 ⟨h.fr,by rw[upd_ne ho];exact h.s0,by rw[upd_ne ho];exact h.s1⟩
theorem OnM.start {w0:World} {mp k:Nat} {Q:World→Prop}:OnM w0 mp k Q (fun _=>false) {w0 with drawn:=w0.drawn+1}:=
 ⟨Ext.fr (Ext.draw w0),fun _=>rfl,fun e=>by simp at e⟩
theorem OnM.done {w0 w w':World} {mp k:Nat} {Q:World→Prop} {L:Nat→Bool} (h:OnM w0 mp k Q L w) (f:Fr [mp] w w') (q:Q w'):OnM w0 mp k Q (upd L k) w':=
 ⟨h.fr.trans f,fun e=>(by rw[upd_eq] at e;cases e),fun _=>q⟩
theorem plF_snoc {row:List UInt64} {x:UInt64} (hx:x∉row) (y:UInt64):setF (plF row) x (row.length:Int) y=plF (row++[x]) y:=by
 unfold setF plF
 by_cases h:y=x
 · subst h
   rw[if_pos rfl,if_pos (by simp),List.idxOf_append,if_neg hx]
   simp
 · rw[if_neg h]
   by_cases hy:y∈row
   · rw[if_pos hy,if_pos (by simp[hy]),List.idxOf_append,if_pos hy]
   · rw[if_neg hy,if_neg (by simp[hy,h])]
theorem rowK_snoc {At:UInt64→Option Int} {row:List UInt64} {x:UInt64} (j:Nat) (h:j<row.length):rowK At row j=rowK At (row++[x]) j:=by
 rw[rowK_at h,rowK_at (by simp;omega),List.getElem_append_left h]
theorem ah_snoc {At:UInt64→Option Int} {row:List UInt64} {x:UInt64} (h:HP (rowK At row) row.length):AH (rowK At (row++[x])) (row.length+1) row.length:=by
 refine⟨fun j j0 jn ji jp=> ?_,fun j j0 jn jp _=> ?_⟩
 · have:=par_lt j0
   rw[←rowK_snoc j (by omega),←rowK_snoc (par j) (by omega)]
   exact h j j0 (by omega)
 · have:=par_lt j0
   omega
def Hb (p mt mp:Nat) (v:Value):List Nat:=p::mt::mp::v.ownBlock.toList
def Turn (w w':World) (p mt mp:Nat) (v v':Value):Prop:=Fr (Hb p mt mp v) w w'∧∀q∈Hb p mt mp v',q∈Hb p mt mp v∨w.heap.size≤q
theorem Fr.then {S T:List Nat} {a b c:World} (h:Fr T a b) (k:Fr S b c) (hs:∀x∈S,x∈T∨a.heap.size≤x):Fr T a c:=
 ⟨k.os.trans h.os,k.tape.trans h.tape,k.output.trans h.output,Nat.le_trans h.size k.size,fun j hj hn=>(k.block j (Nat.lt_of_lt_of_le hj h.size) fun hm=>by
  rcases hs j hm with h1|h1
  · exact hn h1
  · omega).trans (h.block j hj hn)⟩
theorem below_grown {w w':World} {b:Nat} {v:Value} {l:List UInt64} (h:OwV vU w b 36 v l) (hb:b≤w.heap.size) (k:w.grownBy w' v.ownBlock):Below b w w':=by
 refine(Below.refl b w).grown k hb fun j ej=> ?_
 rcases h.2 with ⟨rfl,_⟩|⟨g,cap,cur,rfl,hb,_,_⟩
 · simp[Value.ownBlock] at ej
 · obtain rfl:g=j:=by simpa[Value.ownBlock] using ej
   exact hb
theorem fr_grown {w w':World} {b:Nat} {v:Value} (k:w.grownBy w' v.ownBlock) (e:Below b w w'):Fr v.ownBlock.toList w w':=
 ⟨e.os,e.tape,e.output,e.size,fun j hj hn=>k.block j hj fun h=>hn (by rw[←h];simp)⟩
def TPutP (b:Nat) (w:World) (p mt mp nt:Nat) (At:UInt64→Option Int) (row:List UInt64) (v:Value) (x:UInt64) (e:Ending) (w':World):Prop:=
 (∃u,e= .returned u)∧∃row' v',row'.Perm (row++[x])∧Tr b w' p mt mp nt At row' v'∧HP (rowK At row') (row.length+1)∧Below b w w'∧Turn w w' p mt mp v v'
set_option maxRecDepth 100000 in
set_option maxHeartbeats 1000000 in
theorem tput_any (b:Nat) (w:World) (p mt mp nt:Nat) (At:UInt64→Option Int) (row:List UInt64) (v:Value) (x:UInt64) (h:Tr b w p mt mp nt At row v) (hx:x∉row) (hp:HP (rowK At row) row.length) (hl:row.length≤100000)
 (hb1:b≤p) (hb2:b≤mp) (hbw:b≤w.heap.size):
 Calls Tryz.prog 193 #[.pointer (some ⟨p,1,none⟩),vU x,FV p] w fun e w'=>TPutP b w p mt mp nt At row v x e w':=by
 obtain⟨i0,hi,hz0,hz1,hz2⟩:=info_parts info64
 obtain⟨ao,cap,rfl⟩:=h.ow.shape
 obtain⟨-,a1,a2,-⟩:=lk3 h.hd
 have HC1:=hid a1
 have HC2:=hid a2
 have HT:=hid h
 obtain⟨es0,ck0,hmb⟩:=h.pl.block
 have HMB:=hid hmb
 have hpm:p≠mp:=by
  rintro rfl;have:=h.hd;rw[hmb] at this;cases this
 have HPL:=hid (Array.getElem?_eq_some_iff.1 h.hd).1
 have HX:=hid hx
 have HP0:=hid hp
 clear h a1 a2 hmb hx hp
 go_enter Tryz.func193,Tryz.ntmps193
 go_wp2_with fail
 refine ParC.wp_region_c (l:=[_,_,_,_,_,_,_,_,_,_,_]) rfl (OnM w mp 10 (fun u=>MI .i64 u mp (row.length+1) (setF (plF row) x (row.length:Int)))) (ParC.VC [ParC.EQ (Value.pointer (some ⟨p,1,none⟩)),ParC.EQ (Value.pointer (some ⟨p,1,none⟩)),ParC.EQ (Value.pointer (some ⟨p,2,none⟩)),ParC.EQ (Value.map (some mp)),ParC.EQ (vU x),ParC.EQ (Value.pointer (some ⟨p,1,none⟩)),ParC.EQ (Value.pointer (some ⟨p,1,none⟩)),ParC.EQ (Value.pointer (some ⟨p,1,none⟩)),ParC.EQ (Value.slice ao row.length cap),ParC.EQ (Value.int IntKind.i64 (row.length:Nat)),fun _=>True]) (by kernel_rfl) (by kernel_rfl) (OnM.start) ?_ ?_
 · refine⟨fun L ρ w' hR hL hd hk=> ?_,?_⟩
   · exact Par.val_of_run rfl ⟨hR.other (by decide),hk.1⟩
   refine⟨fun L ρ w' hR hL hd hk=> ?_,?_⟩
   · obtain⟨(e0:ρ (.tmp 6)=Value.pointer (some ⟨p,1,none⟩)),-⟩:=hk;refine Par.val_k fun K hK=> ?_;unfold Par.val
     (go_simp;exact hK _ _ ⟨hR.other (by decide),rfl⟩)
   refine⟨fun _ _ _ hR _ _ hk=>Par.pv [(7,Value.pointer (some ⟨p,1,none⟩))] hk (by kernel_rfl) ⟨hR.other (by decide),rfl⟩,?_⟩
   refine⟨fun L ρ w' hR hL hd hk=> ?_,?_⟩
   · obtain⟨(e0:ρ (.tmp 8)=Value.pointer (some ⟨p,2,none⟩)),-⟩:=hk;refine Par.val_k fun K hK=> ?_;unfold Par.val
     (have c:=(hR.fr.cell (by simpa using hpm) HPL.out).trans HC2.out;go_simp;exact hK _ _ ⟨hR.other (by decide),rfl⟩)
   refine⟨fun L ρ w' hR hL hd hk=> ?_,?_⟩
   · exact Par.val_of_run rfl ⟨hR.other (by decide),hk.1⟩
   refine⟨fun L ρ w' hR hL hd hk=> ?_,?_⟩
   · exact Par.val_of_run rfl ⟨hR.other (by decide),hk.1⟩
   refine⟨fun L ρ w' hR hL hd hk=> ?_,?_⟩
   · obtain⟨(e0:ρ (.tmp 11)=Value.pointer (some ⟨p,1,none⟩)),-⟩:=hk;refine Par.val_k fun K hK=> ?_;unfold Par.val
     (go_simp;exact hK _ _ ⟨hR.other (by decide),rfl⟩)
   refine⟨fun _ _ _ hR _ _ hk=>Par.pv [(12,Value.pointer (some ⟨p,1,none⟩))] hk (by kernel_rfl) ⟨hR.other (by decide),rfl⟩,?_⟩
   refine⟨fun L ρ w' hR hL hd hk=> ?_,?_⟩
   · obtain⟨(e0:ρ (.tmp 13)=Value.pointer (some ⟨p,1,none⟩)),-⟩:=hk;refine Par.val_k fun K hK=> ?_;unfold Par.val
     (have c:=(hR.fr.cell (by simpa using hpm) HPL.out).trans HC1.out;go_simp;exact hK _ _ ⟨hR.other (by decide),rfl⟩)
   refine⟨fun L ρ w' hR hL hd hk=> ?_,?_⟩
   · obtain⟨(e0:ρ (.tmp 14)=Value.slice ao row.length cap),-⟩:=hk;refine Par.val_k fun K hK=> ?_;unfold Par.val
     (go_simp;exact hK _ _ ⟨hR.other (by decide),rfl⟩)
   refine⟨fun L ρ w' hR hL hd hk=> ?_,?_⟩
   · obtain⟨(e0:ρ (.tmp 9)=Value.map (some mp)),(e1:ρ (.tmp 10)=vU x),(e2:ρ (.tmp 15)=Value.int IntKind.i64 (row.length:Nat)),-⟩:=hk;refine Par.val_k fun K hK=> ?_;unfold Par.val
     (obtain⟨u,r1,r2,r3⟩:=(HT.out.pl.fr0 (hR.s0 hL)).store Tryz.underlying224 (by omega) x (row.length:Int);have hnx:(plF row x).isSome=false:=(by unfold plF;rw[if_neg HX.out];rfl);rw[hnx] at r2;go_simp;exact hK _ _ ⟨hR.done (fr_turned r3 (by simp)) r2,trivial⟩)
   trivial
 intro a' w' inv hR
 have hq:=Par.donesC inv;simp only[Par.donesV,ParC.EQ,true_and,and_true] at hq
 clear inv
 simp only[List.filterMap_cons,List.filterMap_nil,Par.putAll,Act.put,List.setIfInBounds_toArray,List.set_cons_succ,List.set_cons_zero,hq]
 clear hq
 clear a'
 obtain⟨W1,hW⟩:∃W1,W1=w':=⟨_,rfl⟩
 subst hW
 have HF1:=hid hR.fr
 have HM1:=hid (hR.s1 rfl)
 have HO1:=hid (owv_fr HT.out.ow HF1.out (by
  intro q hq
  obtain rfl:q=mp:=by simpa using hq
  exact⟨_,HMB.out,map_ne⟩))
 have hp1:=(HF1.out.block p HPL.out (by simpa using hpm)).trans HT.out.hd
 have ht1:=HT.out.ti.fr HF1.out (by simpa using HT.out.ne)
 have HP1:=hid hp1
 have HT1:=hid ht1
 have c1:=(lk3 hp1).2.1
 have hsz:=HF1.out.size
 have HE1:Hid (Below b w W1):=hid (HF1.out.below (by simpa using hb2) hbw)
 clear hR hp1 ht1
 have c2:∀o:Obj,(W1.alloc o).cell? ⟨p,1,none⟩=some (.slice ao row.length cap):=fun o=>(Ext.alloc W1 o).cell c1
 go_wp2_with (at_builtin;refine wpList_append_own_at _ rfl (.tmp 20) (.tmp 22) 47 rfl b 36 i0 (.int .u64 0) 1 8 Tryz.underlying47 hi hz0 hz1 hz2 rfl (by decide) (.slice ao row.length cap) row.length (row.map vU) rfl (HO1.out.ext (Ext.alloc _ _)) ⟨W1.heap.size,0,none⟩ 1 1 [vU x] rfl rfl (cell_one_new _ _ _) (by simp[Value.oneCell']) (by simp[maxLen];omega) (by omega) (by simp;omega) ?_;intro v3 w3 hO3 hg3 _ hat3;obtain⟨g,cap3,rfl⟩:=Go.ownsRow_succ hO3;have hp3:=grown_obj (HO1.out.ext (Ext.alloc _ _)) ((Ext.alloc W1 (.cells #[vU x] 36)).obj HP1.out) heapO_ne hg3;have HP3:=hid hp3;have HO3:Hid (OwV vU w3 b 36 (.slice (some ⟨g,0,none⟩) (row.length+1) cap3) (row++[x])):=hid (by unfold OwV;simpa using hO3);have HG3:=hid hg3;have HB3:=hid (below_grown (HO1.out.ext (Ext.alloc _ _)) (by simp;omega) hg3);have HAT:=hid hat3;have c3:=(lk3 hp3).2.1;have f3:=(lk3 hp3).2.2.2.2.1;clear hp3 hO3 hg3 hat3)
 have hpg:=owv_ne HO3.out HP3.out heapO_ne
 have hp4:(w3.setCell ⟨p,1,none⟩ (.slice (some ⟨g,0,none⟩) (row.length+1) cap3)).heap[p]? =some (heapO mt mp (.slice (some ⟨g,0,none⟩) (row.length+1) cap3)):=by
  simpa using Go.Joins.block_setCell (i:=1) HP3.out (.slice (some ⟨g,0,none⟩) (row.length+1) cap3)
 have hO4:=HO3.out.setOther ⟨p,1,none⟩ (.slice (some ⟨g,0,none⟩) (row.length+1) cap3) hpg
 obtain⟨es1,ck1,htb⟩:=HT1.out.block
 obtain⟨es2,ck2,hmb1⟩:=HM1.out.block
 have hA1:=Ext.alloc W1 (.cells #[vU x] 36)
 have ht3:w3.heap[mt]? =W1.heap[mt]? :=(grown_obj (HO1.out.ext hA1) (hA1.obj htb) map_ne HG3.out).trans htb.symm
 have hm3:w3.heap[mp]? =W1.heap[mp]? :=(grown_obj (HO1.out.ext hA1) (hA1.obj hmb1) map_ne HG3.out).trans hmb1.symm
 have hpt:p≠mt:=by
  rintro rfl;rw[HP1.out] at htb;cases htb
 have hT4:Tr b (w3.setCell ⟨p,1,none⟩ (.slice (some ⟨g,0,none⟩) (row.length+1) cap3)) p mt mp nt At (row++[x]) (.slice (some ⟨g,0,none⟩) (row.length+1) cap3):=by
  refine⟨hp4,HT1.out.fr0 ((heap_setCell_other _ _ _ _ (Ne.symm hpt)).trans ht3),?_,by simpa using hO4,?_,HT.out.ne⟩
  · have:=(HM1.out.fr0 ((heap_setCell_other _ _ _ _ (Ne.symm hpm)).trans hm3):MI .i64 (w3.setCell ⟨p,1,none⟩ (.slice (some ⟨g,0,none⟩) (row.length+1) cap3)) mp (row.length+1) _)
    rw[List.length_append]
    exact this.congr fun y=>plF_snoc HX.out y
  · rw[List.nodup_append]
    exact⟨HT.out.nd,by simp,fun a ha c hc e=>HX.out (by simp at hc;rw[←hc,←e];exact ha)⟩
 have HE4:Hid (Below b w (w3.setCell ⟨p,1,none⟩ (.slice (some ⟨g,0,none⟩) (row.length+1) cap3))):=hid (((HE1.out.trans (Below.mono hA1 (by omega))).trans HB3.out).setCell (by dsimp only;omega) _)
 have hgb:=HO3.out.block
 have HFA:Hid (Fr (Hb p mt mp (.slice ao row.length cap)) w (w3.setCell ⟨p,1,none⟩ (.slice (some ⟨g,0,none⟩) (row.length+1) cap3))):=hid (by
  refine Fr.trans (Fr.trans (Fr.trans (HF1.out.mono ?_) (Ext.fr (Ext.alloc W1 (.cells #[vU x] 36)))) ((fr_grown HG3.out HB3.out).mono ?_)) (fr_setCell _ _ _ (by simp[Hb]))
  · intro q hq
    obtain rfl:q=mp:=by simpa using hq
    simp[Hb]
  · intro q hq
    unfold Hb
    simp only[List.mem_cons]
    exact .inr (.inr (.inr hq)))
 have HGN:Hid (g∈Hb p mt mp (.slice ao row.length cap)∨w.heap.size≤g):=hid (by
  rcases HAT.out with h|h
  · left
    unfold Hb
    rw[←h]
    simp[Value.ownBlock]
  · right
    simp[Value.ownBlock] at h
    omega)
 have hle4:=HE4.out.size
 generalize w3.setCell ⟨p,1,none⟩ (.slice (some ⟨g,0,none⟩) (row.length+1) cap3)=W4 at*
 refine(settle_any b W4 p mt mp nt At (row++[x]) g (row.length+1) cap3 row.length x hT4 (by simp) (by simp) (by simp;omega) (ah_snoc HP0.out)).mono ?_
 rintro e w5 ⟨⟨u,rfl⟩,row',hpm',hT5,hH5,hF5⟩
 have HT5:=hid hT5
 have HH5:=hid hH5
 have HE5:Hid (Below b w w5):=hid (HE4.out.trans (hF5.below (by simp;omega) (by omega)))
 have HTN:Hid (Turn w w5 p mt mp (.slice ao row.length cap) (.slice (some ⟨g,0,none⟩) (row.length+1) cap3)):=hid (by
  refine⟨HFA.out.then hF5 ?_,?_⟩
  · intro q hq
    simp at hq
    rcases hq with rfl|rfl
    · exact HGN.out
    · exact .inl (by simp[Hb])
  · intro q hq
    simp[Hb,Value.ownBlock] at hq
    rcases hq with rfl|rfl|rfl|rfl
    · exact .inl (by simp[Hb])
    · exact .inl (by simp[Hb])
    · exact .inl (by simp[Hb])
    · exact HGN.out)
 clear hT5 hH5 hF5
 go_wp2
 go_returns
 exact⟨⟨_,rfl⟩,row',_,hpm',HT5.out,HH5.out,HE5.out,HTN.out⟩
end Go.Proofs.YtcfgafododiioaaGreatDoor
namespace Go.Proofs.YtcfgafododiioaaGreatDoor
open Go Go.RowKit Go.Tum Go.ChangeMaps Go.Tum.Hp
theorem owv_take {f:UInt64→Value} {w:World} {b e g n cap:Nat} {l:List UInt64} (h:OwV f w b e (.slice (some ⟨g,0,none⟩) n cap) l) (k:Nat) (hk:k≤l.length):OwV f w b e (.slice (some ⟨g,0,none⟩) k cap) (l.take k):=by
 have hn:=h.len
 subst hn
 have hl:(l.take k).length=k:=by simp;omega
 unfold OwV
 rw[hl]
 refine⟨by rw[List.length_map,hl];omega,?_⟩
 rcases h.2 with ⟨e1,_⟩|⟨g',cap',cur,hv,hb,hgg,h1,h2,h3,h4⟩
 · cases e1
 · cases hv
   refine .inr ⟨g,cap,cur,rfl,hb,hgg,by omega,h2,h3,?_⟩
   rw[List.map_take,←h4,List.take_take]
   congr 1
   omega
def cutL (row:List UInt64) (i:Nat) (hi:i<row.length):List UInt64:=(swapL row i (row.length - 1) hi (by omega)).take (row.length - 1)
theorem cut_len {row:List UInt64} {i:Nat} (hi:i<row.length):(cutL row i hi).length=row.length - 1:=by unfold cutL;simp[swap_len]
theorem cut_split {row:List UInt64} {i:Nat} (hi:i<row.length):swapL row i (row.length - 1) hi (by omega)=cutL row i hi++[row[i]]:=by
 have h:=List.take_append_drop (row.length - 1) (swapL row i (row.length - 1) hi (by omega))
 have h2:(swapL row i (row.length - 1) hi (by omega)).drop (row.length - 1)=[row[i]]:=by
  rw[List.drop_eq_getElem_cons (by rw[swap_len];omega),swap_j hi (by omega),List.drop_eq_nil_of_le (by rw[swap_len];omega)]
 rw[h2] at h
 exact h.symm
theorem cut_perm {row:List UInt64} {i:Nat} (hi:i<row.length):(row[i]::cutL row i hi).Perm row:=by
 refine List.Perm.trans ?_ (swap_perm hi (by omega:row.length - 1<row.length))
 rw[cut_split hi]
 exact(List.perm_append_singleton _ _).symm
theorem cut_at {row:List UInt64} {i k:Nat} (hi:i<row.length) (hk:k<row.length - 1):(cutL row i hi)[k]'(by rw[cut_len];exact hk)=if k=i then row[row.length - 1] else row[k]:=by
 unfold cutL
 rw[List.getElem_take]
 split
 · rename_i e;subst e;exact swap_i hi (by omega)
 · rename_i e;exact swap_k hi (by omega) (by omega) e (by omega)
theorem plF_cut {row:List UInt64} {i:Nat} (hi:i<row.length) (h:row.Nodup) (y:UInt64):delF (plF (swapL row i (row.length - 1) hi (by omega))) row[i] y=plF (cutL row i hi) y:=by
 have hn:=swap_nd hi (by omega:row.length - 1<row.length) h
 have hsp:=cut_split hi
 have hni:row[i]∉cutL row i hi:=by
  rw[hsp,List.nodup_append] at hn
  intro hm
  exact hn.2.2 _ hm _ (by simp) rfl
 unfold delF
 by_cases hy:y=row[i]
 · rw[if_pos hy];unfold plF;rw[if_neg (by rw[hy];exact hni)]
 · rw[if_neg hy,hsp]
   have:=plF_snoc hni y
   rw[←this]
   unfold setF
   rw[if_neg hy]
theorem rowK_cut {At:UInt64→Option Int} {row:List UInt64} {i k:Nat} (hi:i<row.length) (hk:k<row.length - 1) (hne:k≠i):rowK At (cutL row i hi) k=rowK At row k:=by
 rw[rowK_at (by rw[cut_len];exact hk),rowK_at (by omega),cut_at hi hk,if_neg hne]
theorem ah_cut {At:UInt64→Option Int} {row:List UInt64} {i:Nat} (hi:i<row.length) (h:HP (rowK At row) row.length):AH (rowK At (cutL row i hi)) (row.length - 1) i:=by
 refine⟨fun j j0 jn ji jp=> ?_,fun j j0 jn jp i0=> ?_⟩
 · have:=par_lt j0
   rw[rowK_cut hi jn ji,rowK_cut hi (by omega) jp]
   exact h j j0 (by omega)
 · have:=par_lt j0
   have:=par_lt i0
   rw[rowK_cut hi jn (by omega),rowK_cut hi (by omega) (by omega)]
   have h1:=h j j0 (by omega)
   have h2:=h i i0 (by omega)
   rw[jp] at h1
   omega
theorem hp_cut {At:UInt64→Option Int} {row:List UInt64} {i:Nat} (hi:i<row.length) (hl:¬i<row.length - 1) (h:HP (rowK At row) row.length):HP (rowK At (cutL row i hi)) (row.length - 1):=by
 intro j j0 jn
 have:=par_lt j0
 rw[rowK_cut hi jn (by omega),rowK_cut hi (by omega) (by omega)]
 exact h j j0 (by omega)
theorem sub_hb {p mt mp g n cap:Nat}:∀q∈[g,mp],q∈Hb p mt mp (.slice (some ⟨g,0,none⟩) n cap):=by
 intro q hq
 simp at hq
 rcases hq with rfl|rfl<;>simp[Hb,Value.ownBlock]
theorem turn_same {w w':World} {p mt mp g n cap n2:Nat} (h:Fr (Hb p mt mp (.slice (some ⟨g,0,none⟩) n cap)) w w'):Turn w w' p mt mp (.slice (some ⟨g,0,none⟩) n cap) (.slice (some ⟨g,0,none⟩) n2 cap):=⟨h,fun q hq=> .inl hq⟩
def TDropP (b:Nat) (w:World) (p mt mp nt:Nat) (At:UInt64→Option Int) (row:List UInt64) (v:Value) (x:UInt64) (e:Ending) (w':World):Prop:=
 (∃u,e= .returned u)∧∃row' v',(x::row').Perm row∧Tr b w' p mt mp nt At row' v'∧HP (rowK At row') (row.length - 1)∧Below b w w'∧Turn w w' p mt mp v v'
set_option maxRecDepth 100000 in
set_option maxHeartbeats 1000000 in
theorem tdrop_any (b:Nat) (w:World) (p mt mp nt:Nat) (At:UInt64→Option Int) (row:List UInt64) (v:Value) (i:Nat) (x:UInt64) (h:Tr b w p mt mp nt At row v) (hi:i<row.length) (hx:row[i]=x) (hp:HP (rowK At row) row.length) (hl:row.length≤100000)
 (hb1:b≤p) (hb2:b≤mp) (hbw:b≤w.heap.size):
 Calls Tryz.prog 172 #[.pointer (some ⟨p,1,none⟩),vU x,FV p] w fun e w'=>TDropP b w p mt mp nt At row v x e w':=by
 obtain⟨ao,cap,rfl⟩:=h.ow.shape
 obtain⟨g,hg⟩:=h.ow.addr (by omega)
 subst hg
 obtain⟨-,a1,a2,-⟩:=lk3 h.hd
 have hlk:∀j,(Instr.lookup 224 (.map (some mp)) (vU x) false).run Tryz.prog (w.drewN j)= .ok (.int .i64 (i:Int)) (w.drewN j):=by
  intro j
  have:=(h.pl.drewN j).look Tryz.underlying224 (Tryz.zeroValue3 _) x
  rw[plF_at h.nd hi hx] at this
  exact this
 have HT:=hid h
 have HX:=hid hx
 have HP0:=hid hp
 have hne0:(row.length:Int) - 1=((row.length - 1:Nat):Int):=by omega
 have HN:=hid hne0
 clear h hx hp hne0
 go_enter Tryz.func172,Tryz.ntmps172
 go_wp2_with fail
 go_quiet (fail)
 clear hlk a1 a2
 go_wp2_with fail
 rw[HN.out]
 have hMl:row.length - 1<row.length:=by omega
 refine(swap_any b (w.drewN nq) p mt mp nt At row g row.length cap i (row.length - 1) (HT.out.ext (Ext.drewN w nq)) hi hMl (by omega)).mono ?_
 rintro e w5 ⟨⟨u,rfl⟩,T5,F5⟩
 have HT5:=hid T5
 have hgb:=HT.out.ow.block
 have HE5:Hid (Below b w w5):=hid ((Below.mono (Ext.drewN w nq) hbw).trans (F5.below (by simp;omega) (by simpa using hbw)))
 have hcap:=HT5.out.ow.vec.opens.2.1
 obtain⟨-,c1,c2,-,f1,-⟩:=lk3 T5.hd
 have HL:=hid (cut_len hi)
 have HPM:=hid (cut_perm hi)
 have HPF:=hid (plF_cut hi HT.out.nd)
 have HOC:Hid (OwV vU w5 b 36 (.slice (some ⟨g,0,none⟩) (row.length - 1) cap) (cutL row i hi)):=hid (owv_take T5.ow (row.length - 1) (by rw[swap_len];omega))
 have HAC:=hid (ah_cut (At:=At) hi HP0.out)
 have HHC:=hid (fun hn=>hp_cut (At:=At) hi hn HP0.out)
 have HCT:=hid (fun k hk=>cut_at (k:=k) hi hk)
 have HND:=hid (swap_nd hi hMl HT.out.nd)
 have HSP:=hid (cut_split hi)
 rw[HX.out] at HPM HPF HSP
 have HFA:Hid (Fr (Hb p mt mp (.slice (some ⟨g,0,none⟩) row.length cap)) w w5):=hid ((Ext.fr (Ext.drewN w nq)).trans (F5.mono sub_hb))
 clear T5 F5
 obtain⟨M,hM⟩:∃M,row.length - 1=M:=⟨_,rfl⟩
 have hMr:M<row.length:=by omega
 have hMc:M≤cap:=by omega
 have hMI:(M:Int)≤cap:=by omega
 rw[hM]
 have HMM:=hid hM
 clear hM
 obtain⟨W6,hW6⟩:∃W6,W6=w5.setCell ⟨p,1,none⟩ (.slice (some ⟨g,0,none⟩) M cap):=⟨_,rfl⟩
 have hp6:W6.heap[p]? =some (heapO mt mp (.slice (some ⟨g,0,none⟩) M cap)):=by
  rw[hW6]
  simpa using Go.Joins.block_setCell (i:=1) HT5.out.hd (.slice (some ⟨g,0,none⟩) M cap)
 obtain⟨g1,g2,g3,g4,g5⟩:=HT5.out.gne
 have ho6:∀j,j≠p→W6.heap[j]? =w5.heap[j]? :=fun j hj=>by rw[hW6];exact heap_setCell_other _ _ _ _ hj
 have hm6:MI .i64 W6 mp (M+1) (plF (swapL row i (row.length - 1) hi hMl)):=by
  have hlen:(swapL row i (row.length - 1) hi hMl).length=M+1:=by rw[swap_len];have:=HMM.out;omega
  rw[←hlen]
  exact HT5.out.pl.fr0 (ho6 mp (Ne.symm g4))
 have hsome:(plF (swapL row i (row.length - 1) hi hMl) x).isSome=true:=by
  rw[plF_at HND.out (by rw[swap_len];exact hMl) ((swap_j hi hMl).trans HX.out)];rfl
 obtain⟨w7,r1,r2,r3⟩:=hm6.del Tryz.underlying224 hsome 0
 have hf7:=fr_turned (S:=[mp]) r3 (by simp)
 have hT7:Tr b w7 p mt mp nt At (cutL row i hi) (.slice (some ⟨g,0,none⟩) M cap):=by
  have hlc:(cutL row i hi).length=M:=by rw[HL.out,HMM.out]
  refine⟨(hf7.block p (Array.getElem?_eq_some_iff.1 hp6).1 (by simpa using g4)).trans hp6,(HT5.out.ti.fr0 (ho6 mt (Ne.symm g5))).fr hf7 (by simpa using HT5.out.ne),?_,?_,?_,HT5.out.ne⟩
  · rw[hlc];exact r2.congr HPF.out
  · have h1:=HOC.out
    rw[HMM.out] at h1
    have h2:OwV vU W6 b 36 (.slice (some ⟨g,0,none⟩) M cap) (cutL row i hi):=owv_at h1 (ho6 g (Ne.symm g1))
    refine owv_fr h2 hf7 fun q hq=> ?_
    obtain rfl:q=mp:=by simpa using hq
    obtain⟨es,ck,hmb⟩:=hm6.block
    exact⟨_,hmb,map_ne⟩
  · have:=HND.out
    rw[HSP.out,List.nodup_append] at this
    exact this.1
 have HE6:Hid (Below b w W6):=hid (by rw[hW6];exact HE5.out.setCell (by dsimp only;omega) _)
 have HE7:Hid (Below b w w7):=hid (HE6.out.trans (hf7.below (by simpa using hb2) (Nat.le_trans hbw HE6.out.size)))
 have HF7:Hid (Fr (Hb p mt mp (.slice (some ⟨g,0,none⟩) row.length cap)) w w7):=hid ((HFA.out.trans (by rw[hW6];exact fr_setCell _ _ _ (by simp[Hb]))).trans (hf7.mono (by intro q hq;obtain rfl:q=mp:=(by simpa using hq);simp[Hb])))
 rw[hW6] at r1
 have HT7:=hid hT7
 obtain⟨-,d1,-⟩:=lk3 hT7.hd
 clear hT7 hf7 r2 r3 hsome hm6 ho6 g1 g2 g3 g4 g5 hp6 hW6
 by_cases him:i<M
 · have hdi:decide ((i:Int)<M)=true:=by simp;omega
   have hci:=HCT.out i (by rw[HMM.out];exact him)
   have hyc:=HT7.out.ow.cell i (by rw[HL.out,HMM.out];exact him)
   obtain⟨y,hy⟩:∃y,(cutL row i hi)[i]'(by rw[HL.out,HMM.out];exact him)=y:=⟨_,rfl⟩
   rw[hy] at hyc
   have HY:=hid hy
   clear hci hy
   go_wp2_with fail
   refine(settle_any b w7 p mt mp nt At (cutL row i hi) g M cap i y HT7.out (by rw[HL.out,HMM.out];exact him) HY.out (by rw[HL.out];omega) (by have:=HAC.out;rw[HMM.out] at this;exact this)).mono ?_
   rintro e w8 ⟨⟨u2,rfl⟩,row',hpr,hT8,hH8,hF8⟩
   have HT8:=hid hT8
   have HH8:=hid hH8
   have HE8:Hid (Below b w w8):=hid (HE7.out.trans (hF8.below (by simp;omega) (Nat.le_trans hbw HE7.out.size)))
   have HPR:Hid ((x::row').Perm row):=hid ((hpr.cons x).trans HPM.out)
   have HTN:=hid (turn_same (n2:=M) (HF7.out.trans (hF8.mono sub_hb)))
   clear hT8 hH8 hF8 hpr
   go_wp2
   go_returns
   exact⟨⟨_,rfl⟩,row',_,HPR.out,HT8.out,by rw[HMM.out];exact HH8.out,HE8.out,HTN.out⟩
 · have hdi:decide ((i:Int)<M)=false:=by simp;omega
   have HHF:Hid (HP (rowK At (cutL row i hi)) (row.length - 1)):=hid (HHC.out (by rw[HMM.out];exact him))
   go_wp2
   go_returns
   exact⟨⟨_,rfl⟩,cutL row i hi,_,HPM.out,HT7.out,HHF.out,HE7.out,turn_same HF7.out⟩
end Go.Proofs.YtcfgafododiioaaGreatDoor
namespace Go.Proofs.YtcfgafododiioaaGreatDoor
open Go Go.RowKit Go.Tum Go.ChangeMaps Go.Tum.Hp
structure HB (B:Nat) (w:World) (p mt mp:Nat) (At:UInt64→Option Int) (row:List UInt64) (v:Value):Prop where
 tr:Tr B w p mt mp row.length At row v
 has:∀x,(At x).isSome=decide (x∈row)
 hp:HP (rowK At row) row.length
 bp:B≤p
 bt:B≤mt
 bm:B≤mp
theorem HB.ext {B:Nat} {w w':World} {p mt mp:Nat} {At:UInt64→Option Int} {row:List UInt64} {v:Value} (h:HB B w p mt mp At row v) (k:Ext w w'):HB B w' p mt mp At row v:=⟨h.tr.ext k,h.has,h.hp,h.bp,h.bt,h.bm⟩
theorem turn_first {w w1 w2:World} {p mt mp q:Nat} {v v':Value} (hq:q∈Hb p mt mp v) (f:Fr [q] w w1) (t:Turn w1 w2 p mt mp v v'):Turn w w2 p mt mp v v':=by
 refine⟨(f.mono (by intro x hx;obtain rfl:x=q:=(by simpa using hx);exact hq)).trans t.1,fun x hx=> ?_⟩
 rcases t.2 x hx with h|h
 · exact .inl h
 · have:=f.size;exact .inr (by omega)
theorem turn_last {w w1 w2:World} {p mt mp q:Nat} {v v':Value} (hq:q∈Hb p mt mp v) (t:Turn w w1 p mt mp v v') (f:Fr [q] w1 w2):Turn w w2 p mt mp v v':=
 ⟨t.1.trans (f.mono (by intro x hx;obtain rfl:x=q:=(by simpa using hx);exact hq)),t.2⟩
theorem turn_ext {w w1 w2:World} {p mt mp:Nat} {v v':Value} (e:Ext w w1) (t:Turn w1 w2 p mt mp v v'):Turn w w2 p mt mp v v':=by
 refine⟨(Ext.fr e).trans t.1,fun x hx=> ?_⟩
 rcases t.2 x hx with h|h
 · exact .inl h
 · have:=e.size;exact .inr (by omega)
theorem key_set {At:UInt64→Option Int} {x y:UInt64} {a:Int} (h:y≠x):keyI (setF At x a) y=keyI At y:=by unfold keyI tim setF;rw[if_neg h]
theorem key_del {At:UInt64→Option Int} {x y:UInt64} (h:y≠x):keyI (delF At x) y=keyI At y:=by unfold keyI tim delF;rw[if_neg h]
theorem rowK_set {At:UInt64→Option Int} {row:List UInt64} {x:UInt64} {a:Int} (hx:x∉row):∀j,j<row.length→rowK At row j=rowK (setF At x a) row j:=by
 intro j hj
 rw[rowK_at hj,rowK_at hj,key_set fun e=>hx (by rw[←e];exact List.getElem_mem hj)]
theorem rowK_del {At:UInt64→Option Int} {row:List UInt64} {x:UInt64} (hx:x∉row):∀j,j<row.length→rowK At row j=rowK (delF At x) row j:=by
 intro j hj
 rw[rowK_at hj,rowK_at hj,key_del fun e=>hx (by rw[←e];exact List.getElem_mem hj)]
theorem hnew_any (w:World) (B:Nat) (hB:B≤w.heap.size):Calls Tryz.prog 123 #[] w fun e w'=>∃p mt mp,e= .returned (pv p)∧HB B w' p mt mp (fun _=>none) [] (.slice none 0 0)∧Ext w w':=by
 have hmm:= @run_makeMap Tryz.prog
 go_enter Tryz.func123,Tryz.ntmps123
 go_wp2
 go_ret
 have e1:Ext w (w.alloc (.map #[] 0)):=Ext.alloc _ _
 refine⟨w.heap.size+1+1,w.heap.size,w.heap.size+1,rfl,⟨⟨?_,?_,?_,OwV.nil _ _ _,by simp,by omega⟩,by simp,fun j _ h=>absurd h (by simp),by omega,by omega,by omega⟩,((Ext.alloc _ _).trans (Ext.alloc _ _)).trans (Ext.alloc _ _)⟩
 · have:=heap_alloc_new ((w.alloc (.map #[] 0)).alloc (.map #[] 0)) (heapO w.heap.size (w.heap.size+1) (.slice none 0 0))
   rw[World.size_alloc,World.size_alloc] at this
   exact this
 · exact((MI.made .u64 w).fr (S:=[]) (Ext.fr (Ext.alloc _ _)) (by simp)).fr (S:=[]) (Ext.fr (Ext.alloc _ _)) (by simp)
 · have:=(MI.made .i64 (w.alloc (.map #[] 0))).fr (S:=[]) (Ext.fr (Ext.alloc _ (heapO w.heap.size (w.heap.size+1) (.slice none 0 0)))) (by simp)
   rw[World.size_alloc] at this
   exact this.congr fun x=>by simp[plF]
theorem hlen_any (B:Nat) (w:World) (p mt mp:Nat) (At:UInt64→Option Int) (row:List UInt64) (v:Value) (h:HB B w p mt mp At row v):
 Calls Tryz.prog 171 #[pv p] w fun e w'=>e= .returned (.int .i64 (row.length:Nat))∧w=w':=by
 obtain⟨c0,-⟩:=lk3 h.tr.hd
 have hlk:=h.tr.ti.len Tryz.underlying133
 clear h
 go_enter Tryz.func171,Tryz.ntmps171
 go_wp2
 go_ret
 exact⟨rfl,rfl⟩
def HPutP (B:Nat) (w:World) (p mt mp:Nat) (At:UInt64→Option Int) (row:List UInt64) (v:Value) (x:UInt64) (a:Int) (e:Ending) (w':World):Prop:=
 (x∈row→e= .returned (.bool false)∧w=w')∧(x∉row→e= .returned (.bool true)∧∃row' v',row'.Perm (row++[x])∧HB B w' p mt mp (setF At x a) row' v'∧Below B w w'∧Turn w w' p mt mp v v')
set_option maxHeartbeats 1000000 in
theorem hput_any (B:Nat) (w:World) (p mt mp:Nat) (At:UInt64→Option Int) (row:List UInt64) (v:Value) (x a:UInt64) (h:HB B w p mt mp At row v) (hl:row.length≤10000) (hB:B≤w.heap.size):
 Calls Tryz.prog 167 #[pv p,vU x,vU a] w fun e w'=>HPutP B w p mt mp At row v x (a.toNat:Int) e w':=by
 obtain⟨c0,-⟩:=lk3 h.tr.hd
 have hlk:=h.tr.ti.look_ok Tryz.underlying133 (Tryz.zeroValue36 _) x
 have hhas:=h.has x
 by_cases hx:x∈row
 · rw[hhas,show decide (x∈row)=true by simpa using hx] at hlk
   generalize (At x).getD 0=t at*
   have HX:=hid hx
   clear h hhas hx
   go_enter Tryz.func167,Tryz.ntmps167
   go_wp2
   go_ret
   exact⟨fun _=>⟨rfl,rfl⟩,fun hn=>absurd HX.out hn⟩
 · rw[hhas,show decide (x∈row)=false by simpa using hx] at hlk
   generalize (At x).getD 0=t at*
   obtain⟨w1,r1,r2,r3⟩:=h.tr.ti.store Tryz.underlying133 (by omega) x (a.toNat:Int)
   rw[hhas,show decide (x∈row)=false by simpa using hx] at r2
   have hf1:=fr_turned (S:=[mt]) r3 (by simp)
   obtain⟨est,ckt,htb⟩:=h.tr.ti.block
   have hpt:p≠mt:=by
    rintro rfl;rw[h.tr.hd] at htb;cases htb
   have hp1:=(hf1.block p (Array.getElem?_eq_some_iff.1 h.tr.hd).1 (by simpa using hpt)).trans h.tr.hd
   have hT1:Tr B w1 p mt mp (row.length+1) (setF At x (a.toNat:Int)) row v:=⟨hp1,r2,h.tr.pl.fr hf1 (by simpa using Ne.symm h.tr.ne),owv_fr h.tr.ow hf1 (by
    intro q hq
    obtain rfl:q=mt:=by simpa using hq
    exact⟨_,htb,map_ne⟩),h.tr.nd,h.tr.ne⟩
   have HT1:=hid hT1
   have HE1:Hid (Below B w w1):=hid (hf1.below (by simpa using h.bt) hB)
   have HX:=hid hx
   have H:=hid h
   obtain⟨d0,-⟩:=lk3 hp1
   have HFT:=hid hf1
   clear hf1 htb hpt hp1 hT1 r2 r3 hhas hx h
   go_enter Tryz.func167,Tryz.ntmps167
   go_wp2_with fail
   refine(tput_any B w1 p mt mp (row.length+1) (setF At x (a.toNat:Int)) row v x HT1.out HX.out (H.out.hp.congr (rowK_set HX.out)) (by omega) H.out.bp H.out.bm (Nat.le_trans hB HE1.out.size)).mono ?_
   rintro e w2 ⟨⟨u,rfl⟩,row',v',hpm,hT2,hH2,hE2,hN2⟩
   have hlen:row'.length=row.length+1:=by rw[hpm.length_eq];simp
   have HH:Hid (HB B w2 p mt mp (setF At x (a.toNat:Int)) row' v'):=hid (by
    refine⟨by rw[hlen];exact hT2,fun y=> ?_,by rw[hlen];exact hH2,H.out.bp,H.out.bt,H.out.bm⟩
    unfold setF
    have hmem:y∈row'↔y∈row∨y=x:=by rw[hpm.mem_iff];simp
    by_cases hy:y=x
    · subst hy;rw[if_pos rfl];simp[hmem]
    · rw[if_neg hy,H.out.has y];simp[hmem,hy])
   have HE2:Hid (Below B w w2):=hid (HE1.out.trans hE2)
   have HTN:=hid (turn_first (v:=v) (by simp[Hb]) HFT.out hN2)
   clear hT2 hH2 hE2 hlen hN2
   go_wp2
   go_ret
   exact⟨fun hn=>absurd hn HX.out,fun _=>⟨rfl,row',v',hpm,HH.out,HE2.out,HTN.out⟩⟩
end Go.Proofs.YtcfgafododiioaaGreatDoor
