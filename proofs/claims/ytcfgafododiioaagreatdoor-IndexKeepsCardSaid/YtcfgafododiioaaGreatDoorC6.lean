/- Texts of a claim, side by side. -/
import Derived.Test.YtcfgafododiioaaGreatDoorC11
import Derived.Test.YtcfgafododiioaaGreatDoorC5
import Derived.Test.YtcfgafododiioaaGreatDoorC1
set_option linter.unusedSimpArgs false
set_option linter.unusedVariables false
namespace Go.Proofs.YtcfgafododiioaaGreatDoor
open Go Go.RowKit Go.Tum Go.ChangeMaps
open Go.ParB (upd Lof)
def swapL (row:List UInt64) (i j:Nat) (hi:i<row.length) (hj:j<row.length):List UInt64:=(row.set i row[j]).set j row[i]
theorem Tr.gblk {b:Nat} {w:World} {p mt mp nt:Nat} {At:UInt64→Option Int} {row:List UInt64} {g n cap:Nat} (h:Tr b w p mt mp nt At row (.slice (some ⟨g,0,none⟩) n cap)):∃cs,w.heap[g]? =some (.cells cs 36 (0,0)):=by
 rcases h.ow.2 with ⟨e,_⟩|⟨g',cap',cur,hv,hb,hgg,_⟩
 · cases e
 · cases hv;exact⟨cur,hgg⟩
theorem Tr.gne {b:Nat} {w:World} {p mt mp nt:Nat} {At:UInt64→Option Int} {row:List UInt64} {g n cap:Nat} (h:Tr b w p mt mp nt At row (.slice (some ⟨g,0,none⟩) n cap)):p≠g∧mt≠g∧mp≠g∧p≠mp∧p≠mt:=by
 have hg:∃cs,w.heap[g]? =some (.cells cs 36 (0,0)):=by
  rcases h.ow.2 with ⟨e,_⟩|⟨g',cap',cur,hv,hb,hgg,_⟩
  · cases e
  · cases hv;exact⟨cur,hgg⟩
 obtain⟨cs,hg⟩:=hg
 obtain⟨e1,c1,h1⟩:=h.ti.block
 obtain⟨e2,c2,h2⟩:=h.pl.block
 refine⟨?_,?_,?_,?_,?_⟩
 · rintro rfl;have:=h.hd;rw[hg] at this;simp at this
 · rintro rfl;rw[hg] at h1;cases h1
 · rintro rfl;rw[hg] at h2;cases h2
 · rintro rfl;rw[h.hd] at h2;cases h2
 · rintro rfl;rw[h.hd] at h1;cases h1
theorem owv_at {f:UInt64→Value} {w w':World} {b e g n cap:Nat} {l:List UInt64} (h:OwV f w b e (.slice (some ⟨g,0,none⟩) n cap) l) (k:w'.heap[g]? =w.heap[g]?):OwV f w' b e (.slice (some ⟨g,0,none⟩) n cap) l:=by
 refine⟨h.1,?_⟩
 rcases h.2 with hn|⟨g',cap',cur,hv,hb,hgg,rest⟩
 · exact .inl hn
 · cases hv
   exact .inr ⟨g,cap,cur,rfl,hb,k.trans hgg,rest⟩
theorem idx_of {l:List UInt64} (h:l.Nodup) {k:Nat} (hk:k<l.length) {y:UInt64} (e:l[k]=y):l.idxOf y=k:=by
 rw[←e];exact h.idxOf_getElem k hk
theorem plF_at {l:List UInt64} (h:l.Nodup) {k:Nat} (hk:k<l.length) {y:UInt64} (e:l[k]=y):plF l y=some (k:Int):=by
 unfold plF
 rw[if_pos (by rw[←e];exact List.getElem_mem hk),idx_of h hk e]
theorem swap_perm {row:List UInt64} {i j:Nat} (hi:i<row.length) (hj:j<row.length):(swapL row i j hi hj).Perm row:=List.set_set_perm hi hj
theorem swap_len {row:List UInt64} {i j:Nat} (hi:i<row.length) (hj:j<row.length):(swapL row i j hi hj).length=row.length:=by simp[swapL]
theorem swap_nd {row:List UInt64} {i j:Nat} (hi:i<row.length) (hj:j<row.length) (h:row.Nodup):(swapL row i j hi hj).Nodup:=(swap_perm hi hj).nodup_iff.2 h
theorem swap_i {row:List UInt64} {i j:Nat} (hi:i<row.length) (hj:j<row.length):(swapL row i j hi hj)[i]'(by rw[swap_len];exact hi)=row[j]:=by
 unfold swapL
 rw[List.getElem_set]
 split
 · rename_i e;subst e;rfl
 · simp
theorem swap_j {row:List UInt64} {i j:Nat} (hi:i<row.length) (hj:j<row.length):(swapL row i j hi hj)[j]'(by rw[swap_len];exact hj)=row[i]:=by
 unfold swapL;simp
theorem swap_k {row:List UInt64} {i j k:Nat} (hi:i<row.length) (hj:j<row.length) (hk:k<row.length) (h1:k≠i) (h2:k≠j):(swapL row i j hi hj)[k]'(by rw[swap_len];exact hk)=row[k]:=by
 unfold swapL
 rw[List.getElem_set_ne (Ne.symm h2),List.getElem_set_ne (Ne.symm h1)]
theorem plF_swap {row:List UInt64} {i j:Nat} (hi:i<row.length) (hj:j<row.length) (h:row.Nodup) (y:UInt64):setF (setF (plF row) row[j] (i:Int)) row[i] (j:Int) y=plF (swapL row i j hi hj) y:=by
 have hn:=swap_nd hi hj h
 unfold setF
 by_cases h1:y=row[i]
 · rw[if_pos h1,plF_at hn (by rw[swap_len];exact hj) ((swap_j hi hj).trans h1.symm)]
 · rw[if_neg h1]
   by_cases h2:y=row[j]
   · rw[if_pos h2,plF_at hn (by rw[swap_len];exact hi) ((swap_i hi hj).trans h2.symm)]
   · rw[if_neg h2]
     by_cases hm:y∈row
     · obtain⟨k,hk,e⟩:=List.mem_iff_getElem.1 hm
       have k1:k≠i:=by rintro rfl;exact h1 e.symm
       have k2:k≠j:=by rintro rfl;exact h2 e.symm
       rw[plF_at h hk e,plF_at hn (by rw[swap_len];exact hk) ((swap_k hi hj hk k1 k2).trans e)]
     · unfold plF
       rw[if_neg hm,if_neg fun hc=>hm ((swap_perm hi hj).mem_iff.1 hc)]
set_option maxRecDepth 100000 in
set_option maxHeartbeats 1000000 in
theorem swap_any (b:Nat) (w:World) (p mt mp nt:Nat) (At:UInt64→Option Int) (row:List UInt64) (g n cap:Nat) (i j:Nat) (h:Tr b w p mt mp nt At row (.slice (some ⟨g,0,none⟩) n cap)) (hi:i<row.length) (hj:j<row.length) (hl:row.length≤1000000):
 Calls Tryz.prog 194 #[.pointer (some ⟨p,1,none⟩),.int .i64 i,.int .i64 j] w fun e w'=>(∃v,e= .returned v)∧Tr b w' p mt mp nt At (swapL row i j hi hj) (.slice (some ⟨g,0,none⟩) n cap)∧Fr [g,mp] w w':=by
 have hn:=h.ow.len
 subst hn
 obtain⟨n1,n2,n3,n4,n5⟩:=h.gne
 obtain⟨-,a1,a2,-⟩:=lk3 h.hd
 have HC1:=hid a1
 have HC2:=hid a2
 have HP:=hid (Array.getElem?_eq_some_iff.1 h.hd).1
 have HO:=hid h.ow
 have HG:Hid (∃cs,w.heap[g]? =some (.cells cs 36 (0,0))):=hid h.gblk
 have H:=hid h
 obtain⟨xi,hxi⟩:∃x,row[i]=x:=⟨_,rfl⟩
 obtain⟨xj,hxj⟩:∃x,row[j]=x:=⟨_,rfl⟩
 have hi1:i<row.length:=hi
 have hj1:j<row.length:=hj
 clear h a1 a2
 go_enter Tryz.func194,Tryz.ntmps194
 go_wp2_with fail
 refine ParC.wp_region_c (l:=[_,_,_,_,_,_,_,_,_,_,_,_,_,_,_,_,_,_,_,_,_,_,_,_,_,_,_,_]) rfl (SwA w g b row.length cap i j row xi xj) (ParC.VC [ParC.EQ (Value.pointer (some ⟨p,1,none⟩)),ParC.EQ (Value.pointer (some ⟨p,1,none⟩)),ParC.EQ (Value.pointer (some ⟨p,1,none⟩)),ParC.EQ (Value.slice (some ⟨g,0,none⟩) row.length cap),ParC.EQ (Value.int IntKind.i64 (i:Int)),ParC.EQ (Value.pointer (some ⟨p,1,none⟩)),ParC.EQ (Value.pointer (some ⟨p,1,none⟩)),ParC.EQ (Value.pointer (some ⟨p,1,none⟩)),ParC.EQ (Value.slice (some ⟨g,0,none⟩) row.length cap),ParC.EQ (Value.int IntKind.i64 (j:Int)),ParC.EQ (Value.pointer (some ⟨p,1,none⟩)),ParC.EQ (Value.pointer (some ⟨p,1,none⟩)),ParC.EQ (Value.pointer (some ⟨p,1,none⟩)),ParC.EQ (Value.slice (some ⟨g,0,none⟩) row.length cap),ParC.EQ (Value.int IntKind.i64 (j:Int)),ParC.EQ (Value.pointer (some ⟨g,j,none⟩)),ParC.EQ (vU xj),ParC.EQ (Value.pointer (some ⟨p,1,none⟩)),ParC.EQ (Value.pointer (some ⟨p,1,none⟩)),ParC.EQ (Value.pointer (some ⟨p,1,none⟩)),ParC.EQ (Value.slice (some ⟨g,0,none⟩) row.length cap),ParC.EQ (Value.int IntKind.i64 (i:Int)),ParC.EQ (Value.pointer (some ⟨g,i,none⟩)),ParC.EQ (vU xi),ParC.EQ (Value.pointer (some ⟨g,i,none⟩)),fun _=>True,ParC.EQ (Value.pointer (some ⟨g,j,none⟩)),fun _=>True]) (by kernel_rfl) (by kernel_rfl) (SwA.start HO.out) ?_ ?_
 · refine⟨fun L ρ w' hR hL hd hk=> ?_,?_⟩
   · exact Par.val_of_run rfl ⟨hR.other (by decide),hk.1⟩
   refine⟨fun L ρ w' hR hL hd hk=> ?_,?_⟩
   · obtain⟨(e0:ρ (.tmp 6)=Value.pointer (some ⟨p,1,none⟩)),-⟩:=hk;refine Par.val_k fun K hK=> ?_;unfold Par.val
     (go_simp;exact hK _ _ ⟨hR.other (by decide),rfl⟩)
   refine⟨fun _ _ _ hR _ _ hk=>Par.pv [(7,Value.pointer (some ⟨p,1,none⟩))] hk (by kernel_rfl) ⟨hR.other (by decide),rfl⟩,?_⟩
   refine⟨fun L ρ w' hR hL hd hk=> ?_,?_⟩
   · obtain⟨(e0:ρ (.tmp 8)=Value.pointer (some ⟨p,1,none⟩)),-⟩:=hk;refine Par.val_k fun K hK=> ?_;unfold Par.val
     (have c:=(hR.fr.cell (by simpa using n1) HP.out).trans HC1.out;go_simp;exact hK _ _ ⟨hR.other (by decide),rfl⟩)
   refine⟨fun L ρ w' hR hL hd hk=> ?_,?_⟩
   · exact Par.val_of_run rfl ⟨hR.other (by decide),hk.1⟩
   refine⟨fun L ρ w' hR hL hd hk=> ?_,?_⟩
   · exact Par.val_of_run rfl ⟨hR.other (by decide),hk.1⟩
   refine⟨fun L ρ w' hR hL hd hk=> ?_,?_⟩
   · obtain⟨(e0:ρ (.tmp 11)=Value.pointer (some ⟨p,1,none⟩)),-⟩:=hk;refine Par.val_k fun K hK=> ?_;unfold Par.val
     (go_simp;exact hK _ _ ⟨hR.other (by decide),rfl⟩)
   refine⟨fun _ _ _ hR _ _ hk=>Par.pv [(12,Value.pointer (some ⟨p,1,none⟩))] hk (by kernel_rfl) ⟨hR.other (by decide),rfl⟩,?_⟩
   refine⟨fun L ρ w' hR hL hd hk=> ?_,?_⟩
   · obtain⟨(e0:ρ (.tmp 13)=Value.pointer (some ⟨p,1,none⟩)),-⟩:=hk;refine Par.val_k fun K hK=> ?_;unfold Par.val
     (have c:=(hR.fr.cell (by simpa using n1) HP.out).trans HC1.out;go_simp;exact hK _ _ ⟨hR.other (by decide),rfl⟩)
   refine⟨fun L ρ w' hR hL hd hk=> ?_,?_⟩
   · exact Par.val_of_run rfl ⟨hR.other (by decide),hk.1⟩
   refine⟨fun L ρ w' hR hL hd hk=> ?_,?_⟩
   · exact Par.val_of_run rfl ⟨hR.other (by decide),hk.1⟩
   refine⟨fun L ρ w' hR hL hd hk=> ?_,?_⟩
   · obtain⟨(e0:ρ (.tmp 16)=Value.pointer (some ⟨p,1,none⟩)),-⟩:=hk;refine Par.val_k fun K hK=> ?_;unfold Par.val
     (go_simp;exact hK _ _ ⟨hR.other (by decide),rfl⟩)
   refine⟨fun _ _ _ hR _ _ hk=>Par.pv [(17,Value.pointer (some ⟨p,1,none⟩))] hk (by kernel_rfl) ⟨hR.other (by decide),rfl⟩,?_⟩
   refine⟨fun L ρ w' hR hL hd hk=> ?_,?_⟩
   · obtain⟨(e0:ρ (.tmp 18)=Value.pointer (some ⟨p,1,none⟩)),-⟩:=hk;refine Par.val_k fun K hK=> ?_;unfold Par.val
     (have c:=(hR.fr.cell (by simpa using n1) HP.out).trans HC1.out;go_simp;exact hK _ _ ⟨hR.other (by decide),rfl⟩)
   refine⟨fun L ρ w' hR hL hd hk=> ?_,?_⟩
   · exact Par.val_of_run rfl ⟨hR.other (by decide),hk.1⟩
   refine⟨fun L ρ w' hR hL hd hk=> ?_,?_⟩
   · obtain⟨(e0:ρ (.tmp 19)=Value.slice (some ⟨g,0,none⟩) row.length cap),(e1:ρ (.tmp 20)=Value.int IntKind.i64 (j:Int)),-⟩:=hk;refine Par.val_k fun K hK=> ?_;unfold Par.val
     (go_simp;exact hK _ _ ⟨hR.other (by decide),rfl⟩)
   refine⟨fun L ρ w' hR hL hd hk=> ?_,?_⟩
   · obtain⟨(e0:ρ (.tmp 21)=Value.pointer (some ⟨g,j,none⟩)),-⟩:=hk;refine Par.val_k fun K hK=> ?_;unfold Par.val
     (have c:=(hR.old (.inl hL)).cell j hj;rw[hxj] at c;go_simp;exact hK _ _ ⟨hR.other (by decide),rfl⟩)
   refine⟨fun L ρ w' hR hL hd hk=> ?_,?_⟩
   · exact Par.val_of_run rfl ⟨hR.other (by decide),hk.1⟩
   refine⟨fun L ρ w' hR hL hd hk=> ?_,?_⟩
   · obtain⟨(e0:ρ (.tmp 23)=Value.pointer (some ⟨p,1,none⟩)),-⟩:=hk;refine Par.val_k fun K hK=> ?_;unfold Par.val
     (go_simp;exact hK _ _ ⟨hR.other (by decide),rfl⟩)
   refine⟨fun _ _ _ hR _ _ hk=>Par.pv [(24,Value.pointer (some ⟨p,1,none⟩))] hk (by kernel_rfl) ⟨hR.other (by decide),rfl⟩,?_⟩
   refine⟨fun L ρ w' hR hL hd hk=> ?_,?_⟩
   · obtain⟨(e0:ρ (.tmp 25)=Value.pointer (some ⟨p,1,none⟩)),-⟩:=hk;refine Par.val_k fun K hK=> ?_;unfold Par.val
     (have c:=(hR.fr.cell (by simpa using n1) HP.out).trans HC1.out;go_simp;exact hK _ _ ⟨hR.other (by decide),rfl⟩)
   refine⟨fun L ρ w' hR hL hd hk=> ?_,?_⟩
   · exact Par.val_of_run rfl ⟨hR.other (by decide),hk.1⟩
   refine⟨fun L ρ w' hR hL hd hk=> ?_,?_⟩
   · obtain⟨(e0:ρ (.tmp 26)=Value.slice (some ⟨g,0,none⟩) row.length cap),(e1:ρ (.tmp 27)=Value.int IntKind.i64 (i:Int)),-⟩:=hk;refine Par.val_k fun K hK=> ?_;unfold Par.val
     (go_simp;exact hK _ _ ⟨hR.other (by decide),rfl⟩)
   refine⟨fun L ρ w' hR hL hd hk=> ?_,?_⟩
   · obtain⟨(e0:ρ (.tmp 28)=Value.pointer (some ⟨g,i,none⟩)),-⟩:=hk;refine Par.val_k fun K hK=> ?_;unfold Par.val
     (have c:=(hR.old (.inr hL)).cell i hi;rw[hxi] at c;go_simp;exact hK _ _ ⟨hR.other (by decide),rfl⟩)
   refine⟨fun L ρ w' hR hL hd hk=> ?_,?_⟩
   · obtain⟨(e0:ρ (.tmp 9)=Value.slice (some ⟨g,0,none⟩) row.length cap),(e1:ρ (.tmp 10)=Value.int IntKind.i64 (i:Int)),-⟩:=hk;refine Par.val_k fun K hK=> ?_;unfold Par.val
     (go_simp;exact hK _ _ ⟨hR.other (by decide),rfl⟩)
   refine⟨fun L ρ w' hR hL hd hk=> ?_,?_⟩
   · obtain⟨(e0:ρ (.tmp 30)=Value.pointer (some ⟨g,i,none⟩)),(e1:ρ (.tmp 22)=vU xj),-⟩:=hk;refine Par.val_k fun K hK=> ?_;unfold Par.val
     (have hd':=hd;simp[Region.binds] at hd';have c:=(hR.s0 hL).cell i hi;have f:=(hR.s0 hL).frozen i;go_simp;exact hK _ _ ⟨hR.one hL (by simp_all),trivial⟩)
   refine⟨fun L ρ w' hR hL hd hk=> ?_,?_⟩
   · obtain⟨(e0:ρ (.tmp 14)=Value.slice (some ⟨g,0,none⟩) row.length cap),(e1:ρ (.tmp 15)=Value.int IntKind.i64 (j:Int)),-⟩:=hk;refine Par.val_k fun K hK=> ?_;unfold Par.val
     (go_simp;exact hK _ _ ⟨hR.other (by decide),rfl⟩)
   refine⟨fun L ρ w' hR hL hd hk=> ?_,?_⟩
   · obtain⟨(e0:ρ (.tmp 31)=Value.pointer (some ⟨g,j,none⟩)),(e1:ρ (.tmp 29)=vU xi),-⟩:=hk;refine Par.val_k fun K hK=> ?_;unfold Par.val
     (have hd':=hd;simp[Region.binds] at hd';have c:=(hR.s1 (by simp_all) hL).cell j (by simpa using hj);have f:=(hR.s1 (by simp_all) hL).frozen j;go_simp;exact hK _ _ ⟨hR.two hL (by simp_all),trivial⟩)
   trivial
 intro a' w' inv hR
 have hq:=Par.donesC inv;simp only[Par.donesV,ParC.EQ,true_and,and_true] at hq
 clear inv
 simp only[List.filterMap_cons,List.filterMap_nil,Par.putAll,Act.put,List.setIfInBounds_toArray,List.set_cons_succ,List.set_cons_zero,hq]
 clear hq
 clear a'
 have HO1:=hid (hR.s2 rfl)
 have HF1:=hid hR.fr
 have hrow:(row.set i xj).set j xi=swapL row i j hi hj:=by unfold swapL;rw[hxi,hxj]
 rw[hrow] at HO1
 have HC1':=hid ((HF1.out.cell (a:=⟨p,1,none⟩) (by simpa using n1) HP.out).trans HC1.out)
 have HC2':=hid ((HF1.out.cell (a:=⟨p,2,none⟩) (by simpa using n1) HP.out).trans HC2.out)
 have HP':=hid (Nat.lt_of_lt_of_le HP.out HF1.out.size)
 have HGL:Hid (g<w'.heap.size):=hid (by obtain⟨cs,hg⟩:=HG.out;exact Nat.lt_of_lt_of_le (Array.getElem?_eq_some_iff.1 hg).1 HF1.out.size)
 obtain⟨W1,hW⟩:∃W1,W1=w':=⟨_,rfl⟩
 subst hW
 have hM:=H.out.pl.fr HF1.out (by simpa using n3)
 obtain⟨es,ck,hmb⟩:=hM.block
 have hmlt:=(Array.getElem?_eq_some_iff.1 hmb).1
 have hp1:plF row xj=some (j:Int):=plF_at H.out.nd hj hxj
 obtain⟨st1,em1,hs1⟩:=hM.entry Tryz.underlying224 (Tryz.zeroValue3 _) (by omega) hp1
 obtain⟨O1,se1,mi1⟩:=hs1 (i:Int)
 have hM2:=mi1 (setBlock W1 mp O1) (set_block hmlt)
 have hp2:setF (plF row) xj (i:Int) xi=some (i:Int):=by
  unfold setF
  split
  · rfl
  · exact plF_at H.out.nd hi hxi
 obtain⟨st2,em2,hs2⟩:=hM2.entry Tryz.underlying224 (Tryz.zeroValue3 _) (by omega) hp2
 obtain⟨O2,se2,mi2⟩:=hs2 (j:Int)
 have hl2:(swapL row i j hi hj).length=row.length:=swap_len hi hj
 have hyi:=(swap_i hi hj).trans hxj
 have hyj:=(swap_j hi hj).trans hxi
 have HE1:=hid em1
 have HE2:=hid em2
 have HS1:=hid se1
 have HS2:=hid se2
 have HM2:=hid mi2
 have HY:=hid (And.intro hyi hyj)
 have HL2:=hid hl2
 have HLT:=hid hmlt
 clear hR hrow hM hmb hs1 hM2 mi1 hs2 em1 em2 se1 se2 mi2 hyi hyj hl2 hp1 hp2 hmlt
 go_wp2_with fail
 refine ParC.wp_region_c (l:=[_,_,_,_,_,_,_,_,_,_,_,_,_,_,_,_,_,_,_,_,_,_,_,_,_,_,_,_,_,_]) rfl (SwB W1 mp O1 O2) (ParC.VC [ParC.EQ (Value.pointer (some ⟨p,1,none⟩)),ParC.EQ (Value.pointer (some ⟨p,1,none⟩)),ParC.EQ (Value.pointer (some ⟨p,2,none⟩)),ParC.EQ (Value.map (some mp)),ParC.EQ (Value.pointer (some ⟨p,1,none⟩)),ParC.EQ (Value.pointer (some ⟨p,1,none⟩)),ParC.EQ (Value.pointer (some ⟨p,1,none⟩)),ParC.EQ (Value.slice (some ⟨g,0,none⟩) row.length cap),ParC.EQ (Value.int IntKind.i64 (i:Int)),ParC.EQ (Value.pointer (some ⟨g,i,none⟩)),ParC.EQ (vU xj),ParC.EQ (Value.pointer (some ⟨p,1,none⟩)),ParC.EQ (Value.pointer (some ⟨p,1,none⟩)),ParC.EQ (Value.pointer (some ⟨p,2,none⟩)),ParC.EQ (Value.map (some mp)),ParC.EQ (Value.pointer (some ⟨p,1,none⟩)),ParC.EQ (Value.pointer (some ⟨p,1,none⟩)),ParC.EQ (Value.pointer (some ⟨p,1,none⟩)),ParC.EQ (Value.slice (some ⟨g,0,none⟩) row.length cap),ParC.EQ (Value.int IntKind.i64 (j:Int)),ParC.EQ (Value.pointer (some ⟨g,j,none⟩)),ParC.EQ (vU xi),ParC.EQ (Value.int IntKind.i64 (i:Int)),ParC.EQ (Value.int IntKind.i64 (j:Int)),ParC.EQ (Value.tuple #[Value.int IntKind.i64 (j:Int),Value.int IntKind.i64 (st1:Int)]),ParC.EQ (Value.int IntKind.i64 (st1:Int)),fun _=>True,ParC.EQ (Value.tuple #[Value.int IntKind.i64 (i:Int),Value.int IntKind.i64 (st2:Int)]),ParC.EQ (Value.int IntKind.i64 (st2:Int)),fun _=>True]) (by kernel_rfl) (by kernel_rfl) (SwB.start HLT.out) ?_ ?_
 · refine⟨fun L ρ w' hR hL hd hk=> ?_,?_⟩
   · exact Par.val_of_run rfl ⟨hR.other (by decide),hk.1⟩
   refine⟨fun L ρ w' hR hL hd hk=> ?_,?_⟩
   · obtain⟨(e0:ρ (.tmp 32)=Value.pointer (some ⟨p,1,none⟩)),-⟩:=hk;refine Par.val_k fun K hK=> ?_;unfold Par.val
     (go_simp;exact hK _ _ ⟨hR.other (by decide),rfl⟩)
   refine⟨fun _ _ _ hR _ _ hk=>Par.pv [(33,Value.pointer (some ⟨p,1,none⟩))] hk (by kernel_rfl) ⟨hR.other (by decide),rfl⟩,?_⟩
   refine⟨fun L ρ w' hR hL hd hk=> ?_,?_⟩
   · obtain⟨(e0:ρ (.tmp 34)=Value.pointer (some ⟨p,2,none⟩)),-⟩:=hk;refine Par.val_k fun K hK=> ?_;unfold Par.val
     (have c:=(hR.fr.cell (by simpa using n4) HP'.out).trans HC2'.out;go_simp;exact hK _ _ ⟨hR.other (by decide),rfl⟩)
   refine⟨fun L ρ w' hR hL hd hk=> ?_,?_⟩
   · exact Par.val_of_run rfl ⟨hR.other (by decide),hk.1⟩
   refine⟨fun L ρ w' hR hL hd hk=> ?_,?_⟩
   · obtain⟨(e0:ρ (.tmp 36)=Value.pointer (some ⟨p,1,none⟩)),-⟩:=hk;refine Par.val_k fun K hK=> ?_;unfold Par.val
     (go_simp;exact hK _ _ ⟨hR.other (by decide),rfl⟩)
   refine⟨fun _ _ _ hR _ _ hk=>Par.pv [(37,Value.pointer (some ⟨p,1,none⟩))] hk (by kernel_rfl) ⟨hR.other (by decide),rfl⟩,?_⟩
   refine⟨fun L ρ w' hR hL hd hk=> ?_,?_⟩
   · obtain⟨(e0:ρ (.tmp 38)=Value.pointer (some ⟨p,1,none⟩)),-⟩:=hk;refine Par.val_k fun K hK=> ?_;unfold Par.val
     (have c:=(hR.fr.cell (by simpa using n4) HP'.out).trans HC1'.out;go_simp;exact hK _ _ ⟨hR.other (by decide),rfl⟩)
   refine⟨fun L ρ w' hR hL hd hk=> ?_,?_⟩
   · exact Par.val_of_run rfl ⟨hR.other (by decide),hk.1⟩
   refine⟨fun L ρ w' hR hL hd hk=> ?_,?_⟩
   · obtain⟨(e0:ρ (.tmp 39)=Value.slice (some ⟨g,0,none⟩) row.length cap),(e1:ρ (.tmp 40)=Value.int IntKind.i64 (i:Int)),-⟩:=hk;refine Par.val_k fun K hK=> ?_;unfold Par.val
     (go_simp;exact hK _ _ ⟨hR.other (by decide),rfl⟩)
   refine⟨fun L ρ w' hR hL hd hk=> ?_,?_⟩
   · obtain⟨(e0:ρ (.tmp 41)=Value.pointer (some ⟨g,i,none⟩)),-⟩:=hk;refine Par.val_k fun K hK=> ?_;unfold Par.val
     (have c:=(owv_at HO1.out (hR.fr.block g HGL.out (by simpa using Ne.symm n3))).cell i (by rw[HL2.out];exact hi);rw[HY.out.1] at c;go_simp;exact hK _ _ ⟨hR.other (by decide),rfl⟩)
   refine⟨fun L ρ w' hR hL hd hk=> ?_,?_⟩
   · exact Par.val_of_run rfl ⟨hR.other (by decide),hk.1⟩
   refine⟨fun L ρ w' hR hL hd hk=> ?_,?_⟩
   · obtain⟨(e0:ρ (.tmp 43)=Value.pointer (some ⟨p,1,none⟩)),-⟩:=hk;refine Par.val_k fun K hK=> ?_;unfold Par.val
     (go_simp;exact hK _ _ ⟨hR.other (by decide),rfl⟩)
   refine⟨fun _ _ _ hR _ _ hk=>Par.pv [(44,Value.pointer (some ⟨p,1,none⟩))] hk (by kernel_rfl) ⟨hR.other (by decide),rfl⟩,?_⟩
   refine⟨fun L ρ w' hR hL hd hk=> ?_,?_⟩
   · obtain⟨(e0:ρ (.tmp 45)=Value.pointer (some ⟨p,2,none⟩)),-⟩:=hk;refine Par.val_k fun K hK=> ?_;unfold Par.val
     (have c:=(hR.fr.cell (by simpa using n4) HP'.out).trans HC2'.out;go_simp;exact hK _ _ ⟨hR.other (by decide),rfl⟩)
   refine⟨fun L ρ w' hR hL hd hk=> ?_,?_⟩
   · exact Par.val_of_run rfl ⟨hR.other (by decide),hk.1⟩
   refine⟨fun L ρ w' hR hL hd hk=> ?_,?_⟩
   · obtain⟨(e0:ρ (.tmp 47)=Value.pointer (some ⟨p,1,none⟩)),-⟩:=hk;refine Par.val_k fun K hK=> ?_;unfold Par.val
     (go_simp;exact hK _ _ ⟨hR.other (by decide),rfl⟩)
   refine⟨fun _ _ _ hR _ _ hk=>Par.pv [(48,Value.pointer (some ⟨p,1,none⟩))] hk (by kernel_rfl) ⟨hR.other (by decide),rfl⟩,?_⟩
   refine⟨fun L ρ w' hR hL hd hk=> ?_,?_⟩
   · obtain⟨(e0:ρ (.tmp 49)=Value.pointer (some ⟨p,1,none⟩)),-⟩:=hk;refine Par.val_k fun K hK=> ?_;unfold Par.val
     (have c:=(hR.fr.cell (by simpa using n4) HP'.out).trans HC1'.out;go_simp;exact hK _ _ ⟨hR.other (by decide),rfl⟩)
   refine⟨fun L ρ w' hR hL hd hk=> ?_,?_⟩
   · exact Par.val_of_run rfl ⟨hR.other (by decide),hk.1⟩
   refine⟨fun L ρ w' hR hL hd hk=> ?_,?_⟩
   · obtain⟨(e0:ρ (.tmp 50)=Value.slice (some ⟨g,0,none⟩) row.length cap),(e1:ρ (.tmp 51)=Value.int IntKind.i64 (j:Int)),-⟩:=hk;refine Par.val_k fun K hK=> ?_;unfold Par.val
     (go_simp;exact hK _ _ ⟨hR.other (by decide),rfl⟩)
   refine⟨fun L ρ w' hR hL hd hk=> ?_,?_⟩
   · obtain⟨(e0:ρ (.tmp 52)=Value.pointer (some ⟨g,j,none⟩)),-⟩:=hk;refine Par.val_k fun K hK=> ?_;unfold Par.val
     (have c:=(owv_at HO1.out (hR.fr.block g HGL.out (by simpa using Ne.symm n3))).cell j (by rw[HL2.out];exact hj);rw[HY.out.2] at c;go_simp;exact hK _ _ ⟨hR.other (by decide),rfl⟩)
   refine⟨fun L ρ w' hR hL hd hk=> ?_,?_⟩
   · exact Par.val_of_run rfl ⟨hR.other (by decide),hk.1⟩
   refine⟨fun L ρ w' hR hL hd hk=> ?_,?_⟩
   · exact Par.val_of_run rfl ⟨hR.other (by decide),hk.1⟩
   refine⟨fun L ρ w' hR hL hd hk=> ?_,?_⟩
   · obtain⟨(e0:ρ (.tmp 35)=Value.map (some mp)),(e1:ρ (.tmp 42)=vU xj),-⟩:=hk;refine Par.val_k fun K hK=> ?_;unfold Par.val
     (have r:=HE1.out w' (hR.s0 (Bool.eq_false_iff.2 fun k=>by rw[hR.o1 k] at hL;cases hL));go_simp;exact hK _ _ ⟨hR.other (by decide),rfl⟩)
   refine⟨fun _ _ _ hR _ _ hk=>Par.pv [(56,Value.tuple #[Value.int IntKind.i64 (j:Int),Value.int IntKind.i64 (st1:Int)])] hk (by kernel_rfl) ⟨hR.other (by decide),rfl⟩,?_⟩
   refine⟨fun L ρ w' hR hL hd hk=> ?_,?_⟩
   · obtain⟨(e0:ρ (.tmp 35)=Value.map (some mp)),(e1:ρ (.tmp 57)=Value.int IntKind.i64 (st1:Int)),(e2:ρ (.tmp 54)=Value.int IntKind.i64 (i:Int)),-⟩:=hk;refine Par.val_k fun K hK=> ?_;unfold Par.val
     (have hd':=hd;simp[Region.binds] at hd';have r:=HS1.out w' (hR.s0 hL);go_simp;exact hK _ _ ⟨hR.one hL (by simp_all),trivial⟩)
   refine⟨fun L ρ w' hR hL hd hk=> ?_,?_⟩
   · obtain⟨(e0:ρ (.tmp 46)=Value.map (some mp)),(e1:ρ (.tmp 53)=vU xi),-⟩:=hk;refine Par.val_k fun K hK=> ?_;unfold Par.val
     (have hd':=hd;simp[Region.binds] at hd';have r:=HE2.out w' ((hR.s1 (by simp_all) (Bool.eq_false_iff.2 fun k=>by rw[hR.o3 k] at hL;cases hL)).trans (set_block HLT.out).symm);go_simp;exact hK _ _ ⟨hR.mid (by simp_all),rfl⟩)
   refine⟨fun _ _ _ hR _ _ hk=>Par.pv [(58,Value.tuple #[Value.int IntKind.i64 (i:Int),Value.int IntKind.i64 (st2:Int)])] hk (by kernel_rfl) ⟨hR.other (by decide),rfl⟩,?_⟩
   refine⟨fun L ρ w' hR hL hd hk=> ?_,?_⟩
   · obtain⟨(e0:ρ (.tmp 46)=Value.map (some mp)),(e1:ρ (.tmp 59)=Value.int IntKind.i64 (st2:Int)),(e2:ρ (.tmp 55)=Value.int IntKind.i64 (j:Int)),-⟩:=hk;refine Par.val_k fun K hK=> ?_;unfold Par.val
     (have hd':=hd;simp[Region.binds] at hd';have r:=HS2.out w' ((hR.s1 (hR.o2 (by simp_all)) hL).trans (set_block HLT.out).symm);go_simp;exact hK _ _ ⟨hR.two (by simp_all),trivial⟩)
   trivial
 intro a' w' inv hR
 have hq:=Par.donesC inv;simp only[Par.donesV,ParC.EQ,true_and,and_true] at hq
 clear inv
 simp only[List.filterMap_cons,List.filterMap_nil,Par.putAll,Act.put,List.setIfInBounds_toArray,List.set_cons_succ,List.set_cons_zero,hq]
 clear hq
 clear a'
 have hF2:=hR.fr
 have hm2:=HM2.out _ (hR.s2 rfl)
 go_wp2
 go_returns
 have hne:=H.out.ne
 refine⟨⟨_,rfl⟩,⟨?_,?_,?_,?_,swap_nd hi hj H.out.nd,hne⟩,?_⟩
 · exact(hF2.block p HP'.out (by simpa using n4)).trans ((HF1.out.block p HP.out (by simpa using n1)).trans H.out.hd)
 · exact(H.out.ti.fr HF1.out (by simpa using n2)).fr hF2 (by simpa using hne)
 · rw[HL2.out]
   exact hm2.congr fun y=>by rw[←hxi,←hxj];exact plF_swap hi hj H.out.nd y
 · exact owv_at HO1.out (hF2.block g HGL.out (by simpa using Ne.symm n3))
 · exact(HF1.out.mono (by simp)).trans (hF2.mono (by simp))
end Go.Proofs.YtcfgafododiioaaGreatDoor
namespace Go.Tum.Hp
def par (i:Nat):Nat:=(i - 1) / 2
def AH (f:Nat→Int) (n i:Nat):Prop:=(∀j,0<j→j<n→j≠i→par j≠i→f (par j)≤f j)∧(∀j,0<j→j<n→par j=i→0<i→f (par i)≤f j)
def UP (f:Nat→Int) (i:Nat):Prop:=0<i→f (par i)≤f i
def HP (f:Nat→Int) (n:Nat):Prop:=∀j,0<j→j<n→f (par j)≤f j
def sw (f:Nat→Int) (i j:Nat):Nat→Int:=fun a=>if a=i then f j else if a=j then f i else f a
theorem par_lt {i:Nat} (h:0<i):par i<i:=by unfold par;omega
theorem up_step {f:Nat→Int} {n i:Nat} (h:AH f n i) (h0:0<i) (hn:i<n) (hlt:f i<f (par i)):AH (sw f i (par i)) n (par i):=by
 have hp:=par_lt h0
 obtain⟨h1,h2⟩:=h
 refine⟨fun j j0 jn ji jp=> ?_,fun j j0 jn jp p0=> ?_⟩
 · have hji:j≠i:=by rintro rfl;exact jp rfl
   have e1:sw f i (par i) j=f j:=by unfold sw;rw[if_neg hji,if_neg ji]
   rw[e1]
   by_cases hpi:par j=i
   · have:=h2 j j0 jn hpi h0
     have e2:sw f i (par i) (par j)=f (par i):=by unfold sw;rw[if_pos hpi]
     rw[e2];exact this
   · have:=h1 j j0 jn hji hpi
     have e2:sw f i (par i) (par j)=f (par j):=by unfold sw;rw[if_neg hpi,if_neg jp]
     rw[e2];exact this
 · have hpp:=par_lt p0
   have hle:f (par (par i))≤f (par i):=h1 (par i) p0 (by omega) (by omega) (by omega)
   have e2:sw f i (par i) (par (par i))=f (par (par i)):=by unfold sw;rw[if_neg (by omega),if_neg (by omega)]
   rw[e2]
   by_cases hji:j=i
   · have e1:sw f i (par i) j=f (par i):=by unfold sw;rw[if_pos hji]
     rw[e1];exact hle
   · have hjp:j≠par i:=by
      rintro rfl
      have:=par_lt j0
      omega
     have e1:sw f i (par i) j=f j:=by unfold sw;rw[if_neg hji,if_neg hjp]
     rw[e1]
     have:=h1 j j0 jn hji (by omega)
     rw[jp] at this
     omega
theorem down_step {f:Nat→Int} {n i c:Nat} (h:AH f n i) (hu:UP f i) (hn:i<n) (c0:0<c) (cn:c<n) (cp:par c=i) (hc:f c≤f i) (hm:∀j,0<j→j<n→par j=i→f c≤f j):AH (sw f i c) n c∧UP (sw f i c) c:=by
 have hci:=par_lt c0
 obtain⟨h1,h2⟩:=h
 have ei:sw f i c i=f c:=by unfold sw;rw[if_pos rfl]
 have ec:sw f i c c=f i:=by unfold sw;rw[if_neg (by omega),if_pos rfl]
 have eo:∀a,a≠i→a≠c→sw f i c a=f a:=fun a h1 h2=>by unfold sw;rw[if_neg h1,if_neg h2]
 refine⟨⟨fun j j0 jn jc jp=> ?_,fun j j0 jn jp _=> ?_⟩,fun _=> ?_⟩
 · by_cases hji:j=i
   · subst hji
     have:=par_lt j0
     rw[ei,eo (par j) (by omega) (by omega)]
     exact h2 c c0 cn cp j0
   · rw[eo j hji jc]
     by_cases hpi:par j=i
     · rw[hpi,ei];exact hm j j0 jn hpi
     · rw[eo (par j) hpi jp];exact h1 j j0 jn hji hpi
 · have:=par_lt j0
   rw[cp,ei,eo j (by omega) (by omega)]
   have:=h1 j j0 jn (by omega) (by omega)
   rw[jp] at this;exact this
 · rw[cp,ei,ec];exact hc
theorem down_done {f:Nat→Int} {n i:Nat} (h:AH f n i) (hu:UP f i) (hm:∀j,0<j→j<n→par j=i→f i≤f j):HP f n:=by
 intro j j0 jn
 by_cases hji:j=i
 · subst hji;exact hu j0
 · by_cases hp:par j=i
   · rw[hp];exact hm j j0 jn hp
   · exact h.1 j j0 jn hji hp
theorem HP.top {f:Nat→Int} {n:Nat} (h:HP f n):∀j,j<n→f 0≤f j:=by
 intro j
 induction j using Nat.strongRecOn with
 |_ j ih=>
  intro hj
  rcases Nat.eq_zero_or_pos j with rfl|h0
  · omega
  · have h1:=h j h0 hj
    have h2:=ih (par j) (par_lt h0) (by have:=par_lt h0;omega)
    omega
theorem AH.congr {f g:Nat→Int} {n i:Nat} (h:AH f n i) (hi:i<n) (e:∀j,j<n→f j=g j):AH g n i:=by
 refine⟨fun j j0 jn a b=> ?_,fun j j0 jn a b=> ?_⟩
 · have:=par_lt j0
   rw[←e j jn,←e (par j) (by omega)];exact h.1 j j0 jn a b
 · have:=par_lt b
   rw[←e j jn,←e (par i) (by omega)];exact h.2 j j0 jn a b
theorem UP.congr {f g:Nat→Int} {n i:Nat} (h:UP f i) (hi:i<n) (e:∀j,j<n→f j=g j):UP g i:=by
 intro h0
 have:=par_lt h0
 rw[←e i hi,←e (par i) (by omega)];exact h h0
theorem HP.congr {f g:Nat→Int} {n:Nat} (h:HP f n) (e:∀j,j<n→f j=g j):HP g n:=by
 intro j j0 jn
 have:=par_lt j0
 rw[←e j jn,←e (par j) (by omega)];exact h j j0 jn
end Go.Tum.Hp
