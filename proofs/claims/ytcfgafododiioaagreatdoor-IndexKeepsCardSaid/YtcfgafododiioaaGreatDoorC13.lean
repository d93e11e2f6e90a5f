/- Texts of a claim, side by side. -/
import Derived.Test.YtcfgafododiioaaGreatDoorC11
import Derived.Test.YtcfgafododiioaaGreatDoorC12
set_option linter.unusedSimpArgs false
set_option linter.unusedVariables false
set_option maxRecDepth 100000
namespace Go.Proofs.YtcfgafododiioaaGreatDoor
open Go Go.RowKit Go.Tum Go.ChangeMaps
open Go.ParB (upd Lof)
open Go.ParE (putS slotsR slots Closed)
abbrev itO (z:It):Obj:= .cells (itC z) 79 (0,0)
theorem blkI {w:World} {b:Nat} {z:It} (h:w.heap[b]? =some (itO z)):∀i v,(itC z)[i]? =some v→w.cell? ⟨b,i,none⟩=some v:=fun i v hv=>by
 rw[cell_of_row _ _ _ _ _ _ h];exact hv
set_option maxHeartbeats 4000000 in
theorem leave_any {B:Nat} {w:World} {p:Nat} {x:XP} {q:QR} (z:It) (h:IX B w p x q) (hB:B≤w.heap.size) (hl:0≤z.lane∧z.lane<8) (hw:x.row.length≤10000):
 Calls Tryz.prog 129 #[pv p,itV z] w fun e w'=>(∃u,e= .returned u)∧XStp B w p x (leaveQ q z) w':=by
 have HB':=hid hB
 have HW:=hid hw
 obtain⟨n,hn⟩:∃n:Nat,z.lane=(n:Int):=⟨z.lane.toNat,by omega⟩
 have hn8:n<8:=by omega
 have HN:=hid hn8
 obtain⟨W1,hW1⟩:∃W,w.alloc (itO z)=W:=⟨_,rfl⟩
 have hE1:Ext w W1:=by rw[←hW1];exact Ext.alloc _ _
 have hb:=heap_alloc_new w (itO z)
 rw[hW1] at hb
 have h1:=h.ext hE1
 have HE1:=hid hE1
 have H1:=hid h1
 have HB1:=hid (Nat.le_trans hB hE1.size)
 have HBX:=hid hb
 have HKL:=hid (h1.lcell hn8)
 have HK7:Hid (W1.cell? ⟨p,7,none⟩=some (.map (some x.mi))):=hid (h1.cells 7 _ rfl)
 have HK16:Hid (W1.cell? ⟨p,16,none⟩=some (pv x.hp)):=hid (h1.cells 16 _ rfl)
 have HK17:Hid (W1.cell? ⟨p,17,none⟩=some (.map (some x.mh))):=hid (h1.cells 17 _ rfl)
 have HK18:Hid (W1.cell? ⟨p,18,none⟩=some (pv x.dp)):=hid (h1.cells 18 _ rfl)
 have HC0:=hid (blkI hb 0 _ rfl)
 have HC1:=hid (blkI hb 1 _ rfl)
 have HC2:=hid (blkI hb 2 _ rfl)
 have HC4:=hid (blkI hb 4 _ rfl)
 have HC5:=hid (blkI hb 5 _ rfl)
 have HNB:=hid h.new_nin
 obtain⟨b,hbb⟩:∃b,w.heap.size=b:=⟨_,rfl⟩
 have hbb':=hbb
 rw[hbb] at HNB HBX HC0 HC1 HC2 HC4 HC5
 obtain⟨id,lane,st,ct,due,tok,turn,sg,ps,size⟩:=z
 dsimp only at hn HC0 HC1 HC2 HC4 HC5
 subst hn
 have hw1':w.alloc (.cells #[vU id,.int .i64 (n:Int),.int .i64 st,.int .i64 ct,vU due,vU tok,vU turn,vU sg,vU ps,.int .i64 size] 79 (0,0))=W1:=hW1
 have hn8':=hn8
 clear h hB hl hw hE1 hb h1 hW1 hn8
 by_cases e1:st=1
 · subst e1
   have c2:=HC2.out
   go_enter Tryz.func129,Tryz.ntmps129
   go_wp2_with fail
   refine ParE.wp_region_e (l:=[_,_,_,_,_,_,_,_,_,_]) rfl (Rg.Ch [9] [] (OneQ W1 fun w'=>XStp B W1 p x {q with rows:=updN q.rows n ((q.rows n).filter fun y=>y !=id)} w')) (ParC.VC [ParC.EQ (pv p),ParC.EQ (Value.pointer (some ⟨b,1,none⟩)),ParC.EQ (Value.int .i64 (n:Int)),ParC.EQ (pv p),ParC.EQ (Value.pointer (some ⟨p,8,none⟩)),ParC.EQ (Value.pointer (some ⟨p,8+n,none⟩)),ParC.EQ (pv (x.lp n).1),ParC.EQ (Value.pointer (some ⟨b,0,none⟩)),ParC.EQ (vU id),ParC.EQ (Value.bool (decide (id∈q.rows n)))]) (by kernel_rfl) (by kernel_rfl) (Rg.Ch.start ⟨fun _=>Ext.draw _,trivial⟩) ?_ ?_
   · refine⟨fun L ρ w' hR hC hL hd hk=> ?_,?_⟩
     · obtain⟨(e0:ρ (.tmp 0)=pv p),-⟩:=hk;refine Par.val_k fun K hK=> ?_;unfold Par.val
       (go_simp;exact hK _ _ ⟨hR.other (by decide),rfl⟩)
     refine⟨fun _ _ _ hR _ _ _ hk=>Par.pv [(3,pv b)] hk (by kernel_rfl) ⟨hR.other (by decide),rfl⟩,?_⟩
     refine⟨fun L ρ w' hR hC hL hd hk=> ?_,?_⟩
     · obtain⟨(e0:ρ (.tmp 10)=Value.pointer (some ⟨b,1,none⟩)),-⟩:=hk;refine Par.val_k fun K hK=> ?_;unfold Par.val
       (obtain⟨i,hi,hq⟩:=hR.some 0 rfl (hC.notyet 9 2 hL (by kernel_rfl));have hx:=hq.1 (by omega);have cc:=hx.cell HC1.out;go_simp;exact hK _ _ ⟨hR.other (by decide),rfl⟩)
     refine⟨fun L ρ w' hR hC hL hd hk=> ?_,?_⟩
     · obtain⟨(e0:ρ (.tmp 9)=pv p),-⟩:=hk;refine Par.val_k fun K hK=> ?_;unfold Par.val
       (go_simp;exact hK _ _ ⟨hR.other (by decide),rfl⟩)
     refine⟨fun _ _ _ hR _ _ _ hk=>Par.pv [(12,pv p)] hk (by kernel_rfl) ⟨hR.other (by decide),rfl⟩,?_⟩
     refine⟨fun L ρ w' hR hC hL hd hk=> ?_,?_⟩
     · obtain⟨(e0:ρ (.tmp 13)=Value.pointer (some ⟨p,8,none⟩)),(e1:ρ (.tmp 11)=Value.int .i64 (n:Int)),-⟩:=hk;refine Par.val_k fun K hK=> ?_;unfold Par.val
       (have hlt:(n:Int)<8:=(by have:=HN.out;omega);go_simp;exact hK _ _ ⟨hR.other (by decide),rfl⟩)
     refine⟨fun L ρ w' hR hC hL hd hk=> ?_,?_⟩
     · obtain⟨(e0:ρ (.tmp 14)=Value.pointer (some ⟨p,8+n,none⟩)),-⟩:=hk;refine Par.val_k fun K hK=> ?_;unfold Par.val
       (obtain⟨i,hi,hq⟩:=hR.some 0 rfl (hC.notyet 9 6 hL (by kernel_rfl));have hx:=hq.1 (by omega);have cc:=hx.cell HKL.out;go_simp;exact hK _ _ ⟨hR.other (by decide),rfl⟩)
     refine⟨fun _ _ _ hR _ _ _ hk=>Par.pv [(3,pv b)] hk (by kernel_rfl) ⟨hR.other (by decide),rfl⟩,?_⟩
     refine⟨fun L ρ w' hR hC hL hd hk=> ?_,?_⟩
     · obtain⟨(e0:ρ (.tmp 16)=Value.pointer (some ⟨b,0,none⟩)),-⟩:=hk;refine Par.val_k fun K hK=> ?_;unfold Par.val
       (obtain⟨i,hi,hq⟩:=hR.some 0 rfl (hC.notyet 9 8 hL (by kernel_rfl));have hx:=hq.1 (by omega);have cc:=hx.cell HC0.out;go_simp;exact hK _ _ ⟨hR.other (by decide),rfl⟩)
     refine⟨fun L ρ w' hR hC hL hd hk=> ?_,?_⟩
     · obtain⟨e0,(e1:ρ (.tmp 15)=pv (x.lp n).1),(e2:ρ (.tmp 17)=vU id),-⟩:=hk;refine Par.val_k fun K hK=> ?_;unfold Par.val
       (obtain⟨hq,hs⟩:=hR.go 0 rfl hL (.inl rfl) (by decide);have hx:=hq.1 (by decide);refine Par.val_call Tryz.func169 (by kernel_rfl) rfl e0 ?_;simp only[List.map_toArray,List.map_cons,List.map_nil,e1,e2];refine(lanDrop_at (H1.out.ext hx) (Nat.le_trans HB1.out hx.size) HN.out id).mono ?_;rintro e w2 ⟨rfl,hp⟩;exact⟨_,rfl,hK _ _ ⟨hs _ _ _ ⟨fun h=>absurd h (by decide),hp.pre hx⟩,rfl⟩⟩)
     trivial
   intro a' w' inv hR
   have hq:=Par.donesC inv;simp only[Par.donesV,ParC.EQ,true_and,and_true] at hq
   clear inv
   simp only[List.filterMap_cons,List.filterMap_nil,Par.putAll,Act.put,List.setIfInBounds_toArray,List.set_cons_succ,List.set_cons_zero,hq]
   clear hq
   have hp:=(Rg.Ch.fin hR (by decide) 1 rfl).2;have HP:=hid hp;clear hp hR
   try clear a'
   go_wp2
   go_returns
   exact⟨⟨_,rfl⟩,(HP.out.pre HE1.out).congr (leaveQ1 q ⟨id,(n:Int),1,ct,due,tok,turn,sg,ps,size⟩ rfl).symm⟩
 have hs1:(st==(1:Int))=false:=by simpa using e1
 by_cases e2:st=2
 · subst e2
   have c2:=HC2.out
   go_enter Tryz.func129,Tryz.ntmps129
   go_wp2_with fail
   refine ParE.wp_region_e (l:=[_,_,_,_,_,_,_]) rfl (Rg.Ch [6] [] (OneQ W1 fun w'=>XStp B W1 p x {q with wat:=delF q.wat id} w')) (ParC.VC [ParC.EQ (pv p),ParC.EQ (pv p),ParC.EQ (Value.pointer (some ⟨p,16,none⟩)),ParC.EQ (pv x.hp),ParC.EQ (Value.pointer (some ⟨b,0,none⟩)),ParC.EQ (vU id),ParC.EQ (Value.bool (q.wat id).isSome)]) (by kernel_rfl) (by kernel_rfl) (Rg.Ch.start ⟨fun _=>Ext.draw _,trivial⟩) ?_ ?_
   · refine⟨fun L ρ w' hR hC hL hd hk=> ?_,?_⟩
     · obtain⟨(e0:ρ (.tmp 0)=pv p),-⟩:=hk;refine Par.val_k fun K hK=> ?_;unfold Par.val
       (go_simp;exact hK _ _ ⟨hR.other (by decide),rfl⟩)
     refine⟨fun L ρ w' hR hC hL hd hk=> ?_,?_⟩
     · obtain⟨(e0:ρ (.tmp 21)=pv p),-⟩:=hk;refine Par.val_k fun K hK=> ?_;unfold Par.val
       (go_simp;exact hK _ _ ⟨hR.other (by decide),rfl⟩)
     refine⟨fun _ _ _ hR _ _ _ hk=>Par.pv [(22,pv p)] hk (by kernel_rfl) ⟨hR.other (by decide),rfl⟩,?_⟩
     refine⟨fun L ρ w' hR hC hL hd hk=> ?_,?_⟩
     · obtain⟨(e0:ρ (.tmp 23)=Value.pointer (some ⟨p,16,none⟩)),-⟩:=hk;refine Par.val_k fun K hK=> ?_;unfold Par.val
       (obtain⟨i,hi,hq⟩:=hR.some 0 rfl (hC.notyet 6 3 hL (by kernel_rfl));have hx:=hq.1 (by omega);have cc:=hx.cell HK16.out;go_simp;exact hK _ _ ⟨hR.other (by decide),rfl⟩)
     refine⟨fun _ _ _ hR _ _ _ hk=>Par.pv [(3,pv b)] hk (by kernel_rfl) ⟨hR.other (by decide),rfl⟩,?_⟩
     refine⟨fun L ρ w' hR hC hL hd hk=> ?_,?_⟩
     · obtain⟨(e0:ρ (.tmp 25)=Value.pointer (some ⟨b,0,none⟩)),-⟩:=hk;refine Par.val_k fun K hK=> ?_;unfold Par.val
       (obtain⟨i,hi,hq⟩:=hR.some 0 rfl (hC.notyet 6 5 hL (by kernel_rfl));have hx:=hq.1 (by omega);have cc:=hx.cell HC0.out;go_simp;exact hK _ _ ⟨hR.other (by decide),rfl⟩)
     refine⟨fun L ρ w' hR hC hL hd hk=> ?_,?_⟩
     · obtain⟨e0,(e1:ρ (.tmp 24)=pv x.hp),(e2:ρ (.tmp 26)=vU id),-⟩:=hk;refine Par.val_k fun K hK=> ?_;unfold Par.val
       (obtain⟨hq,hs⟩:=hR.go 0 rfl hL (.inl rfl) (by decide);have hx:=hq.1 (by decide);refine Par.val_call Tryz.func133 (by kernel_rfl) rfl e0 ?_;simp only[List.map_toArray,List.map_cons,List.map_nil,e1,e2];refine(dueDrop_at (H1.out.ext hx) (Nat.le_trans HB1.out hx.size) id HW.out).mono ?_;rintro e w2 ⟨rfl,hp⟩;exact⟨_,rfl,hK _ _ ⟨hs _ _ _ ⟨fun h=>absurd h (by decide),hp.pre hx⟩,rfl⟩⟩)
     trivial
   intro a' w' inv hR
   have hq:=Par.donesC inv;simp only[Par.donesV,ParC.EQ,true_and,and_true] at hq
   clear inv
   simp only[List.filterMap_cons,List.filterMap_nil,Par.putAll,Act.put,List.setIfInBounds_toArray,List.set_cons_succ,List.set_cons_zero,hq]
   clear hq
   have hp:=(Rg.Ch.fin hR (by decide) 1 rfl).2;have HP:=hid hp;clear hp hR
   try clear a'
   go_wp2
   go_returns
   exact⟨⟨_,rfl⟩,(HP.out.pre HE1.out).congr (leaveQ2 q ⟨id,(n:Int),2,ct,due,tok,turn,sg,ps,size⟩ rfl).symm⟩
 have hs2:(st==(2:Int))=false:=by simpa using e2
 by_cases e3:st=3
 · subst e3
   have c2:=HC2.out
   go_enter Tryz.func129,Tryz.ntmps129
   go_wp2_with fail
   refine ParE.wp_region_e (l:=[_,_,_,_,_,_,_]) rfl (Rg.Ch [6] [] (OneQ W1 fun w'=>XStp B W1 p x {q with wat:=delF q.wat id} w')) (ParC.VC [ParC.EQ (pv p),ParC.EQ (pv p),ParC.EQ (Value.pointer (some ⟨p,16,none⟩)),ParC.EQ (pv x.hp),ParC.EQ (Value.pointer (some ⟨b,0,none⟩)),ParC.EQ (vU id),ParC.EQ (Value.bool (q.wat id).isSome)]) (by kernel_rfl) (by kernel_rfl) (Rg.Ch.start ⟨fun _=>Ext.draw _,trivial⟩) ?_ ?_
   · refine⟨fun L ρ w' hR hC hL hd hk=> ?_,?_⟩
     · obtain⟨(e0:ρ (.tmp 0)=pv p),-⟩:=hk;refine Par.val_k fun K hK=> ?_;unfold Par.val
       (go_simp;exact hK _ _ ⟨hR.other (by decide),rfl⟩)
     refine⟨fun L ρ w' hR hC hL hd hk=> ?_,?_⟩
     · obtain⟨(e0:ρ (.tmp 30)=pv p),-⟩:=hk;refine Par.val_k fun K hK=> ?_;unfold Par.val
       (go_simp;exact hK _ _ ⟨hR.other (by decide),rfl⟩)
     refine⟨fun _ _ _ hR _ _ _ hk=>Par.pv [(31,pv p)] hk (by kernel_rfl) ⟨hR.other (by decide),rfl⟩,?_⟩
     refine⟨fun L ρ w' hR hC hL hd hk=> ?_,?_⟩
     · obtain⟨(e0:ρ (.tmp 32)=Value.pointer (some ⟨p,16,none⟩)),-⟩:=hk;refine Par.val_k fun K hK=> ?_;unfold Par.val
       (obtain⟨i,hi,hq⟩:=hR.some 0 rfl (hC.notyet 6 3 hL (by kernel_rfl));have hx:=hq.1 (by omega);have cc:=hx.cell HK16.out;go_simp;exact hK _ _ ⟨hR.other (by decide),rfl⟩)
     refine⟨fun _ _ _ hR _ _ _ hk=>Par.pv [(3,pv b)] hk (by kernel_rfl) ⟨hR.other (by decide),rfl⟩,?_⟩
     refine⟨fun L ρ w' hR hC hL hd hk=> ?_,?_⟩
     · obtain⟨(e0:ρ (.tmp 34)=Value.pointer (some ⟨b,0,none⟩)),-⟩:=hk;refine Par.val_k fun K hK=> ?_;unfold Par.val
       (obtain⟨i,hi,hq⟩:=hR.some 0 rfl (hC.notyet 6 5 hL (by kernel_rfl));have hx:=hq.1 (by omega);have cc:=hx.cell HC0.out;go_simp;exact hK _ _ ⟨hR.other (by decide),rfl⟩)
     refine⟨fun L ρ w' hR hC hL hd hk=> ?_,?_⟩
     · obtain⟨e0,(e1:ρ (.tmp 33)=pv x.hp),(e2:ρ (.tmp 35)=vU id),-⟩:=hk;refine Par.val_k fun K hK=> ?_;unfold Par.val
       (obtain⟨hq,hs⟩:=hR.go 0 rfl hL (.inl rfl) (by decide);have hx:=hq.1 (by decide);refine Par.val_call Tryz.func133 (by kernel_rfl) rfl e0 ?_;simp only[List.map_toArray,List.map_cons,List.map_nil,e1,e2];refine(dueDrop_at (H1.out.ext hx) (Nat.le_trans HB1.out hx.size) id HW.out).mono ?_;rintro e w2 ⟨rfl,hp⟩;exact⟨_,rfl,hK _ _ ⟨hs _ _ _ ⟨fun h=>absurd h (by decide),hp.pre hx⟩,rfl⟩⟩)
     trivial
   intro a' w' inv hR
   have hq:=Par.donesC inv;simp only[Par.donesV,ParC.EQ,true_and,and_true] at hq
   clear inv
   simp only[List.filterMap_cons,List.filterMap_nil,Par.putAll,Act.put,List.setIfInBounds_toArray,List.set_cons_succ,List.set_cons_zero,hq]
   clear hq
   have hp:=(Rg.Ch.fin hR (by decide) 1 rfl).2;have HP:=hid hp;clear hp hR
   try clear a'
   obtain⟨x2,i2,f2,n2⟩:=HP.out
   have hb2:=(f2.block b (Array.getElem?_eq_some_iff.1 HBX.out).1 HNB.out).trans HBX.out
   have HF2:=hid f2
   have HN2:=hid n2
   have H2:=hid i2
   have HC5':Hid (w'.cell? ⟨b,5,none⟩=some (vU tok)):=hid (blkI hb2 5 _ rfl)
   have HK17':Hid (w'.cell? ⟨p,17,none⟩=some (.map (some x2.mh))):=hid (i2.cells 17 _ rfl)
   clear f2 n2 i2 hb2 HP
   obtain⟨W2,hW2⟩:∃W,w'=W:=⟨_,rfl⟩
   rw[hW2] at HF2 H2 HC5' HK17'⊢
   clear hW2
   go_wp2_with fail
   refine ParE.wp_region_e (l:=[_,_,_,_,_,_,_,_]) rfl (Rg.Ch [7] [] (OneQ W2 fun w'=>XStp B W2 p x2 {q with wat:=delF q.wat id,hld:=noK q.hld tok} w')) (ParC.VC [ParC.EQ (pv p),ParC.EQ (pv p),ParC.EQ (Value.pointer (some ⟨p,17,none⟩)),ParC.EQ (Value.map (some x2.mh)),ParC.EQ (Value.pointer (some ⟨b,2,none⟩)),ParC.EQ (Value.pointer (some ⟨b,5,none⟩)),ParC.EQ (vU tok),fun _=>True]) (by kernel_rfl) (by kernel_rfl) (Rg.Ch.start ⟨fun _=>Ext.draw _,trivial⟩) ?_ ?_
   · refine⟨fun L ρ w' hR hC hL hd hk=> ?_,?_⟩
     · obtain⟨(e0:ρ (.tmp 0)=pv p),-⟩:=hk;refine Par.val_k fun K hK=> ?_;unfold Par.val
       (go_simp;exact hK _ _ ⟨hR.other (by decide),rfl⟩)
     refine⟨fun L ρ w' hR hC hL hd hk=> ?_,?_⟩
     · obtain⟨(e0:ρ (.tmp 37)=pv p),-⟩:=hk;refine Par.val_k fun K hK=> ?_;unfold Par.val
       (go_simp;exact hK _ _ ⟨hR.other (by decide),rfl⟩)
     refine⟨fun _ _ _ hR _ _ _ hk=>Par.pv [(38,pv p)] hk (by kernel_rfl) ⟨hR.other (by decide),rfl⟩,?_⟩
     refine⟨fun L ρ w' hR hC hL hd hk=> ?_,?_⟩
     · obtain⟨(e0:ρ (.tmp 39)=Value.pointer (some ⟨p,17,none⟩)),-⟩:=hk;refine Par.val_k fun K hK=> ?_;unfold Par.val
       (obtain⟨i,hi,hq⟩:=hR.some 0 rfl (hC.notyet 7 3 hL (by kernel_rfl));have hx:=hq.1 (by omega);have cc:=hx.cell HK17'.out;go_simp;exact hK _ _ ⟨hR.other (by decide),rfl⟩)
     refine⟨fun _ _ _ hR _ _ _ hk=>Par.pv [(3,pv b)] hk (by kernel_rfl) ⟨hR.other (by decide),rfl⟩,?_⟩
     refine⟨fun _ _ _ hR _ _ _ hk=>Par.pv [(41,Value.pointer (some ⟨b,2,none⟩))] hk (by kernel_rfl) ⟨hR.other (by decide),rfl⟩,?_⟩
     refine⟨fun L ρ w' hR hC hL hd hk=> ?_,?_⟩
     · obtain⟨(e0:ρ (.tmp 42)=Value.pointer (some ⟨b,5,none⟩)),-⟩:=hk;refine Par.val_k fun K hK=> ?_;unfold Par.val
       (obtain⟨i,hi,hq⟩:=hR.some 0 rfl (hC.notyet 7 6 hL (by kernel_rfl));have hx:=hq.1 (by omega);have cc:=hx.cell HC5'.out;go_simp;exact hK _ _ ⟨hR.other (by decide),rfl⟩)
     refine⟨fun L ρ w' hR hC hL hd hk=> ?_,?_⟩
     · obtain⟨(e0:ρ (.tmp 40)=Value.map (some x2.mh)),(e1:ρ (.tmp 43)=vU tok),-⟩:=hk;refine Par.val_k fun K hK=> ?_;unfold Par.val
       (obtain⟨hq,hs⟩:=hR.go 0 rfl hL (.inl rfl) (by decide);have hx:=hq.1 (by decide);obtain⟨w2,hrun,hp⟩:=hldDel_at (H2.out.ext hx) tok 0;have hp2:=hid (hp.pre hx);clear hp;go_simp;exact hK _ _ ⟨hs none _ _ ⟨fun h=>absurd h (by decide),hp2.out⟩,trivial⟩)
     trivial
   intro a' w' inv hR
   have hq:=Par.donesC inv;simp only[Par.donesV,ParC.EQ,true_and,and_true] at hq
   clear inv
   simp only[List.filterMap_cons,List.filterMap_nil,Par.putAll,Act.put,List.setIfInBounds_toArray,List.set_cons_succ,List.set_cons_zero,hq]
   clear hq
   have hp:=(Rg.Ch.fin hR (by decide) 1 rfl).2;have HPB:=hid hp;clear hp hR
   try clear a'
   go_wp2
   go_returns
   exact⟨⟨_,rfl⟩,((XStp.then HF2.out HN2.out HPB.out).pre HE1.out).congr (leaveQ3 q ⟨id,(n:Int),3,ct,due,tok,turn,sg,ps,size⟩ rfl).symm⟩
 have hs3:(st==(3:Int))=false:=by simpa using e3
 by_cases e4:st=4
 · subst e4
   have c2:=HC2.out
   go_enter Tryz.func129,Tryz.ntmps129
   go_wp2_with fail
   refine ParE.wp_region_e (l:=[_,_,_,_,_,_,_]) rfl (Rg.Ch [6] [] (OneQ W1 fun w'=>XStp B W1 p x {q with dd:=(dropD q.dd id).2} w')) (ParC.VC [ParC.EQ (pv p),ParC.EQ (pv p),ParC.EQ (Value.pointer (some ⟨p,18,none⟩)),ParC.EQ (pv x.dp),ParC.EQ (Value.pointer (some ⟨b,0,none⟩)),ParC.EQ (vU id),ParC.EQ (Value.bool (dropD q.dd id).1)]) (by kernel_rfl) (by kernel_rfl) (Rg.Ch.start ⟨fun _=>Ext.draw _,trivial⟩) ?_ ?_
   · refine⟨fun L ρ w' hR hC hL hd hk=> ?_,?_⟩
     · obtain⟨(e0:ρ (.tmp 0)=pv p),-⟩:=hk;refine Par.val_k fun K hK=> ?_;unfold Par.val
       (go_simp;exact hK _ _ ⟨hR.other (by decide),rfl⟩)
     refine⟨fun L ρ w' hR hC hL hd hk=> ?_,?_⟩
     · obtain⟨(e0:ρ (.tmp 46)=pv p),-⟩:=hk;refine Par.val_k fun K hK=> ?_;unfold Par.val
       (go_simp;exact hK _ _ ⟨hR.other (by decide),rfl⟩)
     refine⟨fun _ _ _ hR _ _ _ hk=>Par.pv [(47,pv p)] hk (by kernel_rfl) ⟨hR.other (by decide),rfl⟩,?_⟩
     refine⟨fun L ρ w' hR hC hL hd hk=> ?_,?_⟩
     · obtain⟨(e0:ρ (.tmp 48)=Value.pointer (some ⟨p,18,none⟩)),-⟩:=hk;refine Par.val_k fun K hK=> ?_;unfold Par.val
       (obtain⟨i,hi,hq⟩:=hR.some 0 rfl (hC.notyet 6 3 hL (by kernel_rfl));have hx:=hq.1 (by omega);have cc:=hx.cell HK18.out;go_simp;exact hK _ _ ⟨hR.other (by decide),rfl⟩)
     refine⟨fun _ _ _ hR _ _ _ hk=>Par.pv [(3,pv b)] hk (by kernel_rfl) ⟨hR.other (by decide),rfl⟩,?_⟩
     refine⟨fun L ρ w' hR hC hL hd hk=> ?_,?_⟩
     · obtain⟨(e0:ρ (.tmp 50)=Value.pointer (some ⟨b,0,none⟩)),-⟩:=hk;refine Par.val_k fun K hK=> ?_;unfold Par.val
       (obtain⟨i,hi,hq⟩:=hR.some 0 rfl (hC.notyet 6 5 hL (by kernel_rfl));have hx:=hq.1 (by omega);have cc:=hx.cell HC0.out;go_simp;exact hK _ _ ⟨hR.other (by decide),rfl⟩)
     refine⟨fun L ρ w' hR hC hL hd hk=> ?_,?_⟩
     · obtain⟨e0,(e1:ρ (.tmp 49)=pv x.dp),(e2:ρ (.tmp 51)=vU id),-⟩:=hk;refine Par.val_k fun K hK=> ?_;unfold Par.val
       (obtain⟨hq,hs⟩:=hR.go 0 rfl hL (.inl rfl) (by decide);have hx:=hq.1 (by decide);refine Par.val_call Tryz.func170 (by kernel_rfl) rfl e0 ?_;simp only[List.map_toArray,List.map_cons,List.map_nil,e1,e2];refine(dedDrop_at (H1.out.ext hx) (Nat.le_trans HB1.out hx.size) id).mono ?_;rintro e w2 ⟨rfl,hp⟩;exact⟨_,rfl,hK _ _ ⟨hs _ _ _ ⟨fun h=>absurd h (by decide),hp.pre hx⟩,rfl⟩⟩)
     trivial
   intro a' w' inv hR
   have hq:=Par.donesC inv;simp only[Par.donesV,ParC.EQ,true_and,and_true] at hq
   clear inv
   simp only[List.filterMap_cons,List.filterMap_nil,Par.putAll,Act.put,List.setIfInBounds_toArray,List.set_cons_succ,List.set_cons_zero,hq]
   clear hq
   have hp:=(Rg.Ch.fin hR (by decide) 1 rfl).2;have HP:=hid hp;clear hp hR
   try clear a'
   go_wp2
   go_returns
   exact⟨⟨_,rfl⟩,(HP.out.pre HE1.out).congr (leaveQ4 q ⟨id,(n:Int),4,ct,due,tok,turn,sg,ps,size⟩ rfl).symm⟩
 have hs4:(st==(4:Int))=false:=by simpa using e4
 have c2:=HC2.out
 go_enter Tryz.func129,Tryz.ntmps129
 go_wp2
 go_returns
 exact⟨⟨_,rfl⟩,(XStp.same H1.out (Ext.refl _)).pre HE1.out|>.congr (by unfold leaveQ;rw[if_neg e1,if_neg e2,if_neg e3,if_neg e4])⟩
def WatL (q:QR):Prop:=∀r:List UInt64,r.Nodup→(∀y,(q.wat y).isSome=decide (y∈r))→r.length≤10000
theorem IX.rowlen {B:Nat} {w:World} {p:Nat} {x:XP} {q:QR} (h:IX B w p x q) (k:WatL q):x.row.length≤10000:=k _ h.du.tr.nd h.du.has
structure EntL (q:QR):Prop where
 it:q.its.length≤1048576
 hl:q.hld.length≤1048576
 rl:∀n,n<8→(q.rows n).length≤1000000
 wl:WatL q
 dl:q.dd.rows.length≤99999
set_option maxHeartbeats 8000000 in
theorem enter_any {B:Nat} {w:World} {p:Nat} {x:XP} {q:QR} (z:It) (h:IX B w p x q) (hB:B≤w.heap.size) (hl:0≤z.lane∧z.lane<8) (hw:EntL q):
 Calls Tryz.prog 127 #[pv p,itV z] w fun e w'=>(∃u,e= .returned u)∧XStp B w p x (enterQ q z) w':=by
 have HB':=hid hB
 have HW:=hid hw
 obtain⟨n,hn⟩:∃n:Nat,z.lane=(n:Int):=⟨z.lane.toNat,by omega⟩
 have hn8:n<8:=by omega
 have HN:=hid hn8
 obtain⟨W1,hW1⟩:∃W,w.alloc (itO z)=W:=⟨_,rfl⟩
 have hE1:Ext w W1:=by rw[←hW1];exact Ext.alloc _ _
 have hb:=heap_alloc_new w (itO z)
 rw[hW1] at hb
 have h1:=h.ext hE1
 have HE1:=hid hE1
 have H1:=hid h1
 have HB1:=hid (Nat.le_trans hB hE1.size)
 have HBX:=hid hb
 have HKL:=hid (h1.lcell hn8)
 have HK7:Hid (W1.cell? ⟨p,7,none⟩=some (.map (some x.mi))):=hid (h1.cells 7 _ rfl)
 have HK16:Hid (W1.cell? ⟨p,16,none⟩=some (pv x.hp)):=hid (h1.cells 16 _ rfl)
 have HK17:Hid (W1.cell? ⟨p,17,none⟩=some (.map (some x.mh))):=hid (h1.cells 17 _ rfl)
 have HK18:Hid (W1.cell? ⟨p,18,none⟩=some (pv x.dp)):=hid (h1.cells 18 _ rfl)
 have HC0:=hid (blkI hb 0 _ rfl)
 have HC1:=hid (blkI hb 1 _ rfl)
 have HC2:=hid (blkI hb 2 _ rfl)
 have HC3:=hid (blkI hb 3 _ rfl)
 have HC4:=hid (blkI hb 4 _ rfl)
 have HC5:=hid (blkI hb 5 _ rfl)
 have HC6:=hid (blkI hb 6 _ rfl)
 have HC7:=hid (blkI hb 7 _ rfl)
 have HC8:=hid (blkI hb 8 _ rfl)
 have HC9:=hid (blkI hb 9 _ rfl)
 have HNB:=hid h.new_nin
 obtain⟨b,hbb⟩:∃b,w.heap.size=b:=⟨_,rfl⟩
 have hbb':=hbb
 rw[hbb] at HNB HBX HC0 HC1 HC2 HC3 HC4 HC5 HC6 HC7 HC8 HC9
 obtain⟨id,lane,st,ct,due,tok,turn,sg,ps,size⟩:=z
 dsimp only at hn HC0 HC1 HC2 HC3 HC4 HC5 HC6 HC7 HC8 HC9
 subst hn
 have hw1':w.alloc (.cells #[vU id,.int .i64 (n:Int),.int .i64 st,.int .i64 ct,vU due,vU tok,vU turn,vU sg,vU ps,.int .i64 size] 79 (0,0))=W1:=hW1
 have hn8':=hn8
 clear h hB hl hw hE1 hb h1 hW1 hn8
 obtain⟨lane,hlane⟩:∃l:Int,l=(n:Int):=⟨_,rfl⟩
 go_enter Tryz.func127,Tryz.ntmps127
 go_wp2_with fail
 refine ParE.wp_region_e (l:=[_,_,_,_,_,_,_,_]) rfl (Rg.Ch [7] [] (OneQ W1 fun w'=>XStp B W1 p x (putI q ⟨id,(n:Int),st,ct,due,tok,turn,sg,ps,size⟩) w')) (ParC.VC [ParC.EQ (pv p),ParC.EQ (pv p),ParC.EQ (Value.pointer (some ⟨p,7,none⟩)),ParC.EQ (Value.map (some x.mi)),ParC.EQ (Value.pointer (some ⟨b,0,none⟩)),ParC.EQ (vU id),ParC.EQ (itV ⟨id,(n:Int),st,ct,due,tok,turn,sg,ps,size⟩),fun _=>True]) (by kernel_rfl) (by kernel_rfl) (Rg.Ch.start ⟨fun _=>Ext.draw _,trivial⟩) ?_ ?_
 · refine⟨fun L ρ w' hR hC hL hd hk=> ?_,?_⟩
   · obtain⟨(e0:ρ (.tmp 0)=pv p),-⟩:=hk;refine Par.val_k fun K hK=> ?_;unfold Par.val
     (go_simp;exact hK _ _ ⟨hR.other (by decide),rfl⟩)
   refine⟨fun L ρ w' hR hC hL hd hk=> ?_,?_⟩
   · obtain⟨(e0:ρ (.tmp 4)=pv p),-⟩:=hk;refine Par.val_k fun K hK=> ?_;unfold Par.val
     (go_simp;exact hK _ _ ⟨hR.other (by decide),rfl⟩)
   refine⟨fun _ _ _ hR _ _ _ hk=>Par.pv [(5,pv p)] hk (by kernel_rfl) ⟨hR.other (by decide),rfl⟩,?_⟩
   refine⟨fun L ρ w' hR hC hL hd hk=> ?_,?_⟩
   · obtain⟨(e0:ρ (.tmp 6)=Value.pointer (some ⟨p,7,none⟩)),-⟩:=hk;refine Par.val_k fun K hK=> ?_;unfold Par.val
     (obtain⟨i,hi,hq⟩:=hR.some 0 rfl (hC.notyet 7 3 hL (by kernel_rfl));have hx:=hq.1 (by omega);have cc:=hx.cell HK7.out;go_simp;exact hK _ _ ⟨hR.other (by decide),rfl⟩)
   refine⟨fun _ _ _ hR _ _ _ hk=>Par.pv [(3,pv b)] hk (by kernel_rfl) ⟨hR.other (by decide),rfl⟩,?_⟩
   refine⟨fun L ρ w' hR hC hL hd hk=> ?_,?_⟩
   · obtain⟨(e0:ρ (.tmp 8)=Value.pointer (some ⟨b,0,none⟩)),-⟩:=hk;refine Par.val_k fun K hK=> ?_;unfold Par.val
     (obtain⟨i,hi,hq⟩:=hR.some 0 rfl (hC.notyet 7 5 hL (by kernel_rfl));have hx:=hq.1 (by omega);have cc:=hx.cell HC0.out;go_simp;exact hK _ _ ⟨hR.other (by decide),rfl⟩)
   refine⟨fun L ρ w' hR hC hL hd hk=> ?_,?_⟩
   · obtain⟨(e0:ρ (.tmp 3)=pv b),-⟩:=hk;refine Par.val_k fun K hK=> ?_;unfold Par.val
     (obtain⟨i,hi,hq⟩:=hR.some 0 rfl (hC.notyet 7 6 hL (by kernel_rfl));have hx:=hq.1 (by omega);have cc0:=hx.cell HC0.out;have cc1:=hx.cell HC1.out;have cc2:=hx.cell HC2.out;have cc3:=hx.cell HC3.out;have cc4:=hx.cell HC4.out;have cc5:=hx.cell HC5.out;have cc6:=hx.cell HC6.out;have cc7:=hx.cell HC7.out;have cc8:=hx.cell HC8.out;have cc9:=hx.cell HC9.out;go_simp;exact hK _ _ ⟨hR.other (by decide),rfl⟩)
   refine⟨fun L ρ w' hR hC hL hd hk=> ?_,?_⟩
   · obtain⟨(e0:ρ (.tmp 7)=Value.map (some x.mi)),(e1:ρ (.tmp 9)=vU id),(e2:ρ (.tmp 10)=itV ⟨id,(n:Int),st,ct,due,tok,turn,sg,ps,size⟩),-⟩:=hk;refine Par.val_k fun K hK=> ?_;unfold Par.val
     (obtain⟨hq,hs⟩:=hR.go 0 rfl hL (.inl rfl) (by decide);have hx:=hq.1 (by decide);obtain⟨w2,hrun,hp⟩:=itsPut_at (H1.out.ext hx) ⟨id,(n:Int),st,ct,due,tok,turn,sg,ps,size⟩ HW.out.it;have hp2:=hid (hp.pre hx);clear hp;go_simp;exact hK _ _ ⟨hs none _ _ ⟨fun h=>absurd h (by decide),hp2.out⟩,trivial⟩)
   trivial
 intro a' w' inv hR
 have hq:=Par.donesC inv;simp only[Par.donesV,ParC.EQ,true_and,and_true] at hq
 clear inv
 simp only[List.filterMap_cons,List.filterMap_nil,Par.putAll,Act.put,List.setIfInBounds_toArray,List.set_cons_succ,List.set_cons_zero,hq]
 clear hq
 have hp:=(Rg.Ch.fin hR (by decide) 1 rfl).2;have HP:=hid hp;clear hp hR
 try clear a'
 obtain⟨x2,i2,f2,n2⟩:=HP.out
 have hb2:=(f2.block b (Array.getElem?_eq_some_iff.1 HBX.out).1 HNB.out).trans HBX.out
 have hnb2:b∉x2.blk p:=fun hm=>by
  have hlt:=(Array.getElem?_eq_some_iff.1 HBX.out).1
  rcases n2 b hm with k|k
  · exact HNB.out k
  · omega
 have HNB2:=hid hnb2
 have HBX2:=hid hb2
 have HF2:=hid f2
 have HN2:=hid n2
 have H2:=hid i2
 have HB2:=hid (Nat.le_trans HB1.out f2.size)
 have HC0':Hid (w'.cell? ⟨b,0,none⟩=some (vU id)):=hid (blkI hb2 0 _ rfl)
 have HC1':Hid (w'.cell? ⟨b,1,none⟩=some (.int .i64 (n:Int))):=hid (blkI hb2 1 _ rfl)
 have HC2':Hid (w'.cell? ⟨b,2,none⟩=some (.int .i64 st)):=hid (blkI hb2 2 _ rfl)
 have HC4':Hid (w'.cell? ⟨b,4,none⟩=some (vU due)):=hid (blkI hb2 4 _ rfl)
 have HC5':Hid (w'.cell? ⟨b,5,none⟩=some (vU tok)):=hid (blkI hb2 5 _ rfl)
 have HKL':Hid (w'.cell? ⟨p,8+n,none⟩=some (pv (x2.lp n).1)):=hid (i2.lcell HN.out)
 have HK7':Hid (w'.cell? ⟨p,7,none⟩=some (.map (some x2.mi))):=hid (i2.cells 7 _ rfl)
 have HK16':Hid (w'.cell? ⟨p,16,none⟩=some (pv x2.hp)):=hid (i2.cells 16 _ rfl)
 have HK18':Hid (w'.cell? ⟨p,18,none⟩=some (pv x2.dp)):=hid (i2.cells 18 _ rfl)
 clear f2 n2 i2 hb2 hnb2 HP HC0 HC1 HC2 HC3 HC4 HC5 HC6 HC7 HC8 HC9 HK7 HK16 HK17 HK18 HKL HBX HNB
 obtain⟨W2,hW2⟩:∃W,w'=W:=⟨_,rfl⟩
 rw[hW2] at HBX2 HF2 H2 HB2 HC0' HC1' HC2' HC4' HC5' HKL' HK7' HK16' HK18'⊢
 clear hW2
 by_cases e1:st=1
 · subst e1
   have c2:=HC2'.out
   go_wp2_with fail
   refine ParE.wp_region_e (l:=[_,_,_,_,_,_,_,_,_,_]) rfl (Rg.Ch [9] [] (OneQ W2 fun w'=>XStp B W2 p x2 {putI q ⟨id,(n:Int),1,ct,due,tok,turn,sg,ps,size⟩ with rows:=updN q.rows n (putR (q.rows n) id)} w')) (ParC.VC [ParC.EQ (pv p),ParC.EQ (Value.pointer (some ⟨b,1,none⟩)),ParC.EQ (Value.int .i64 (n:Int)),ParC.EQ (pv p),ParC.EQ (Value.pointer (some ⟨p,8,none⟩)),ParC.EQ (Value.pointer (some ⟨p,8+n,none⟩)),ParC.EQ (pv (x2.lp n).1),ParC.EQ (Value.pointer (some ⟨b,0,none⟩)),ParC.EQ (vU id),ParC.EQ (Value.bool (decide (id∉q.rows n)))]) (by kernel_rfl) (by kernel_rfl) (Rg.Ch.start ⟨fun _=>Ext.draw _,trivial⟩) ?_ ?_
   · refine⟨fun L ρ w' hR hC hL hd hk=> ?_,?_⟩
     · obtain⟨(e0:ρ (.tmp 0)=pv p),-⟩:=hk;refine Par.val_k fun K hK=> ?_;unfold Par.val
       (go_simp;exact hK _ _ ⟨hR.other (by decide),rfl⟩)
     refine⟨fun _ _ _ hR _ _ _ hk=>Par.pv [(3,pv b)] hk (by kernel_rfl) ⟨hR.other (by decide),rfl⟩,?_⟩
     refine⟨fun L ρ w' hR hC hL hd hk=> ?_,?_⟩
     · obtain⟨(e0:ρ (.tmp 17)=Value.pointer (some ⟨b,1,none⟩)),-⟩:=hk;refine Par.val_k fun K hK=> ?_;unfold Par.val
       (obtain⟨i,hi,hq⟩:=hR.some 0 rfl (hC.notyet 9 2 hL (by kernel_rfl));have hx:=hq.1 (by omega);have cc:=hx.cell HC1'.out;go_simp;exact hK _ _ ⟨hR.other (by decide),rfl⟩)
     refine⟨fun L ρ w' hR hC hL hd hk=> ?_,?_⟩
     · obtain⟨(e0:ρ (.tmp 16)=pv p),-⟩:=hk;refine Par.val_k fun K hK=> ?_;unfold Par.val
       (go_simp;exact hK _ _ ⟨hR.other (by decide),rfl⟩)
     refine⟨fun _ _ _ hR _ _ _ hk=>Par.pv [(19,pv p)] hk (by kernel_rfl) ⟨hR.other (by decide),rfl⟩,?_⟩
     refine⟨fun L ρ w' hR hC hL hd hk=> ?_,?_⟩
     · obtain⟨(e0:ρ (.tmp 20)=Value.pointer (some ⟨p,8,none⟩)),(e1:ρ (.tmp 18)=Value.int .i64 (n:Int)),-⟩:=hk;refine Par.val_k fun K hK=> ?_;unfold Par.val
       (have hlt:(n:Int)<8:=(by have:=HN.out;omega);go_simp;exact hK _ _ ⟨hR.other (by decide),rfl⟩)
     refine⟨fun L ρ w' hR hC hL hd hk=> ?_,?_⟩
     · obtain⟨(e0:ρ (.tmp 21)=Value.pointer (some ⟨p,8+n,none⟩)),-⟩:=hk;refine Par.val_k fun K hK=> ?_;unfold Par.val
       (obtain⟨i,hi,hq⟩:=hR.some 0 rfl (hC.notyet 9 6 hL (by kernel_rfl));have hx:=hq.1 (by omega);have cc:=hx.cell HKL'.out;go_simp;exact hK _ _ ⟨hR.other (by decide),rfl⟩)
     refine⟨fun _ _ _ hR _ _ _ hk=>Par.pv [(3,pv b)] hk (by kernel_rfl) ⟨hR.other (by decide),rfl⟩,?_⟩
     refine⟨fun L ρ w' hR hC hL hd hk=> ?_,?_⟩
     · obtain⟨(e0:ρ (.tmp 23)=Value.pointer (some ⟨b,0,none⟩)),-⟩:=hk;refine Par.val_k fun K hK=> ?_;unfold Par.val
       (obtain⟨i,hi,hq⟩:=hR.some 0 rfl (hC.notyet 9 8 hL (by kernel_rfl));have hx:=hq.1 (by omega);have cc:=hx.cell HC0'.out;go_simp;exact hK _ _ ⟨hR.other (by decide),rfl⟩)
     refine⟨fun L ρ w' hR hC hL hd hk=> ?_,?_⟩
     · obtain⟨e0,(e1:ρ (.tmp 22)=pv (x2.lp n).1),(e2:ρ (.tmp 24)=vU id),-⟩:=hk;refine Par.val_k fun K hK=> ?_;unfold Par.val
       (obtain⟨hq,hs⟩:=hR.go 0 rfl hL (.inl rfl) (by decide);have hx:=hq.1 (by decide);refine Par.val_call Tryz.func166 (by kernel_rfl) rfl e0 ?_;simp only[List.map_toArray,List.map_cons,List.map_nil,e1,e2];refine(lanPut_at (H2.out.ext hx) (Nat.le_trans HB2.out hx.size) HN.out id (HW.out.rl n HN.out)).mono ?_;rintro e w2 ⟨rfl,hp⟩;exact⟨_,rfl,hK _ _ ⟨hs _ _ _ ⟨fun h=>absurd h (by decide),hp.pre hx⟩,rfl⟩⟩)
     trivial
   intro a' w' inv hR
   have hq:=Par.donesC inv;simp only[Par.donesV,ParC.EQ,true_and,and_true] at hq
   clear inv
   simp only[List.filterMap_cons,List.filterMap_nil,Par.putAll,Act.put,List.setIfInBounds_toArray,List.set_cons_succ,List.set_cons_zero,hq]
   clear hq
   have hp:=(Rg.Ch.fin hR (by decide) 1 rfl).2;have HP:=hid hp;clear hp hR
   try clear a'
   go_wp2
   go_returns
   exact⟨⟨_,rfl⟩,((XStp.then HF2.out HN2.out HP.out).pre HE1.out).congr (enterQ1 q ⟨id,(n:Int),1,ct,due,tok,turn,sg,ps,size⟩ rfl).symm⟩
 by_cases e2:st=2
 · subst e2
   have c2:=HC2'.out
   go_wp2_with fail
   refine ParE.wp_region_e (l:=[_,_,_,_,_,_,_,_,_,_]) rfl (Rg.Ch [9] [] (OneQ W2 fun w'=>XStp B W2 p x2 {putI q ⟨id,(n:Int),2,ct,due,tok,turn,sg,ps,size⟩ with wat:=putW q.wat id due} w')) (ParC.VC [ParC.EQ (pv p),ParC.EQ (pv p),ParC.EQ (Value.pointer (some ⟨p,16,none⟩)),ParC.EQ (pv x2.hp),ParC.EQ (Value.pointer (some ⟨b,0,none⟩)),ParC.EQ (vU id),ParC.EQ (Value.pointer (some ⟨b,2,none⟩)),ParC.EQ (Value.pointer (some ⟨b,4,none⟩)),ParC.EQ (vU due),ParC.EQ (Value.bool (!(q.wat id).isSome))]) (by kernel_rfl) (by kernel_rfl) (Rg.Ch.start ⟨fun _=>Ext.draw _,trivial⟩) ?_ ?_
   · refine⟨fun L ρ w' hR hC hL hd hk=> ?_,?_⟩
     · obtain⟨(e0:ρ (.tmp 0)=pv p),-⟩:=hk;refine Par.val_k fun K hK=> ?_;unfold Par.val
       (go_simp;exact hK _ _ ⟨hR.other (by decide),rfl⟩)
     refine⟨fun L ρ w' hR hC hL hd hk=> ?_,?_⟩
     · obtain⟨(e0:ρ (.tmp 28)=pv p),-⟩:=hk;refine Par.val_k fun K hK=> ?_;unfold Par.val
       (go_simp;exact hK _ _ ⟨hR.other (by decide),rfl⟩)
     refine⟨fun _ _ _ hR _ _ _ hk=>Par.pv [(29,pv p)] hk (by kernel_rfl) ⟨hR.other (by decide),rfl⟩,?_⟩
     refine⟨fun L ρ w' hR hC hL hd hk=> ?_,?_⟩
     · obtain⟨(e0:ρ (.tmp 30)=Value.pointer (some ⟨p,16,none⟩)),-⟩:=hk;refine Par.val_k fun K hK=> ?_;unfold Par.val
       (obtain⟨i,hi,hq⟩:=hR.some 0 rfl (hC.notyet 9 3 hL (by kernel_rfl));have hx:=hq.1 (by omega);have cc:=hx.cell HK16'.out;go_simp;exact hK _ _ ⟨hR.other (by decide),rfl⟩)
     refine⟨fun _ _ _ hR _ _ _ hk=>Par.pv [(3,pv b)] hk (by kernel_rfl) ⟨hR.other (by decide),rfl⟩,?_⟩
     refine⟨fun L ρ w' hR hC hL hd hk=> ?_,?_⟩
     · obtain⟨(e0:ρ (.tmp 32)=Value.pointer (some ⟨b,0,none⟩)),-⟩:=hk;refine Par.val_k fun K hK=> ?_;unfold Par.val
       (obtain⟨i,hi,hq⟩:=hR.some 0 rfl (hC.notyet 9 5 hL (by kernel_rfl));have hx:=hq.1 (by omega);have cc:=hx.cell HC0'.out;go_simp;exact hK _ _ ⟨hR.other (by decide),rfl⟩)
     refine⟨fun _ _ _ hR _ _ _ hk=>Par.pv [(3,pv b)] hk (by kernel_rfl) ⟨hR.other (by decide),rfl⟩,?_⟩
     refine⟨fun _ _ _ hR _ _ _ hk=>Par.pv [(34,Value.pointer (some ⟨b,2,none⟩))] hk (by kernel_rfl) ⟨hR.other (by decide),rfl⟩,?_⟩
     refine⟨fun L ρ w' hR hC hL hd hk=> ?_,?_⟩
     · obtain⟨(e0:ρ (.tmp 35)=Value.pointer (some ⟨b,4,none⟩)),-⟩:=hk;refine Par.val_k fun K hK=> ?_;unfold Par.val
       (obtain⟨i,hi,hq⟩:=hR.some 0 rfl (hC.notyet 9 8 hL (by kernel_rfl));have hx:=hq.1 (by omega);have cc:=hx.cell HC4'.out;go_simp;exact hK _ _ ⟨hR.other (by decide),rfl⟩)
     refine⟨fun L ρ w' hR hC hL hd hk=> ?_,?_⟩
     · obtain⟨e0,(e1:ρ (.tmp 31)=pv x2.hp),(e2:ρ (.tmp 33)=vU id),(e3:ρ (.tmp 36)=vU due),-⟩:=hk;refine Par.val_k fun K hK=> ?_;unfold Par.val
       (obtain⟨hq,hs⟩:=hR.go 0 rfl hL (.inl rfl) (by decide);have hx:=hq.1 (by decide);refine Par.val_call Tryz.func167 (by kernel_rfl) rfl e0 ?_;simp only[List.map_toArray,List.map_cons,List.map_nil,e1,e2,e3];refine(duePut_at (H2.out.ext hx) (Nat.le_trans HB2.out hx.size) id due (H2.out.rowlen HW.out.wl)).mono ?_;rintro e w2 ⟨rfl,hp⟩;exact⟨_,rfl,hK _ _ ⟨hs _ _ _ ⟨fun h=>absurd h (by decide),hp.pre hx⟩,rfl⟩⟩)
     trivial
   intro a' w' inv hR
   have hq:=Par.donesC inv;simp only[Par.donesV,ParC.EQ,true_and,and_true] at hq
   clear inv
   simp only[List.filterMap_cons,List.filterMap_nil,Par.putAll,Act.put,List.setIfInBounds_toArray,List.set_cons_succ,List.set_cons_zero,hq]
   clear hq
   have hp:=(Rg.Ch.fin hR (by decide) 1 rfl).2;have HP:=hid hp;clear hp hR
   try clear a'
   go_wp2
   go_returns
   exact⟨⟨_,rfl⟩,((XStp.then HF2.out HN2.out HP.out).pre HE1.out).congr (enterQ2 q ⟨id,(n:Int),2,ct,due,tok,turn,sg,ps,size⟩ rfl).symm⟩
 by_cases e3:st=3
 · subst e3
   have c2:=HC2'.out
   go_wp2_with fail
   refine ParE.wp_region_e (l:=[_,_,_,_,_,_,_,_,_,_]) rfl (Rg.Ch [9] [] (OneQ W2 fun w'=>XStp B W2 p x2 {putI q ⟨id,(n:Int),3,ct,due,tok,turn,sg,ps,size⟩ with wat:=putW q.wat id due} w')) (ParC.VC [ParC.EQ (pv p),ParC.EQ (pv p),ParC.EQ (Value.pointer (some ⟨p,16,none⟩)),ParC.EQ (pv x2.hp),ParC.EQ (Value.pointer (some ⟨b,0,none⟩)),ParC.EQ (vU id),ParC.EQ (Value.pointer (some ⟨b,2,none⟩)),ParC.EQ (Value.pointer (some ⟨b,4,none⟩)),ParC.EQ (vU due),ParC.EQ (Value.bool (!(q.wat id).isSome))]) (by kernel_rfl) (by kernel_rfl) (Rg.Ch.start ⟨fun _=>Ext.draw _,trivial⟩) ?_ ?_
   · refine⟨fun L ρ w' hR hC hL hd hk=> ?_,?_⟩
     · obtain⟨(e0:ρ (.tmp 0)=pv p),-⟩:=hk;refine Par.val_k fun K hK=> ?_;unfold Par.val
       (go_simp;exact hK _ _ ⟨hR.other (by decide),rfl⟩)
     refine⟨fun L ρ w' hR hC hL hd hk=> ?_,?_⟩
     · obtain⟨(e0:ρ (.tmp 40)=pv p),-⟩:=hk;refine Par.val_k fun K hK=> ?_;unfold Par.val
       (go_simp;exact hK _ _ ⟨hR.other (by decide),rfl⟩)
     refine⟨fun _ _ _ hR _ _ _ hk=>Par.pv [(41,pv p)] hk (by kernel_rfl) ⟨hR.other (by decide),rfl⟩,?_⟩
     refine⟨fun L ρ w' hR hC hL hd hk=> ?_,?_⟩
     · obtain⟨(e0:ρ (.tmp 42)=Value.pointer (some ⟨p,16,none⟩)),-⟩:=hk;refine Par.val_k fun K hK=> ?_;unfold Par.val
       (obtain⟨i,hi,hq⟩:=hR.some 0 rfl (hC.notyet 9 3 hL (by kernel_rfl));have hx:=hq.1 (by omega);have cc:=hx.cell HK16'.out;go_simp;exact hK _ _ ⟨hR.other (by decide),rfl⟩)
     refine⟨fun _ _ _ hR _ _ _ hk=>Par.pv [(3,pv b)] hk (by kernel_rfl) ⟨hR.other (by decide),rfl⟩,?_⟩
     refine⟨fun L ρ w' hR hC hL hd hk=> ?_,?_⟩
     · obtain⟨(e0:ρ (.tmp 44)=Value.pointer (some ⟨b,0,none⟩)),-⟩:=hk;refine Par.val_k fun K hK=> ?_;unfold Par.val
       (obtain⟨i,hi,hq⟩:=hR.some 0 rfl (hC.notyet 9 5 hL (by kernel_rfl));have hx:=hq.1 (by omega);have cc:=hx.cell HC0'.out;go_simp;exact hK _ _ ⟨hR.other (by decide),rfl⟩)
     refine⟨fun _ _ _ hR _ _ _ hk=>Par.pv [(3,pv b)] hk (by kernel_rfl) ⟨hR.other (by decide),rfl⟩,?_⟩
     refine⟨fun _ _ _ hR _ _ _ hk=>Par.pv [(46,Value.pointer (some ⟨b,2,none⟩))] hk (by kernel_rfl) ⟨hR.other (by decide),rfl⟩,?_⟩
     refine⟨fun L ρ w' hR hC hL hd hk=> ?_,?_⟩
     · obtain⟨(e0:ρ (.tmp 47)=Value.pointer (some ⟨b,4,none⟩)),-⟩:=hk;refine Par.val_k fun K hK=> ?_;unfold Par.val
       (obtain⟨i,hi,hq⟩:=hR.some 0 rfl (hC.notyet 9 8 hL (by kernel_rfl));have hx:=hq.1 (by omega);have cc:=hx.cell HC4'.out;go_simp;exact hK _ _ ⟨hR.other (by decide),rfl⟩)
     refine⟨fun L ρ w' hR hC hL hd hk=> ?_,?_⟩
     · obtain⟨e0,(e1:ρ (.tmp 43)=pv x2.hp),(e2:ρ (.tmp 45)=vU id),(e3:ρ (.tmp 48)=vU due),-⟩:=hk;refine Par.val_k fun K hK=> ?_;unfold Par.val
       (obtain⟨hq,hs⟩:=hR.go 0 rfl hL (.inl rfl) (by decide);have hx:=hq.1 (by decide);refine Par.val_call Tryz.func167 (by kernel_rfl) rfl e0 ?_;simp only[List.map_toArray,List.map_cons,List.map_nil,e1,e2,e3];refine(duePut_at (H2.out.ext hx) (Nat.le_trans HB2.out hx.size) id due (H2.out.rowlen HW.out.wl)).mono ?_;rintro e w2 ⟨rfl,hp⟩;exact⟨_,rfl,hK _ _ ⟨hs _ _ _ ⟨fun h=>absurd h (by decide),hp.pre hx⟩,rfl⟩⟩)
     trivial
   intro a' w' inv hR
   have hq:=Par.donesC inv;simp only[Par.donesV,ParC.EQ,true_and,and_true] at hq
   clear inv
   simp only[List.filterMap_cons,List.filterMap_nil,Par.putAll,Act.put,List.setIfInBounds_toArray,List.set_cons_succ,List.set_cons_zero,hq]
   clear hq
   have hp:=(Rg.Ch.fin hR (by decide) 1 rfl).2;have HP:=hid hp;clear hp hR
   try clear a'
   obtain⟨x3,i3,f3,n3⟩:=HP.out
   have hb3:=(f3.block b (Array.getElem?_eq_some_iff.1 HBX2.out).1 HNB2.out).trans HBX2.out
   have HF3:=hid f3
   have HN3:=hid n3
   have H3:=hid i3
   have HC0'':Hid (w'.cell? ⟨b,0,none⟩=some (vU id)):=hid (blkI hb3 0 _ rfl)
   have HC5'':Hid (w'.cell? ⟨b,5,none⟩=some (vU tok)):=hid (blkI hb3 5 _ rfl)
   have HK17'':Hid (w'.cell? ⟨p,17,none⟩=some (.map (some x3.mh))):=hid (i3.cells 17 _ rfl)
   clear f3 n3 i3 hb3 HP
   obtain⟨W3,hW3⟩:∃W,w'=W:=⟨_,rfl⟩
   rw[hW3] at HF3 H3 HC0'' HC5'' HK17''⊢
   clear hW3
   go_wp2_with fail
   refine ParE.wp_region_e (l:=[_,_,_,_,_,_,_,_,_,_]) rfl (Rg.Ch [9] [] (OneQ W3 fun w'=>XStp B W3 p x3 {putI q ⟨id,(n:Int),3,ct,due,tok,turn,sg,ps,size⟩ with wat:=putW q.wat id due,hld:=(tok,id)::noK q.hld tok} w')) (ParC.VC [ParC.EQ (pv p),ParC.EQ (pv p),ParC.EQ (Value.pointer (some ⟨p,17,none⟩)),ParC.EQ (Value.map (some x3.mh)),ParC.EQ (Value.pointer (some ⟨b,2,none⟩)),ParC.EQ (Value.pointer (some ⟨b,5,none⟩)),ParC.EQ (vU tok),ParC.EQ (Value.pointer (some ⟨b,0,none⟩)),ParC.EQ (vU id),fun _=>True]) (by kernel_rfl) (by kernel_rfl) (Rg.Ch.start ⟨fun _=>Ext.draw _,trivial⟩) ?_ ?_
   · refine⟨fun L ρ w' hR hC hL hd hk=> ?_,?_⟩
     · obtain⟨(e0:ρ (.tmp 0)=pv p),-⟩:=hk;refine Par.val_k fun K hK=> ?_;unfold Par.val
       (go_simp;exact hK _ _ ⟨hR.other (by decide),rfl⟩)
     refine⟨fun L ρ w' hR hC hL hd hk=> ?_,?_⟩
     · obtain⟨(e0:ρ (.tmp 50)=pv p),-⟩:=hk;refine Par.val_k fun K hK=> ?_;unfold Par.val
       (go_simp;exact hK _ _ ⟨hR.other (by decide),rfl⟩)
     refine⟨fun _ _ _ hR _ _ _ hk=>Par.pv [(51,pv p)] hk (by kernel_rfl) ⟨hR.other (by decide),rfl⟩,?_⟩
     refine⟨fun L ρ w' hR hC hL hd hk=> ?_,?_⟩
     · obtain⟨(e0:ρ (.tmp 52)=Value.pointer (some ⟨p,17,none⟩)),-⟩:=hk;refine Par.val_k fun K hK=> ?_;unfold Par.val
       (obtain⟨i,hi,hq⟩:=hR.some 0 rfl (hC.notyet 9 3 hL (by kernel_rfl));have hx:=hq.1 (by omega);have cc:=hx.cell HK17''.out;go_simp;exact hK _ _ ⟨hR.other (by decide),rfl⟩)
     refine⟨fun _ _ _ hR _ _ _ hk=>Par.pv [(3,pv b)] hk (by kernel_rfl) ⟨hR.other (by decide),rfl⟩,?_⟩
     refine⟨fun _ _ _ hR _ _ _ hk=>Par.pv [(54,Value.pointer (some ⟨b,2,none⟩))] hk (by kernel_rfl) ⟨hR.other (by decide),rfl⟩,?_⟩
     refine⟨fun L ρ w' hR hC hL hd hk=> ?_,?_⟩
     · obtain⟨(e0:ρ (.tmp 55)=Value.pointer (some ⟨b,5,none⟩)),-⟩:=hk;refine Par.val_k fun K hK=> ?_;unfold Par.val
       (obtain⟨i,hi,hq⟩:=hR.some 0 rfl (hC.notyet 9 6 hL (by kernel_rfl));have hx:=hq.1 (by omega);have cc:=hx.cell HC5''.out;go_simp;exact hK _ _ ⟨hR.other (by decide),rfl⟩)
     refine⟨fun _ _ _ hR _ _ _ hk=>Par.pv [(3,pv b)] hk (by kernel_rfl) ⟨hR.other (by decide),rfl⟩,?_⟩
     refine⟨fun L ρ w' hR hC hL hd hk=> ?_,?_⟩
     · obtain⟨(e0:ρ (.tmp 57)=Value.pointer (some ⟨b,0,none⟩)),-⟩:=hk;refine Par.val_k fun K hK=> ?_;unfold Par.val
       (obtain⟨i,hi,hq⟩:=hR.some 0 rfl (hC.notyet 9 8 hL (by kernel_rfl));have hx:=hq.1 (by omega);have cc:=hx.cell HC0''.out;go_simp;exact hK _ _ ⟨hR.other (by decide),rfl⟩)
     refine⟨fun L ρ w' hR hC hL hd hk=> ?_,?_⟩
     · obtain⟨(e0:ρ (.tmp 53)=Value.map (some x3.mh)),(e1:ρ (.tmp 56)=vU tok),(e2:ρ (.tmp 58)=vU id),-⟩:=hk;refine Par.val_k fun K hK=> ?_;unfold Par.val
       (obtain⟨hq,hs⟩:=hR.go 0 rfl hL (.inl rfl) (by decide);have hx:=hq.1 (by decide);obtain⟨w2,hrun,hp⟩:=hldPut_at (H3.out.ext hx) tok id HW.out.hl;have hp2:=hid (hp.pre hx);clear hp;go_simp;exact hK _ _ ⟨hs none _ _ ⟨fun h=>absurd h (by decide),hp2.out⟩,trivial⟩)
     trivial
   intro a' w' inv hR
   have hq:=Par.donesC inv;simp only[Par.donesV,ParC.EQ,true_and,and_true] at hq
   clear inv
   simp only[List.filterMap_cons,List.filterMap_nil,Par.putAll,Act.put,List.setIfInBounds_toArray,List.set_cons_succ,List.set_cons_zero,hq]
   clear hq
   have hp:=(Rg.Ch.fin hR (by decide) 1 rfl).2;have HPB:=hid hp;clear hp hR
   try clear a'
   go_wp2
   go_returns
   exact⟨⟨_,rfl⟩,((XStp.then HF2.out HN2.out (XStp.then HF3.out HN3.out HPB.out)).pre HE1.out).congr (enterQ3 q ⟨id,(n:Int),3,ct,due,tok,turn,sg,ps,size⟩ rfl).symm⟩
 by_cases e4:st=4
 · subst e4
   have c2:=HC2'.out
   go_wp2_with fail
   refine ParE.wp_region_e (l:=[_,_,_,_,_,_,_]) rfl (Rg.Ch [6] [] (OneQ W2 fun w'=>XStp B W2 p x2 {putI q ⟨id,(n:Int),4,ct,due,tok,turn,sg,ps,size⟩ with dd:=(addD q.dd id).2} w')) (ParC.VC [ParC.EQ (pv p),ParC.EQ (pv p),ParC.EQ (Value.pointer (some ⟨p,18,none⟩)),ParC.EQ (pv x2.dp),ParC.EQ (Value.pointer (some ⟨b,0,none⟩)),ParC.EQ (vU id),ParC.EQ (Value.bool (addD q.dd id).1)]) (by kernel_rfl) (by kernel_rfl) (Rg.Ch.start ⟨fun _=>Ext.draw _,trivial⟩) ?_ ?_
   · refine⟨fun L ρ w' hR hC hL hd hk=> ?_,?_⟩
     · obtain⟨(e0:ρ (.tmp 0)=pv p),-⟩:=hk;refine Par.val_k fun K hK=> ?_;unfold Par.val
       (go_simp;exact hK _ _ ⟨hR.other (by decide),rfl⟩)
     refine⟨fun L ρ w' hR hC hL hd hk=> ?_,?_⟩
     · obtain⟨(e0:ρ (.tmp 61)=pv p),-⟩:=hk;refine Par.val_k fun K hK=> ?_;unfold Par.val
       (go_simp;exact hK _ _ ⟨hR.other (by decide),rfl⟩)
     refine⟨fun _ _ _ hR _ _ _ hk=>Par.pv [(62,pv p)] hk (by kernel_rfl) ⟨hR.other (by decide),rfl⟩,?_⟩
     refine⟨fun L ρ w' hR hC hL hd hk=> ?_,?_⟩
     · obtain⟨(e0:ρ (.tmp 63)=Value.pointer (some ⟨p,18,none⟩)),-⟩:=hk;refine Par.val_k fun K hK=> ?_;unfold Par.val
       (obtain⟨i,hi,hq⟩:=hR.some 0 rfl (hC.notyet 6 3 hL (by kernel_rfl));have hx:=hq.1 (by omega);have cc:=hx.cell HK18'.out;go_simp;exact hK _ _ ⟨hR.other (by decide),rfl⟩)
     refine⟨fun _ _ _ hR _ _ _ hk=>Par.pv [(3,pv b)] hk (by kernel_rfl) ⟨hR.other (by decide),rfl⟩,?_⟩
     refine⟨fun L ρ w' hR hC hL hd hk=> ?_,?_⟩
     · obtain⟨(e0:ρ (.tmp 65)=Value.pointer (some ⟨b,0,none⟩)),-⟩:=hk;refine Par.val_k fun K hK=> ?_;unfold Par.val
       (obtain⟨i,hi,hq⟩:=hR.some 0 rfl (hC.notyet 6 5 hL (by kernel_rfl));have hx:=hq.1 (by omega);have cc:=hx.cell HC0'.out;go_simp;exact hK _ _ ⟨hR.other (by decide),rfl⟩)
     refine⟨fun L ρ w' hR hC hL hd hk=> ?_,?_⟩
     · obtain⟨e0,(e1:ρ (.tmp 64)=pv x2.dp),(e2:ρ (.tmp 66)=vU id),-⟩:=hk;refine Par.val_k fun K hK=> ?_;unfold Par.val
       (obtain⟨hq,hs⟩:=hR.go 0 rfl hL (.inl rfl) (by decide);have hx:=hq.1 (by decide);refine Par.val_call Tryz.func168 (by kernel_rfl) rfl e0 ?_;simp only[List.map_toArray,List.map_cons,List.map_nil,e1,e2];refine(dedAdd_at (H2.out.ext hx) (Nat.le_trans HB2.out hx.size) id HW.out.dl).mono ?_;rintro e w2 ⟨rfl,hp⟩;exact⟨_,rfl,hK _ _ ⟨hs _ _ _ ⟨fun h=>absurd h (by decide),hp.pre hx⟩,rfl⟩⟩)
     trivial
   intro a' w' inv hR
   have hq:=Par.donesC inv;simp only[Par.donesV,ParC.EQ,true_and,and_true] at hq
   clear inv
   simp only[List.filterMap_cons,List.filterMap_nil,Par.putAll,Act.put,List.setIfInBounds_toArray,List.set_cons_succ,List.set_cons_zero,hq]
   clear hq
   have hp:=(Rg.Ch.fin hR (by decide) 1 rfl).2;have HP:=hid hp;clear hp hR
   try clear a'
   go_wp2
   go_returns
   exact⟨⟨_,rfl⟩,((XStp.then HF2.out HN2.out HP.out).pre HE1.out).congr (enterQ4 q ⟨id,(n:Int),4,ct,due,tok,turn,sg,ps,size⟩ rfl).symm⟩
 by_cases e5:st=5
 · subst e5
   have c2:=HC2'.out
   go_wp2_with fail
   refine ParE.wp_region_e (l:=[_,_,_,_,_,_,_]) rfl (Rg.Ch [6] [] (OneQ W2 fun w'=>XStp B W2 p x2 {q with its:=noK ((id,⟨id,(n:Int),5,ct,due,tok,turn,sg,ps,size⟩)::noK q.its id) id} w')) (ParC.VC [ParC.EQ (pv p),ParC.EQ (pv p),ParC.EQ (Value.pointer (some ⟨p,7,none⟩)),ParC.EQ (Value.map (some x2.mi)),ParC.EQ (Value.pointer (some ⟨b,0,none⟩)),ParC.EQ (vU id),fun _=>True]) (by kernel_rfl) (by kernel_rfl) (Rg.Ch.start ⟨fun _=>Ext.draw _,trivial⟩) ?_ ?_
   · refine⟨fun L ρ w' hR hC hL hd hk=> ?_,?_⟩
     · obtain⟨(e0:ρ (.tmp 0)=pv p),-⟩:=hk;refine Par.val_k fun K hK=> ?_;unfold Par.val
       (go_simp;exact hK _ _ ⟨hR.other (by decide),rfl⟩)
     refine⟨fun L ρ w' hR hC hL hd hk=> ?_,?_⟩
     · obtain⟨(e0:ρ (.tmp 70)=pv p),-⟩:=hk;refine Par.val_k fun K hK=> ?_;unfold Par.val
       (go_simp;exact hK _ _ ⟨hR.other (by decide),rfl⟩)
     refine⟨fun _ _ _ hR _ _ _ hk=>Par.pv [(71,pv p)] hk (by kernel_rfl) ⟨hR.other (by decide),rfl⟩,?_⟩
     refine⟨fun L ρ w' hR hC hL hd hk=> ?_,?_⟩
     · obtain⟨(e0:ρ (.tmp 72)=Value.pointer (some ⟨p,7,none⟩)),-⟩:=hk;refine Par.val_k fun K hK=> ?_;unfold Par.val
       (obtain⟨i,hi,hq⟩:=hR.some 0 rfl (hC.notyet 6 3 hL (by kernel_rfl));have hx:=hq.1 (by omega);have cc:=hx.cell HK7'.out;go_simp;exact hK _ _ ⟨hR.other (by decide),rfl⟩)
     refine⟨fun _ _ _ hR _ _ _ hk=>Par.pv [(3,pv b)] hk (by kernel_rfl) ⟨hR.other (by decide),rfl⟩,?_⟩
     refine⟨fun L ρ w' hR hC hL hd hk=> ?_,?_⟩
     · obtain⟨(e0:ρ (.tmp 74)=Value.pointer (some ⟨b,0,none⟩)),-⟩:=hk;refine Par.val_k fun K hK=> ?_;unfold Par.val
       (obtain⟨i,hi,hq⟩:=hR.some 0 rfl (hC.notyet 6 5 hL (by kernel_rfl));have hx:=hq.1 (by omega);have cc:=hx.cell HC0'.out;go_simp;exact hK _ _ ⟨hR.other (by decide),rfl⟩)
     refine⟨fun L ρ w' hR hC hL hd hk=> ?_,?_⟩
     · obtain⟨(e0:ρ (.tmp 73)=Value.map (some x2.mi)),(e1:ρ (.tmp 75)=vU id),-⟩:=hk;refine Par.val_k fun K hK=> ?_;unfold Par.val
       (obtain⟨hq,hs⟩:=hR.go 0 rfl hL (.inl rfl) (by decide);have hx:=hq.1 (by decide);obtain⟨w2,hrun,hp⟩:=itsDel_at (H2.out.ext hx) id 0;have hp2:=hid (hp.pre hx);clear hp;go_simp;exact hK _ _ ⟨hs none _ _ ⟨fun h=>absurd h (by decide),hp2.out⟩,trivial⟩)
     trivial
   intro a' w' inv hR
   have hq:=Par.donesC inv;simp only[Par.donesV,ParC.EQ,true_and,and_true] at hq
   clear inv
   simp only[List.filterMap_cons,List.filterMap_nil,Par.putAll,Act.put,List.setIfInBounds_toArray,List.set_cons_succ,List.set_cons_zero,hq]
   clear hq
   have hp:=(Rg.Ch.fin hR (by decide) 1 rfl).2;have HP:=hid hp;clear hp hR
   try clear a'
   go_wp2
   go_returns
   exact⟨⟨_,rfl⟩,((XStp.then HF2.out HN2.out HP.out).pre HE1.out).congr (enterQ5 q ⟨id,(n:Int),5,ct,due,tok,turn,sg,ps,size⟩ rfl).symm⟩
 have hs1:(st==(1:Int))=false:=by simpa using e1
 have hs2:(st==(2:Int))=false:=by simpa using e2
 have hs3:(st==(3:Int))=false:=by simpa using e3
 have hs4:(st==(4:Int))=false:=by simpa using e4
 have hs5:(st==(5:Int))=false:=by simpa using e5
 have c2:=HC2'.out
 go_wp2
 go_returns
 exact⟨⟨_,rfl⟩,((XStp.then HF2.out HN2.out (XStp.same H2.out (Ext.refl _))).pre HE1.out).congr (by unfold enterQ;rw[if_neg e1,if_neg e2,if_neg e3,if_neg e4,if_neg e5])⟩
end Go.Proofs.YtcfgafododiioaaGreatDoor
