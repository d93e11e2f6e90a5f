/- Texts of a claim, side by side. -/
import Derived.Test.YtcfgafododiioaaGreatDoorC11
import Derived.Test.YtcfgafododiioaaGreatDoorC24
set_option linter.unusedSimpArgs false
set_option linter.unusedVariables false
set_option maxRecDepth 100000
namespace Go.Proofs.YtcfgafododiioaaGreatDoor
open Go Go.RowKit Go.Tum Go.ChangeMaps
open Go.ParB (upd Lof)
open Go.ParE (putS slotsR slots Closed)
theorem tickL_none {k:Nat} {q:QR} (h:leastI (dueI q)=none):tickL k q=(0,q):=by
 cases k with
 |zero=>rfl
 |succ k=>unfold tickL;rw[h]
theorem tickL_some {k:Nat} {q:QR} {z:It} (h:leastI (dueI q)=some z):tickL (k+1) q=((tickL k (becQ q z (passL z.l q.now.toNat q.del))).1+1,(tickL k (becQ q z (passL z.l q.now.toNat q.del))).2):=by
 conv=>lhs;unfold tickL
 rw[h]
theorem dueI_len {q:QR} (h:WQ q):(dueI q).length≤200:=Nat.le_trans (List.length_filter_le _ _) (by rw[List.length_map];exact h.ln)
theorem tick_round {q:QR} {z:It} (hq:WQ q) (hz:leastI (dueI q)=some z) (hb:q.turns.toNat<18446744073709551615):
 look q z.id=some z∧(z.st=2∨z.st=3)∧WQ (becQ q z (passL z.l q.now.toNat q.del))∧(becQ q z (passL z.l q.now.toNat q.del)).turns.toNat≤q.turns.toNat+1∧(dueI (becQ q z (passL z.l q.now.toNat q.del))).length+1=(dueI q).length:=by
 have hm:=(leastI_some hz).1
 obtain⟨h1,h2,h3⟩:=due_in hq hm
 obtain⟨a1,a2,a3,a4,a5,a6,a7⟩:=becQ_same q z (passL z.l q.now.toNat q.del)
 refine⟨h1,h2,hq.pass h1 h2 h3 hb,?_,due_less hq hm⟩
 rw[a7]
 split
 · rw[UInt64.toNat_add,show(1:UInt64).toNat=1 from rfl];omega
 · omega
theorem u64_subC (x:UInt64):IntKind.u64.wrap (18446744073709551615 - (x.toNat:Int))=((18446744073709551615 - x:UInt64).toNat:Int):=by
 have h:=x.toNat_lt
 rw[UInt64.toNat_sub_of_le _ _ (by rw[UInt64.le_iff_toNat_le];show _≤18446744073709551615;omega)]
 simp only[IntKind.wrap,IntKind.signed,IntKind.bits,IntKind.min,IntKind.max]
 show _=((18446744073709551615 - x.toNat:Nat):Int)
 simp
 omega
theorem fr_then2 {w wr w':World} {p:Nat} {x xr:XP} (hF:Fr (x.blk p) w wr∧∀a∈xr.blk p,a∈x.blk p∨w.heap.size≤a) (f:Fr (xr.blk p) wr w'):Fr (x.blk p) w w':=by
 refine(fr_cat hF.1 f).wider fun a ha=> ?_
 rcases List.mem_append.1 ha with e|e
 · exact .inl e
 · exact hF.2 a e
theorem tickQ_over {q:QR} {n:UInt64} (h:18446744073709551615 - q.now<n):tickQ q n=(0,10,q):=by unfold tickQ;rw[if_pos h]
theorem tickQ_ok {q:QR} {n:UInt64} (h:¬18446744073709551615 - q.now<n):tickQ q n=((tickL 201 {q with now:=q.now+n}).1,0,(tickL 201 {q with now:=q.now+n}).2):=by unfold tickQ;rw[if_neg h]
theorem over_dec {q:QR} {n SV:UInt64} (hs:18446744073709551615 - q.now=SV):decide (SV.toNat<n.toNat)=decide (18446744073709551615 - q.now<n):=by
 rw[hs]
 exact decide_eq_decide.2 UInt64.lt_iff_toNat_lt.symm
theorem next_i64 {m:Nat} (h:m≤200):Value.int .i64 (wrap64 ((m:Int)+1))= .int .i64 ((m+1:Nat):Int):=by
 rw[wrap_small (Int.natCast_nonneg m) (by omega),Int.natCast_add]
 rfl
theorem next_less {m:Nat} (h:m≤200):201 - (intOf (Value.int .i64 (wrap64 ((m:Int)+1)))).toNat<201 - (intOf (Value.int .i64 (m:Int))).toNat:=by
 rw[next_i64 h]
 simp only[intOf,Int.toNat_natCast]
 omega
structure TkR (RN:Nat) (RQ:QR) (m:Nat) (q:QR):Prop where
 le:m≤200
 nn:(tickL (201 - m) q).1+m=RN
 qq:(tickL (201 - m) q).2=RQ
 du:(dueI q).length+m≤200
 tu:q.turns.toNat+(201 - m)<18446744073709551615
theorem TkR.start {RN:Nat} {RQ q:QR} (hw:WQ q) (hb:q.turns.toNat+201<18446744073709551615) (h:tickL 201 q=(RN,RQ)):TkR RN RQ 0 q:=by
 obtain⟨F,hF⟩:∃F,F=201:=⟨_,rfl⟩
 rw[←hF] at h hb
 refine⟨by omega,?_,?_,by have:=dueI_len hw;omega,by omega⟩
 · rw[show 201 - 0=F by omega,h];rfl
 · rw[show 201 - 0=F by omega,h]
theorem TkR.done {RN m:Nat} {RQ q:QR} (h:TkR RN RQ m q) (hz:leastI (dueI q)=none):RN=m∧RQ=q:=by
 have h2:=h.nn
 have h3:=h.qq
 rw[tickL_none hz] at h2 h3
 exact⟨by rw[←h2];simp,h3.symm⟩
theorem TkR.next {RN m:Nat} {RQ q:QR} {z:It} (h:TkR RN RQ m q) (hq:WQ q) (hz:leastI (dueI q)=some z):TkR RN RQ (m+1) (becQ q z (passL z.l q.now.toNat q.del)):=by
 have h1:=h.le
 have h2:=h.nn
 have h3:=h.qq
 have h4:=h.du
 have h5:=h.tu
 obtain⟨-,-,-,k4,k5⟩:=tick_round hq hz (by omega)
 have e201:201 - m=200 - m+1:=by omega
 have e200:201 - (m+1)=200 - m:=by omega
 rw[e201,tickL_some hz] at h2 h3
 refine⟨by omega,by rw[e200];dsimp only at h2;omega,by rw[e200];exact h3,by omega,by omega⟩
set_option maxHeartbeats 2000000 in
theorem tick_any11 {B:Nat} {w:World} {p:Nat} {x:XP} {q:QR} (n:UInt64) (h:IX B w p x q) (hB:B≤w.heap.size) (hq:WQ q) (hb:q.turns.toNat+201<18446744073709551615):
 Calls Tryz.prog 34 #[pv p,vU n] w fun e w'=>e= .returned (.tuple #[.int .i64 ((tickQ q n).1:Nat),.int .i64 (tickQ q n).2.1])∧XStp B w p x (tickQ q n).2.2 w':=by
 have c3:=h.cells 3 (vU q.now) rfl
 have f3:=h.froz 3
 have hsub:IntKind.u64.wrap (18446744073709551615 - (q.now.toNat:Int))=((18446744073709551615 - q.now:UInt64).toNat:Int):=u64_subC q.now
 obtain⟨SV,hSV⟩:∃s,(18446744073709551615 - q.now:UInt64)=s:=⟨_,rfl⟩
 have hd0:=over_dec (n:=n) hSV
 rw[hSV] at hsub
 by_cases ho:18446744073709551615 - q.now<n
 · rw[tickQ_over ho]
   rw[decide_eq_true ho] at hd0
   have H:=hid h
   clear h hB hq hb ho hSV
   go_enter Tryz.func34,Tryz.ntmps34
   go_wp2
   go_returns
   exact⟨rfl,XStp.same H.out (Ext.refl _)⟩
 rw[decide_eq_false ho] at hd0
 rw[tickQ_ok ho]
 have hadd:=u64_add q.now n
 obtain⟨w1,hW1⟩:∃W,w.setCell ⟨p,3,none⟩ (vU (q.now+n))=W:=⟨_,rfl⟩
 have hx1:XStp B w p x {q with now:=q.now+n} w1:=by rw[←hW1];exact XStp.own h _ 3 (vU (q.now+n)) rfl rfl rfl rfl rfl rfl
 have hw1:WQ {q with now:=q.now+n}:=hq.clock _
 have hb1:({q with now:=q.now+n}:QR).turns.toNat+201<18446744073709551615:=hb
 obtain⟨q1,hq1⟩:∃q1,({q with now:=q.now+n}:QR)=q1:=⟨_,rfl⟩
 rw[hq1] at hx1 hw1 hb1⊢
 obtain⟨⟨RN,RQ⟩,hRR⟩:∃r,tickL 201 q1=r:=⟨_,rfl⟩
 have hT:=TkR.start hw1 hb1 hRR
 rw[hRR]
 obtain⟨NV,hNV⟩:∃s,q.now+n=s:=⟨_,rfl⟩
 rw[hNV] at hadd hW1
 clear hNV
 have HX1:=hid hx1
 have HB0:=hid hB
 have H0:=hid h
 have HW1:=hid hw1
 have HT1:=hid hT
 clear h hB hq hb ho hq1 hRR hw1 hb1 hx1 hT hSV
 go_enter Tryz.func34,Tryz.ntmps34
 go_wp2
 clear hd0 hsub c3 f3 hadd hW1
 go_loopw [6] (fun i wr=>∃(m:Nat) (xr:XP) (qr:QR),i= .int .i64 m∧Hid (IX B wr p xr qr)∧Hid (WQ qr)∧Hid (TkR RN RQ m qr)∧Hid (Fr (x.blk p) w wr∧∀a∈xr.blk p,a∈x.blk p∨w.heap.size≤a)) (fun i _=>201 - (intOf i).toNat)
 case atStart=>
  obtain⟨x1,i1,f1,n1⟩:=HX1.out
  exact⟨0,x1,q1,rfl,hid i1,HW1,HT1,hid ⟨f1,n1⟩⟩
 case round=>
  obtain⟨m,xr,qr,rfl,HI,HWQ,HT,HF⟩:=hrel
  have HBR:Hid (B≤wr.heap.size):=hid (Nat.le_trans HB0.out HF.out.1.size)
  have C16:=hid (HI.out.cells 16 (pv xr.hp) rfl)
  have C3:=hid (HI.out.cells 3 (vU qr.now) rfl)
  cases hz:leastI (dueI qr) with
  |none=>
   have HZ:=hid hz
   clear hz
   go_wp2_with fail
   refine ParE.wp_region_e (l:=[_,_,_,_,_,_,_,_,_,_,_,_,_,_,_,_]) rfl (Rg.Ch [8] [] (OneQ wr fun w'=>Ext wr w')) (ParC.VC [ParC.EQ (pv p),ParC.EQ (pv p),ParC.EQ (Value.pointer (some ⟨p,16,none⟩)),ParC.EQ (pv xr.hp),ParC.EQ (pv p),ParC.EQ (pv p),ParC.EQ (Value.pointer (some ⟨p,3,none⟩)),ParC.EQ (vU qr.now),ParC.EQ (.tuple #[.int .u64 0,.int .u64 0,.bool false]),ParC.EQ (.tuple #[.int .u64 0,.int .u64 0,.bool false]),ParC.EQ (Value.int .u64 0),ParC.EQ (Value.int .u64 0),ParC.EQ (Value.bool false),ParC.EQ (Value.int .u64 0),ParC.EQ (Value.int .u64 0),ParC.EQ (Value.bool false)]) (by kernel_rfl) (by kernel_rfl) (Rg.Ch.start ⟨fun _=>Ext.draw _,trivial⟩) ?_ ?_
   · refine⟨fun L ρ w' hR hC hL hd hk=> ?_,?_⟩
     · obtain⟨(e0:ρ (.tmp 0)=pv p),-⟩:=hk;refine Par.val_k fun K hK=> ?_;unfold Par.val
       (go_simp;exact hK _ _ ⟨hR.other (by decide),rfl⟩)
     refine⟨fun L ρ w' hR hC hL hd hk=> ?_,?_⟩
     · obtain⟨(e0:ρ (.tmp 27)=pv p),-⟩:=hk;refine Par.val_k fun K hK=> ?_;unfold Par.val
       (go_simp;exact hK _ _ ⟨hR.other (by decide),rfl⟩)
     refine⟨fun _ _ _ hR _ _ _ hk=>Par.pv [(28,pv p)] hk (by kernel_rfl) ⟨hR.other (by decide),rfl⟩,?_⟩
     refine⟨fun L ρ w' hR hC hL hd hk=> ?_,?_⟩
     · obtain⟨(e0:ρ (.tmp 29)=Value.pointer (some ⟨p,16,none⟩)),-⟩:=hk;refine Par.val_k fun K hK=> ?_;unfold Par.val
       (obtain⟨i,hi,hq⟩:=hR.some 0 rfl (hC.notyet 8 3 hL (by kernel_rfl));have hx:=hq.1 (by omega);have cc:=hx.cell C16.out;go_simp;exact hK _ _ ⟨hR.other (by decide),rfl⟩)
     refine⟨fun L ρ w' hR hC hL hd hk=> ?_,?_⟩
     · obtain⟨(e0:ρ (.tmp 0)=pv p),-⟩:=hk;refine Par.val_k fun K hK=> ?_;unfold Par.val
       (go_simp;exact hK _ _ ⟨hR.other (by decide),rfl⟩)
     refine⟨fun L ρ w' hR hC hL hd hk=> ?_,?_⟩
     · obtain⟨(e0:ρ (.tmp 31)=pv p),-⟩:=hk;refine Par.val_k fun K hK=> ?_;unfold Par.val
       (go_simp;exact hK _ _ ⟨hR.other (by decide),rfl⟩)
     refine⟨fun _ _ _ hR _ _ _ hk=>Par.pv [(32,pv p)] hk (by kernel_rfl) ⟨hR.other (by decide),rfl⟩,?_⟩
     refine⟨fun L ρ w' hR hC hL hd hk=> ?_,?_⟩
     · obtain⟨(e0:ρ (.tmp 33)=Value.pointer (some ⟨p,3,none⟩)),-⟩:=hk;refine Par.val_k fun K hK=> ?_;unfold Par.val
       (obtain⟨i,hi,hq⟩:=hR.some 0 rfl (hC.notyet 8 7 hL (by kernel_rfl));have hx:=hq.1 (by omega);have cc:=hx.cell C3.out;go_simp;exact hK _ _ ⟨hR.other (by decide),rfl⟩)
     refine⟨fun L ρ w' hR hC hL hd hk=> ?_,?_⟩
     · obtain⟨e0,(e1:ρ (.tmp 30)=pv xr.hp),(e2:ρ (.tmp 34)=vU qr.now),-⟩:=hk;refine Par.val_k fun K hK=> ?_;unfold Par.val
       (obtain⟨hq,hs⟩:=hR.go 0 rfl hL (.inl rfl) (by decide);have hx:=hq.1 (by decide);refine Par.val_call Tryz.func79 (by kernel_rfl) rfl e0 ?_;simp only[List.map_toArray,List.map_cons,List.map_nil,e1,e2];refine(dueTake_none (HI.out.ext hx) (Nat.le_trans HBR.out hx.size) HWQ.out HZ.out).mono ?_;rintro e w2 ⟨rfl,hp⟩;exact⟨_,rfl,hK _ _ ⟨hs _ _ _ ⟨fun h=>absurd h (by decide),hx.trans hp⟩,rfl⟩⟩)
     refine⟨fun L ρ w' hR hC hL hd hk=> ?_,?_⟩
     · obtain⟨(e0:ρ (.tmp 35)= .tuple #[.int .u64 0,.int .u64 0,.bool false]),-⟩:=hk;refine Par.val_k fun K hK=> ?_;unfold Par.val
       (go_simp;exact hK _ _ ⟨hR.other (by decide),rfl⟩)
     refine⟨fun _ _ _ hR _ _ _ hk=>Par.pv [(26,.tuple #[.int .u64 0,.int .u64 0,.bool false])] hk (by kernel_rfl) ⟨hR.other (by decide),rfl⟩,?_⟩
     refine⟨fun _ _ _ hR _ _ _ hk=>Par.pv [(26,.tuple #[.int .u64 0,.int .u64 0,.bool false])] hk (by kernel_rfl) ⟨hR.other (by decide),rfl⟩,?_⟩
     refine⟨fun _ _ _ hR _ _ _ hk=>Par.pv [(26,.tuple #[.int .u64 0,.int .u64 0,.bool false])] hk (by kernel_rfl) ⟨hR.other (by decide),rfl⟩,?_⟩
     refine⟨fun L ρ w' hR hC hL hd hk=> ?_,?_⟩
     · obtain⟨(e0:ρ (.tmp 36)=Value.int .u64 0),-⟩:=hk;refine Par.val_k fun K hK=> ?_;unfold Par.val
       (go_simp;exact hK _ _ ⟨hR.other (by decide),rfl⟩)
     refine⟨fun L ρ w' hR hC hL hd hk=> ?_,?_⟩
     · obtain⟨(e0:ρ (.tmp 37)=Value.int .u64 0),-⟩:=hk;refine Par.val_k fun K hK=> ?_;unfold Par.val
       (go_simp;exact hK _ _ ⟨hR.other (by decide),rfl⟩)
     refine⟨fun L ρ w' hR hC hL hd hk=> ?_,?_⟩
     · obtain⟨(e0:ρ (.tmp 38)=Value.bool false),-⟩:=hk;refine Par.val_k fun K hK=> ?_;unfold Par.val
       (go_simp;exact hK _ _ ⟨hR.other (by decide),rfl⟩)
     trivial
   intro a' w' inv hR
   have hq:=Par.donesC inv;simp only[Par.donesV,ParC.EQ,true_and,and_true] at hq
   clear inv
   simp only[List.filterMap_cons,List.filterMap_nil,Par.putAll,Act.put,List.setIfInBounds_toArray,List.set_cons_succ,List.set_cons_zero,hq]
   clear hq
   have hp:=(Rg.Ch.fin hR (by decide) 1 rfl).2;have HP:=hid hp;clear hp hR
   try clear a'
   go_wp2
   go_returns
   obtain⟨rfl,rfl⟩:=HT.out.done HZ.out
   refine⟨rfl,?_⟩
   exact XStp.then HF.out.1 HF.out.2 (XStp.same HI.out HP.out)
  |some z=>
   obtain⟨id,la,st,ct,du,tk,tu,sg,ps,sz⟩:=z
   have HZ:=hid hz
   clear hz
   go_wp2_with fail
   refine ParE.wp_region_e (l:=[_,_,_,_,_,_,_,_,_,_,_,_,_,_,_,_]) rfl (Rg.Ch [8] [] (OneQ wr fun w'=>XStp B wr p xr {qr with wat:=delF qr.wat id} w')) (ParC.VC [ParC.EQ (pv p),ParC.EQ (pv p),ParC.EQ (Value.pointer (some ⟨p,16,none⟩)),ParC.EQ (pv xr.hp),ParC.EQ (pv p),ParC.EQ (pv p),ParC.EQ (Value.pointer (some ⟨p,3,none⟩)),ParC.EQ (vU qr.now),ParC.EQ (.tuple #[vU id,vU du,.bool true]),ParC.EQ (.tuple #[vU id,vU du,.bool true]),ParC.EQ (vU id),ParC.EQ (vU du),ParC.EQ (Value.bool true),ParC.EQ (vU id),ParC.EQ (vU du),ParC.EQ (Value.bool true)]) (by kernel_rfl) (by kernel_rfl) (Rg.Ch.start ⟨fun _=>Ext.draw _,trivial⟩) ?_ ?_
   · refine⟨fun L ρ w' hR hC hL hd hk=> ?_,?_⟩
     · obtain⟨(e0:ρ (.tmp 0)=pv p),-⟩:=hk;refine Par.val_k fun K hK=> ?_;unfold Par.val
       (go_simp;exact hK _ _ ⟨hR.other (by decide),rfl⟩)
     refine⟨fun L ρ w' hR hC hL hd hk=> ?_,?_⟩
     · obtain⟨(e0:ρ (.tmp 27)=pv p),-⟩:=hk;refine Par.val_k fun K hK=> ?_;unfold Par.val
       (go_simp;exact hK _ _ ⟨hR.other (by decide),rfl⟩)
     refine⟨fun _ _ _ hR _ _ _ hk=>Par.pv [(28,pv p)] hk (by kernel_rfl) ⟨hR.other (by decide),rfl⟩,?_⟩
     refine⟨fun L ρ w' hR hC hL hd hk=> ?_,?_⟩
     · obtain⟨(e0:ρ (.tmp 29)=Value.pointer (some ⟨p,16,none⟩)),-⟩:=hk;refine Par.val_k fun K hK=> ?_;unfold Par.val
       (obtain⟨i,hi,hq⟩:=hR.some 0 rfl (hC.notyet 8 3 hL (by kernel_rfl));have hx:=hq.1 (by omega);have cc:=hx.cell C16.out;go_simp;exact hK _ _ ⟨hR.other (by decide),rfl⟩)
     refine⟨fun L ρ w' hR hC hL hd hk=> ?_,?_⟩
     · obtain⟨(e0:ρ (.tmp 0)=pv p),-⟩:=hk;refine Par.val_k fun K hK=> ?_;unfold Par.val
       (go_simp;exact hK _ _ ⟨hR.other (by decide),rfl⟩)
     refine⟨fun L ρ w' hR hC hL hd hk=> ?_,?_⟩
     · obtain⟨(e0:ρ (.tmp 31)=pv p),-⟩:=hk;refine Par.val_k fun K hK=> ?_;unfold Par.val
       (go_simp;exact hK _ _ ⟨hR.other (by decide),rfl⟩)
     refine⟨fun _ _ _ hR _ _ _ hk=>Par.pv [(32,pv p)] hk (by kernel_rfl) ⟨hR.other (by decide),rfl⟩,?_⟩
     refine⟨fun L ρ w' hR hC hL hd hk=> ?_,?_⟩
     · obtain⟨(e0:ρ (.tmp 33)=Value.pointer (some ⟨p,3,none⟩)),-⟩:=hk;refine Par.val_k fun K hK=> ?_;unfold Par.val
       (obtain⟨i,hi,hq⟩:=hR.some 0 rfl (hC.notyet 8 7 hL (by kernel_rfl));have hx:=hq.1 (by omega);have cc:=hx.cell C3.out;go_simp;exact hK _ _ ⟨hR.other (by decide),rfl⟩)
     refine⟨fun L ρ w' hR hC hL hd hk=> ?_,?_⟩
     · obtain⟨e0,(e1:ρ (.tmp 30)=pv xr.hp),(e2:ρ (.tmp 34)=vU qr.now),-⟩:=hk;refine Par.val_k fun K hK=> ?_;unfold Par.val
       (obtain⟨hq,hs⟩:=hR.go 0 rfl hL (.inl rfl) (by decide);have hx:=hq.1 (by decide);refine Par.val_call Tryz.func79 (by kernel_rfl) rfl e0 ?_;simp only[List.map_toArray,List.map_cons,List.map_nil,e1,e2];refine(dueTake_some (HI.out.ext hx) (Nat.le_trans HBR.out hx.size) HWQ.out HZ.out).mono ?_;rintro e w2 ⟨rfl,hp⟩;exact⟨_,rfl,hK _ _ ⟨hs _ _ _ ⟨fun h=>absurd h (by decide),hp.pre hx⟩,rfl⟩⟩)
     refine⟨fun L ρ w' hR hC hL hd hk=> ?_,?_⟩
     · obtain⟨(e0:ρ (.tmp 35)= .tuple #[vU id,vU du,.bool true]),-⟩:=hk;refine Par.val_k fun K hK=> ?_;unfold Par.val
       (go_simp;exact hK _ _ ⟨hR.other (by decide),rfl⟩)
     refine⟨fun _ _ _ hR _ _ _ hk=>Par.pv [(26,.tuple #[vU id,vU du,.bool true])] hk (by kernel_rfl) ⟨hR.other (by decide),rfl⟩,?_⟩
     refine⟨fun _ _ _ hR _ _ _ hk=>Par.pv [(26,.tuple #[vU id,vU du,.bool true])] hk (by kernel_rfl) ⟨hR.other (by decide),rfl⟩,?_⟩
     refine⟨fun _ _ _ hR _ _ _ hk=>Par.pv [(26,.tuple #[vU id,vU du,.bool true])] hk (by kernel_rfl) ⟨hR.other (by decide),rfl⟩,?_⟩
     refine⟨fun L ρ w' hR hC hL hd hk=> ?_,?_⟩
     · obtain⟨(e0:ρ (.tmp 36)=vU id),-⟩:=hk;refine Par.val_k fun K hK=> ?_;unfold Par.val
       (go_simp;exact hK _ _ ⟨hR.other (by decide),rfl⟩)
     refine⟨fun L ρ w' hR hC hL hd hk=> ?_,?_⟩
     · obtain⟨(e0:ρ (.tmp 37)=vU du),-⟩:=hk;refine Par.val_k fun K hK=> ?_;unfold Par.val
       (go_simp;exact hK _ _ ⟨hR.other (by decide),rfl⟩)
     refine⟨fun L ρ w' hR hC hL hd hk=> ?_,?_⟩
     · obtain⟨(e0:ρ (.tmp 38)=Value.bool true),-⟩:=hk;refine Par.val_k fun K hK=> ?_;unfold Par.val
       (go_simp;exact hK _ _ ⟨hR.other (by decide),rfl⟩)
     trivial
   intro a' w' inv hR
   have hq:=Par.donesC inv;simp only[Par.donesV,ParC.EQ,true_and,and_true] at hq
   clear inv
   simp only[List.filterMap_cons,List.filterMap_nil,Par.putAll,Act.put,List.setIfInBounds_toArray,List.set_cons_succ,List.set_cons_zero,hq]
   clear hq
   have hp:=(Rg.Ch.fin hR (by decide) 1 rfl).2;have HP:=hid hp;clear hp hR
   try clear a'
   obtain⟨h1,h2,h3,-,-⟩:=tick_round HWQ.out HZ.out (by have:=HT.out.tu;omega)
   have HLK:=hid h1
   have HST:=hid h2
   have HW9:=hid h3
   have hT9:=HT.out.next HWQ.out HZ.out
   clear h1 h2 h3
   obtain⟨w2,hw2⟩:∃W,w'=W:=⟨_,rfl⟩
   rw[hw2] at HP⊢
   clear hw2
   obtain⟨x2,i2,f2,n2⟩:=HP.out
   have c5:=i2.cells 7 (.map (some x2.mi)) rfl
   have hlk:(Instr.lookup 129 (.map (some x2.mi)) (vU id) false).run Tryz.prog w2= .ok (itV ⟨id,la,st,ct,du,tk,tu,sg,ps,sz⟩) w2:=by
    have:=i2.im.look Tryz.underlying129 id
    have hz':(qr.its.lookup id).getD it0=⟨id,la,st,ct,du,tk,tu,sg,ps,sz⟩:=(HWQ.out.get HLK.out).1
    rw[hz'] at this
    exact this
   obtain⟨w3,hw3⟩:∃W,w2.alloc (itO ⟨id,la,st,ct,du,tk,tu,sg,ps,sz⟩)=W:=⟨_,rfl⟩
   have e3:Ext w2 w3:=by rw[←hw3];exact Ext.alloc _ _
   have hb3:w3.heap[w2.heap.size]? =some (itO ⟨id,la,st,ct,du,tk,tu,sg,ps,sz⟩):=by rw[←hw3];exact heap_alloc_new _ _
   obtain⟨g,hg⟩:∃g,w2.heap.size=g:=⟨_,rfl⟩
   have i3:=i2.ext e3
   have HB3:=hid (Nat.le_trans HBR.out (Nat.le_trans f2.size e3.size))
   have HF2:=hid (And.intro f2 n2)
   have HE3:=hid e3
   have hb3':=hb3
   rw[hg] at hb3'
   obtain⟨d0,d1,d2,d3,d4,d5,d6,d7,d8,d9,-⟩:=blk10 hb3'
   have D0:=hid d0
   have D1:=hid d1
   have D2:=hid d2
   have D3:=hid d3
   have D4:=hid d4
   have D5:=hid d5
   have D6:=hid d6
   have D7:=hid d7
   have D8:=hid d8
   have D9:=hid d9
   have C3:=hid (i3.cells 3 (vU qr.now) rfl)
   have C2:=hid (i3.cells 2 (.int .i64 qr.del) rfl)
   have hps:=fun w=>pass_any (It.l ⟨id,la,st,ct,du,tk,tu,sg,ps,sz⟩) (qr.now.toNat:Int) qr.del w
   have hbc:=fun(w':World) (hx:Ext w3 w')=>becT_any ⟨id,la,st,ct,du,tk,tu,sg,ps,sz⟩ (i3.ext hx) (Nat.le_trans HB3.out hx.size) HWQ.out HLK.out HST.out
   obtain⟨Q9,hQ9⟩:∃Q,becQ qr ⟨id,la,st,ct,du,tk,tu,sg,ps,sz⟩ (passL (It.l ⟨id,la,st,ct,du,tk,tu,sg,ps,sz⟩) (qr.now.toNat:Int) qr.del)=Q:=⟨_,rfl⟩
   obtain⟨BI,hBI⟩:∃Q,becI qr ⟨id,la,st,ct,du,tk,tu,sg,ps,sz⟩ (passL (It.l ⟨id,la,st,ct,du,tk,tu,sg,ps,sz⟩) (qr.now.toNat:Int) qr.del)=Q:=⟨_,rfl⟩
   rw[hQ9] at hbc HW9 hT9
   rw[hBI] at hbc
   clear hQ9 hBI
   obtain⟨PL,hPL⟩:∃Q,passL (It.l ⟨id,la,st,ct,du,tk,tu,sg,ps,sz⟩) (qr.now.toNat:Int) qr.del=Q:=⟨_,rfl⟩
   rw[hPL] at hbc hps
   have HPS:=hid hps
   have HBC:=hid hbc
   have HT9:=hid hT9
   clear i2 f2 n2 e3 hb3 i3 hb3' d0 d1 d2 d3 d4 d5 d6 d7 d8 d9 hps hbc hT9 hPL HP
   go_wp2_with fail
   try rw[hg]
   clear c5 hlk hw3
   refine ParE.wp_region_e (l:=[_,_,_,_,_,_,_,_,_,_,_,_,_,_,_]) rfl (Rg.Ch [13,14] [] (TwoQ w3 fun w'=>XStp B w3 p x2 Q9 w')) (ParC.VC [ParC.EQ (pv p),ParC.EQ (itV ⟨id,la,st,ct,du,tk,tu,sg,ps,sz⟩),ParC.EQ (Value.pointer (some ⟨g,2,none⟩)),ParC.EQ (lv (It.l ⟨id,la,st,ct,du,tk,tu,sg,ps,sz⟩)),ParC.EQ (pv p),ParC.EQ (pv p),ParC.EQ (Value.pointer (some ⟨p,3,none⟩)),ParC.EQ (vU qr.now),ParC.EQ (pv p),ParC.EQ (pv p),ParC.EQ (Value.pointer (some ⟨p,0,none⟩)),ParC.EQ (Value.pointer (some ⟨p,2,none⟩)),ParC.EQ (Value.int .i64 qr.del),ParC.EQ (lv PL),ParC.EQ (itV BI)]) (by kernel_rfl) (by kernel_rfl) (Rg.Ch.start ⟨fun _=>Ext.draw _,trivial⟩) ?_ ?_
   · refine⟨fun L ρ w' hR hC hL hd hk=> ?_,?_⟩
     · obtain⟨(e0:ρ (.tmp 0)=pv p),-⟩:=hk;refine Par.val_k fun K hK=> ?_;unfold Par.val
       (go_simp;exact hK _ _ ⟨hR.other (by decide),rfl⟩)
     refine⟨fun L ρ w' hR hC hL hd hk=> ?_,?_⟩
     · obtain⟨(e0:ρ (.tmp 10)=pv g),-⟩:=hk;refine Par.val_k fun K hK=> ?_;unfold Par.val
       (obtain⟨i,hi,hq⟩:=hR.some 1 rfl (hC.notyet 14 1 hL (by kernel_rfl));have hx:=hq.1 (by omega);have cc0:=hx.cell D0.out;have cc1:=hx.cell D1.out;have cc2:=hx.cell D2.out;have cc3:=hx.cell D3.out;have cc4:=hx.cell D4.out;have cc5:=hx.cell D5.out;have cc6:=hx.cell D6.out;have cc7:=hx.cell D7.out;have cc8:=hx.cell D8.out;have cc9:=hx.cell D9.out;go_simp;exact hK _ _ ⟨hR.other (by decide),rfl⟩)
     refine⟨fun _ _ _ hR _ _ _ hk=>Par.pv [(10,pv g)] hk (by kernel_rfl) ⟨hR.other (by decide),rfl⟩,?_⟩
     refine⟨fun L ρ w' hR hC hL hd hk=> ?_,?_⟩
     · obtain⟨(e0:ρ (.tmp 50)=Value.pointer (some ⟨g,2,none⟩)),-⟩:=hk;refine Par.val_k fun K hK=> ?_;unfold Par.val
       (obtain⟨i,hi,hq⟩:=hR.some 1 rfl (hC.notyet 14 3 hL (by kernel_rfl));have hx:=hq.1 (by omega);have cc0:=hx.cell D2.out;have cc1:=hx.cell D3.out;have cc2:=hx.cell D4.out;have cc3:=hx.cell D5.out;go_simp;exact hK _ _ ⟨hR.other (by decide),rfl⟩)
     refine⟨fun L ρ w' hR hC hL hd hk=> ?_,?_⟩
     · obtain⟨(e0:ρ (.tmp 0)=pv p),-⟩:=hk;refine Par.val_k fun K hK=> ?_;unfold Par.val
       (go_simp;exact hK _ _ ⟨hR.other (by decide),rfl⟩)
     refine⟨fun L ρ w' hR hC hL hd hk=> ?_,?_⟩
     · obtain⟨(e0:ρ (.tmp 52)=pv p),-⟩:=hk;refine Par.val_k fun K hK=> ?_;unfold Par.val
       (go_simp;exact hK _ _ ⟨hR.other (by decide),rfl⟩)
     refine⟨fun _ _ _ hR _ _ _ hk=>Par.pv [(53,pv p)] hk (by kernel_rfl) ⟨hR.other (by decide),rfl⟩,?_⟩
     refine⟨fun L ρ w' hR hC hL hd hk=> ?_,?_⟩
     · obtain⟨(e0:ρ (.tmp 54)=Value.pointer (some ⟨p,3,none⟩)),-⟩:=hk;refine Par.val_k fun K hK=> ?_;unfold Par.val
       (obtain⟨i,hi,hq⟩:=hR.some 1 rfl (hC.notyet 14 7 hL (by kernel_rfl));have hx:=hq.1 (by omega);have cc0:=hx.cell C3.out;go_simp;exact hK _ _ ⟨hR.other (by decide),rfl⟩)
     refine⟨fun L ρ w' hR hC hL hd hk=> ?_,?_⟩
     · obtain⟨(e0:ρ (.tmp 0)=pv p),-⟩:=hk;refine Par.val_k fun K hK=> ?_;unfold Par.val
       (go_simp;exact hK _ _ ⟨hR.other (by decide),rfl⟩)
     refine⟨fun L ρ w' hR hC hL hd hk=> ?_,?_⟩
     · obtain⟨(e0:ρ (.tmp 56)=pv p),-⟩:=hk;refine Par.val_k fun K hK=> ?_;unfold Par.val
       (go_simp;exact hK _ _ ⟨hR.other (by decide),rfl⟩)
     refine⟨fun _ _ _ hR _ _ _ hk=>Par.pv [(57,pv p)] hk (by kernel_rfl) ⟨hR.other (by decide),rfl⟩,?_⟩
     refine⟨fun _ _ _ hR _ _ _ hk=>Par.pv [(58,Value.pointer (some ⟨p,0,none⟩))] hk (by kernel_rfl) ⟨hR.other (by decide),rfl⟩,?_⟩
     refine⟨fun L ρ w' hR hC hL hd hk=> ?_,?_⟩
     · obtain⟨(e0:ρ (.tmp 59)=Value.pointer (some ⟨p,2,none⟩)),-⟩:=hk;refine Par.val_k fun K hK=> ?_;unfold Par.val
       (obtain⟨i,hi,hq⟩:=hR.some 1 rfl (hC.notyet 14 12 hL (by kernel_rfl));have hx:=hq.1 (by omega);have cc0:=hx.cell C2.out;go_simp;exact hK _ _ ⟨hR.other (by decide),rfl⟩)
     refine⟨fun L ρ w' hR hC hL hd hk=> ?_,?_⟩
     · obtain⟨e0,(e1:ρ (.tmp 51)=lv (It.l ⟨id,la,st,ct,du,tk,tu,sg,ps,sz⟩)),(e2:ρ (.tmp 55)=vU qr.now),(e3:ρ (.tmp 60)=Value.int .i64 qr.del),-⟩:=hk;refine Par.val_k fun K hK=> ?_;unfold Par.val
       (obtain⟨hq,hs⟩:=hR.go 0 rfl hL (.inl rfl) (by decide);have hx:=hq.1 (by decide);refine Par.val_call Tryz.func80 (by kernel_rfl) rfl e0 ?_;simp only[List.map_toArray,List.map_cons,List.map_nil,e1,e2,e3];refine(HPS.out _).mono ?_;rintro e w5 ⟨rfl,hx3⟩;exact⟨_,rfl,hK _ _ ⟨hs _ _ _ ⟨fun _=>hx.trans hx3,trivial⟩,rfl⟩⟩)
     refine⟨fun L ρ w' hR hC hL hd hk=> ?_,?_⟩
     · obtain⟨e0,(e1:ρ (.tmp 48)=pv p),(e2:ρ (.tmp 49)=itV ⟨id,la,st,ct,du,tk,tu,sg,ps,sz⟩),(e3:ρ (.tmp 61)=lv PL),-⟩:=hk;refine Par.val_k fun K hK=> ?_;unfold Par.val
       (obtain⟨hq,hs⟩:=hR.go 1 rfl hL (.inr ⟨13,rfl,hC.before 13 (i:=14) rfl hd (by kernel_rfl)⟩) (by decide);have hx:=hq.1 (by decide);refine Par.val_call Tryz.func76 (by kernel_rfl) rfl e0 ?_;simp only[List.map_toArray,List.map_cons,List.map_nil,e1,e2,e3];refine(HBC.out _ hx).mono ?_;rintro e w5 ⟨rfl,hp⟩;exact⟨_,rfl,hK _ _ ⟨hs _ _ _ ⟨fun h=>absurd h (by decide),hp.pre hx⟩,rfl⟩⟩)
     trivial
   intro a' w' inv hR
   have hq:=Par.donesC inv;simp only[Par.donesV,ParC.EQ,true_and,and_true] at hq
   clear inv
   simp only[List.filterMap_cons,List.filterMap_nil,Par.putAll,Act.put,List.setIfInBounds_toArray,List.set_cons_succ,List.set_cons_zero,hq]
   clear hq
   have hp:=(Rg.Ch.fin hR (by decide) 2 rfl).2;have HP9:=hid hp;clear hp hR
   try clear a'
   go_wp2
   go_roundw
   case rel=>
    have t1:=HT.out.le
    obtain⟨x9,i9,f9,n9⟩:=XStp.then HF2.out.1 HF2.out.2 (HP9.out.pre HE3.out)
    refine⟨m+1,x9,Q9,next_i64 t1,hid i9,HW9,HT9,hid ?_⟩
    exact⟨fr_then2 HF.out f9,fun a ha=>by
     rcases n9 a ha with k|k
     · exact HF.out.2 a k
     · exact .inr (Nat.le_trans HF.out.1.size k)⟩
   case measure=>
    have:=HT.out.le
    exact next_less this
end Go.Proofs.YtcfgafododiioaaGreatDoor
