/- What the program's seven conditions of a checker return. Condition: memory holds the checker, whose object's lists are no longer than 100000, and the tables read as laid. -/
import Derived.Test.YtdgnjhhieemcaaaGreatDoorM30
import Derived.Test.YtdgnjhhieemcaaaGreatDoorL17Tg
set_option maxHeartbeats 4000000
namespace Go.Proofs.YtdgnjhhieemcaaaGreatDoor.L17
set_option maxRecDepth 100000
open Go.RowKit L3 L4 L12 L14
open L13 (Ob)
open L16 (chE OA OS Tb tb_below)
attribute [local go_sem] Oper.semAt_some
abbrev ckC (vm vc vr vl vt:Value):Obj:=.cells #[vm,vc,vr,vl,vt] 115
theorem gr_setc (w:World) (k i:Nat) (u:Value):w.grownBy (w.setCell ⟨k,i,none⟩ u) (some k):=by
 have h:=(Below.refl 0 w).setCell (p:=⟨k,i,none⟩) (Nat.zero_le _) u
 exact⟨h.os,h.tape,h.output,h.size,fun j _ hj=>Below.heap_setCell _ _ _ _ (fun e=>hj (by rw [e]))⟩
theorem own_setc {W:World} {B e:TypeId} {sz n k i:Nat} {v u:Value} {xs:List Value} {cs:Array Value} {t:TypeId} (h:W.ownsRow B e sz v n xs) (hr:W.heap[k]?=some (.cells cs t)) (ht:t≠e):(W.setCell ⟨k,i,none⟩ u).ownsRow B e sz v n xs :=
 L10.own_kept h (gr_setc W k i u) (fun g hg=>by
  obtain⟨cur,hc⟩:=L10.own_ty h hg
  exact L10.ty_ne hr hc ht)
theorem rw_bs {w:World} {v:Value} {l:List UInt8} (h:Rw eB w v l) (hl:l.length≤100000):L5.BsAt w v l:=by
 obtain⟨a,c,rfl,h1,-,h3⟩:=h.form rfl
 refine⟨a,c,rfl,h1,by unfold maxLen;omega,?_⟩
 by_cases h0:l=[]
 ·exact .inl h0
 ·obtain⟨b,o,rfl,-,hc⟩:=h3 (List.length_pos_iff.2 h0)
  exact .inr ⟨b,o,rfl,fun j hj=>hc j hj⟩
theorem cobject_at (kc:Nat) (vm vc vr vl vt:Value) (o:Ob) (R:Int) (w:World) (hk:w.heap[kc]?=some (ckC vm vc vr vl vt)) (ho:OA w vm vc vr o) (hs:OS o) (hT:Tb w) (hR:chE o=R) :
  Calls Tryz.prog 98 #[.pointer (some ⟨kc,0,none⟩)] w fun e w'=>e=.returned (.tuple #[.int .i64 0,.int .i64 R])∧Below w.heap.size w w':=by
 have HC:=Lib.hid (L16.ocheck_at vm vc vr o R w ho hs hT hR)
 obtain⟨a1,c1,a2,c2,a3,c3,rfl,rfl,rfl⟩:∃ a1 c1 a2 c2 a3 c3,vm=.slice a1 o.maps.length c1∧vc=.slice a2 o.code.length c2∧vr=.slice a3 o.rels.length c3:=by
  obtain⟨a1,c1,h1,-⟩:=L10.df_form rfl ho.m
  obtain⟨a2,c2,h2,-⟩:=ho.c.form rfl
  obtain⟨a3,c3,h3,-⟩:=L13.ro_form rfl ho.r
  exact⟨_,_,_,_,_,_,h1,h2,h3⟩
 obtain⟨x0,x1,x2,x3,x4⟩:=cells5c hk
 clear ho hs hT hR hk
 go_enter Tryz.func98,Tryz.ntmps98
 go_wp2_with (go_at_call 26;((with_reducible refine (HC.out).mono ?_);rintro e w1 ⟨rfl,b1⟩))
 go_ret2
 exact⟨rfl,b1⟩
theorem pall_ok (v:Value) (c:List UInt8) (k:Nat) (w:World) (hv:Rw eB w v c) (hm:c.length≤100000) (hT:L1.Wid w) (h0:(L5.la (rdC c)).e=0) (hk:(inL c).length=k) :
  Calls Tryz.prog 134 #[v] w fun e w'=>∃ a cp,e=.returned (.tuple #[.slice a k cp,.int .i64 0,.int .i64 0])∧w'.ownsRow w.heap.size 45 6 (.slice a k cp) k (L5.insL ((inL c).map L13.tI))∧Below w.heap.size w w':=by
 have hb:=rw_bs hv hm
 obtain⟨a,cp,rfl,-⟩:=hv.form rfl
 refine (L5.all_at a cp c c.length (Nat.le_refl _) hm w hT hb).mono fun e w' h=>?_
 obtain⟨h,hB⟩:=h
 rcases h with ⟨h,-⟩|⟨-,v',rfl,ho⟩
 ·exact absurd h0 h
 ·have hk':(L5.rds c.length 0 c).length=k:=by rw [← hk,inL,List.length_map];rfl
  rw [L5.insL_map,hk'] at ho
  rw [inL_tI]
  obtain⟨a',c',rfl⟩:=L5.owns_slice ho
  exact⟨a',c',rfl,ho,hB⟩
theorem pall_no (v:Value) (c:List UInt8) (w:World) (hv:Rw eB w v c) (hm:c.length≤100000) (hT:L1.Wid w) (h0:(L5.la (rdC c)).e≠0) :
  Calls Tryz.prog 134 #[v] w fun e w'=>e=.returned (.tuple #[.slice none 0 0,.int .i64 (((L5.la (rdC c)).at':Nat):Int),.int .i64 (L5.la (rdC c)).e])∧Below w.heap.size w w':=by
 have hb:=rw_bs hv hm
 obtain⟨a,cp,rfl,-⟩:=hv.form rfl
 exact (L5.all_at a cp c c.length (Nat.le_refl _) hm w hT hb).mono fun e w' h=>allP_no h h0
theorem is_of_own {w:World} {B:TypeId} {v:Value} {n:Nat} {l:List L9.Ins} (h:w.ownsRow B 45 6 v n (L5.insL (l.map L13.tI))):IsAt w v l:=L13.in_is (L5.own_ins h)
theorem st_of_own {w:World} {B:TypeId} {v:Value} {l:List L9.Ins} (h:w.ownsRow B 3 1 v l.length ((stL 0 l).map fun (a:Nat)=>Value.int .i64 (a:Int))):L10.InAt w v (stZ l):=own_nums (by rw [stL_len];exact h)
theorem starts_own (v:Value) (l:List L9.Ins) (n:Nat) (hn:l.length=n) (hm:n≤100000) (w:World) (hv:IsAt w v l) :
  Calls Tryz.prog 61 #[v] w fun e w'=>(∃ a c,e=.returned (.tuple #[.slice a n c,.int .i64 (smN l:Int)])∧w'.ownsRow w.heap.size 3 1 (.slice a n c) n ((stL 0 l).map fun (a:Nat)=>Value.int .i64 (a:Int)))∧Below w.heap.size w w':=by
 refine (starts_at v l (by omega) w hv).mono fun e w' h=>?_
 obtain⟨⟨u,rfl,o⟩,b⟩:=h
 rw [hn] at o
 obtain⟨a,c,rfl⟩:=L14.owns_slice o
 exact⟨⟨a,c,rfl,o⟩,b⟩
theorem is_nil (w:World):IsAt w (.slice none 0 0) []:=Or.inr ⟨rfl,none,0,rfl⟩
def InP (o:Ob) (kc:Nat) (vm vc vr:Value) (w:World) (e:Ending) (w':World):Prop :=
 e=.returned (.tuple #[.int .i64 (insE o.code).1,.int .i64 (insE o.code).2])∧w.grownBy w' (some kc)∧((L5.la (rdC o.code)).e=0→∃ vl vt,CkA w' kc vm vc vr vl vt (inL o.code))
theorem gr_of {w W:World} (h:Below w.heap.size w W) (o:Option Nat):w.grownBy W o:=⟨h.os,h.tape,h.output,h.size,fun k hk _=>h.block k hk⟩
theorem gr_tr {w a b:World} {o:Option Nat} (h:w.grownBy a o) (k:a.grownBy b o):w.grownBy b o:=⟨k.os.trans h.os,k.tape.trans h.tape,k.output.trans h.output,Nat.le_trans h.size k.size,fun x hx hn=>(k.block x (Nat.lt_of_lt_of_le hx h.size) hn).trans (h.block x hx hn)⟩
theorem row_set3 {w:World} {kc:Nat} {vm vc vr vl vt u:Value} (h:w.heap[kc]?=some (ckC vm vc vr vl vt)):(w.setCell ⟨kc,3,none⟩ u).heap[kc]?=some (ckC vm vc vr u vt):=by
 have:=cells_set (k:=3) (v:=u) h
 simpa using this
theorem row_set4 {w:World} {kc:Nat} {vm vc vr vl vt u:Value} (h:w.heap[kc]?=some (ckC vm vc vr vl vt)):(w.setCell ⟨kc,4,none⟩ u).heap[kc]?=some (ckC vm vc vr vl u):=by
 have:=cells_set (k:=4) (v:=u) h
 simpa using this
theorem cinstr_at (kc:Nat) (vm vc vr:Value) (o:Ob) (w:World) (hk:w.heap[kc]?=some (ckC vm vc vr (.slice none 0 0) (.slice none 0 0))) (hv:Rw eB w vc o.code) (hm:o.code.length≤100000) (hT:L1.Wid w) :
  Calls Tryz.prog 99 #[.pointer (some ⟨kc,0,none⟩)] w fun e w'=>InP o kc vm vc vr w e w':=by
 obtain⟨nc,hnc⟩:∃ n,o.code.length=n:=⟨_,rfl⟩
 have hv0:=hv
 obtain⟨ac,cc,rfl,-⟩:=hv.form hnc
 have HK:=Lib.hid hk
 obtain⟨x0,x1,x2,x3,x4⟩:=cells5c hk
 have hkl:=(Array.getElem?_eq_some_iff.1 hk).1
 have HKL:=Lib.hid hkl
 clear hv
 by_cases h0:(L5.la (rdC o.code)).e=0
 ·have hlen:=inL_len h0
  have hll:=len_le (inL o.code) (inL_sl h0)
  obtain⟨k,hkn⟩:∃ k,(inL o.code).length=k:=⟨_,rfl⟩
  have HAl:=Lib.hid (pall_ok _ o.code k w hv0 hm hT h0 hkn)
  have HL:=Lib.hid (And.intro hkn (show (inL o.code).length≤100000 by omega))
  have hkm:k≤100000:=by omega
  have HZ:=Lib.hid h0
  clear hv0 hT hk hlen hll hkn h0 hm hnc
  go_enter Tryz.func99,Tryz.ntmps99
  go_wp2_with (first
   | (go_at_call 134;((with_reducible refine (HAl.out).mono ?_);rintro e w1 ⟨a,cp,rfl,o1,b1⟩;have r1:=L8.row_up HK.out b1;obtain⟨-,f3⟩:=cell_in (k:=3) r1;obtain⟨y0,y1,y2,y3,y4⟩:=cells5c r1;have r2:=row_set3 (u:=.slice a k cp) r1;obtain⟨z0,z1,z2,z3,z4⟩:=cells5c r2;have HO1:=Lib.hid (own_setc (u:=.slice a k cp) (i:=3) o1 r1 (by decide));have HR2:=Lib.hid r2;have HG1:=Lib.hid (gr_tr (gr_of b1 (some kc)) (gr_setc w1 kc 3 (.slice a k cp)));have HS1:=Lib.hid b1.size;clear o1 r1 r2 b1))
   | (go_at_call 61;((with_reducible refine (starts_own _ (inL o.code) k HL.out.1 hkm _ (is_of_own HO1.out)).mono ?_);rintro e w3 ⟨⟨a3,c3,rfl,o3⟩,b3⟩;have r3:=L8.row_up HR2.out b3;obtain⟨-,f4⟩:=cell_in (k:=4) r3;obtain⟨q0,q1,q2,q3,q4⟩:=cells5c r3;have HO3:=Lib.hid (own_setc (u:=.slice a3 k c3) (i:=4) o3 r3 (by decide));have HP3:=Lib.hid (own_setc (u:=.slice a3 k c3) (i:=4) (L8.own_below HO1.out b3) r3 (by decide));have HR3:=Lib.hid (row_set4 (u:=.slice a3 k c3) r3);have HG3:=Lib.hid (gr_tr HG1.out (gr_tr (gr_of b3 (some kc)) (gr_setc w3 kc 4 (.slice a3 k c3))));clear o3 r3 b3)))
  go_ret2
  refine⟨by rw [insE_ok HZ.out];rfl,HG3.out,fun _=>⟨_,_,HR3.out,is_of_own HP3.out,st_of_own (by rw [HL.out.1];exact HO3.out),by rw [HL.out.1];exact own_weak HP3.out (Nat.succ_le_of_lt HKL.out)⟩⟩
 ·have HAl:=Lib.hid (pall_no _ o.code w hv0 hm hT h0)
  have HZ:=Lib.hid h0
  obtain⟨at',hat⟩:∃ z,(((L5.la (rdC o.code)).at':Nat):Int)=z:=⟨_,rfl⟩
  obtain⟨er,her⟩:∃ z,(L5.la (rdC o.code)).e=z:=⟨_,rfl⟩
  rw [hat,her] at HAl
  have HE:=Lib.hid (And.intro hat her)
  clear hv0 hT hk h0 hm hnc hat her
  go_enter Tryz.func99,Tryz.ntmps99
  go_wp2_with (first
   | (go_at_call 134;((with_reducible refine (HAl.out).mono ?_);rintro e w1 ⟨rfl,b1⟩;have r1:=L8.row_up HK.out b1;obtain⟨-,f3⟩:=cell_in (k:=3) r1;obtain⟨y0,y1,y2,y3,y4⟩:=cells5c r1;have r2:=row_set3 (u:=.slice none 0 0) r1;obtain⟨z0,z1,z2,z3,z4⟩:=cells5c r2;have HR2:=Lib.hid r2;have HG1:=Lib.hid (gr_tr (gr_of b1 (some kc)) (gr_setc w1 kc 3 (.slice none 0 0)));clear r1 r2 b1))
   | (go_at_call 61;((with_reducible refine (starts_own _ [] 0 rfl (by omega) _ (is_nil _)).mono ?_);rintro e w3 ⟨⟨a3,c3,rfl,o3⟩,b3⟩;have r3:=L8.row_up HR2.out b3;obtain⟨-,f4⟩:=cell_in (k:=4) r3;obtain⟨q0,q1,q2,q3,q4⟩:=cells5c r3;have HG3:=Lib.hid (gr_tr HG1.out (gr_tr (gr_of b3 (some kc)) (gr_setc w3 kc 4 (.slice a3 0 c3))));clear o3 r3 b3)))
  go_ret2
  refine⟨by rw [insE_no HZ.out,HE.out.1,HE.out.2];rfl,HG3.out,fun h=>absurd h HZ.out⟩
theorem cfields_at (kc:Nat) (vm vc vr vl vt:Value) (l:List L9.Ins) (S E:Int) (w:World) (hA:CkA w kc vm vc vr vl vt l) (hm:l.length≤100000) (hR:eaV l (pF l) 12=(S,E)) :
  Calls Tryz.prog 100 #[.pointer (some ⟨kc,0,none⟩)] w fun e w'=>e=.returned (.tuple #[.int .i64 S,.int .i64 E])∧Below w.heap.size w w':=by
 have HE:=Lib.hid (each_at 136 kc vm vc vr vl vt l (pF l) 12 S E w (enters_of Tryz.func136 (by kernel_rfl) rfl) hA hm (fun i h W _=>k1_at (i:Int) l[i] (pF l i) W (by unfold pF;rw [atI_is h])) hR)
 clear hA hm hR
 go_enter Tryz.func100,Tryz.ntmps100
 go_wp2_with (go_at_call 135;((with_reducible refine (HE.out).mono ?_);rintro e w1 ⟨rfl,b1⟩))
 go_ret2
 exact⟨rfl,b1⟩
theorem cwrites_at (kc:Nat) (vm vc vr vl vt:Value) (l:List L9.Ins) (S E:Int) (w:World) (hA:CkA w kc vm vc vr vl vt l) (hm:l.length≤100000) (hR:eaV l (pW l) 14=(S,E)) :
  Calls Tryz.prog 103 #[.pointer (some ⟨kc,0,none⟩)] w fun e w'=>e=.returned (.tuple #[.int .i64 S,.int .i64 E])∧Below w.heap.size w w':=by
 have HE:=Lib.hid (each_at 143 kc vm vc vr vl vt l (pW l) 14 S E w (enters_of Tryz.func143 (by kernel_rfl) rfl) hA hm (fun i h W _=>k3_at (i:Int) l[i] (pW l i) W (by unfold pW;rw [atI_is h])) hR)
 clear hA hm hR
 go_enter Tryz.func103,Tryz.ntmps103
 go_wp2_with (go_at_call 135;((with_reducible refine (HE.out).mono ?_);rintro e w1 ⟨rfl,b1⟩))
 go_ret2
 exact⟨rfl,b1⟩
theorem cell_new1 (w:World) (v:Value) (t:TypeId):(w.alloc (.cells #[v] t)).cell? ⟨w.heap.size,0,none⟩=some v:=cell_new w v t
theorem cjumps_at (kc:Nat) (vm vc vr vl vt:Value) (l:List L9.Ins) (S E:Int) (w:World) (hA:CkA w kc vm vc vr vl vt l) (hm:l.length≤100000) (ho:∀ x∈l,-1000000≤x.off∧x.off≤1000000) (hR:eaV l (pJ l) 13=(S,E)) :
  Calls Tryz.prog 102 #[.pointer (some ⟨kc,0,none⟩)] w fun e w'=>e=.returned (.tuple #[.int .i64 S,.int .i64 E])∧Below w.heap.size w w':=by
 obtain⟨T,R,hT⟩:∃ T R,taR l=(T,R):=⟨_,_,rfl⟩
 rw [← taR_jump l,hT] at hR
 have HT:=Lib.hid (targets_at vl l T R w hA.is hm ho hT)
 have HE:=Lib.hid (fun (W:World) (hW:Below w.heap.size w W) (kp:Nat) (hp:W.cell? ⟨kp,0,none⟩=some (.int .i64 R))=>eachp_at 142 kp kc vm vc vr vl vt l (fun i=>decide ((i:Int)≠R)) 13 S E W (enters_of Tryz.func142 (by kernel_rfl) rfl) (hA.below hW) hm (fun i h W' hW'=>k2_at (i:Int) kp R l[i] _ W' (cell_up hW' hp) rfl) hR)
 obtain⟨a,c,rfl,-⟩:=is_form rfl hA.is
 obtain⟨x0,x1,x2,x3,x4⟩:=cells5c hA.row
 clear hA hm hR hT ho
 go_enter Tryz.func102,Tryz.ntmps102
 go_wp2_with (first
  | (go_at_call 141;((with_reducible refine (HT.out).mono ?_);rintro e w1 ⟨⟨ta,tc,rfl,-⟩,b1⟩;have HB1:=Lib.hid b1;clear b1))
  | (go_at_call 135;((with_reducible refine (HE.out _ (bch HB1.out (bnew w1 _)) _ (cell_new1 w1 _ _)).mono ?_);rintro e w2 ⟨rfl,b2⟩)))
 go_ret2
 exact⟨rfl,bch HB1.out (bch (bnew w1 _) b2)⟩
theorem cend_at (kc:Nat) (vm vc vr vl vt:Value) (l:List L9.Ins) (S E:Int) (w:World) (hA:CkA w kc vm vc vr vl vt l) (hm:l.length≤100000) (hp:0<l.length) (hR:eaV l (pE l) 15=(S,E)) :
  Calls Tryz.prog 104 #[.pointer (some ⟨kc,0,none⟩)] w fun e w'=>e=.returned (.tuple #[.int .i64 S,.int .i64 E])∧Below w.heap.size w w':=by
 obtain⟨a,c,rfl,-⟩:=is_form rfl hA.is
 have HE:=Lib.hid (fun (W:World) (hW:Below w.heap.size w W) (kp:Nat) (hq:W.cell? ⟨kp,0,none⟩=some (.pointer (some ⟨kc,0,none⟩)))=>eachp_at 145 kp kc vm vc vr (.slice a l.length c) vt l (pE l) 15 S E W (enters_of Tryz.func145 (by kernel_rfl) rfl) (hA.below hW) hm (fun i h W' hW'=>k4_at i l.length kp kc c a l[i] (pE l i) W' (cell_up hW' hq) (cells5c ((hA.below hW).below hW').row).2.2.2.1 ⟨hp,hm⟩ (by unfold pE;rw [atI_is h])) hR)
 clear hA hm hR hp
 go_enter Tryz.func104,Tryz.ntmps104
 go_wp2_with (go_at_call 135;((with_reducible refine (HE.out _ (bnew w _) _ (cell_new1 w _ _)).mono ?_);rintro e w2 ⟨rfl,b2⟩))
 go_ret2
 exact⟨rfl,bch (bnew w _) b2⟩
end Go.Proofs.YtdgnjhhieemcaaaGreatDoor.L17
