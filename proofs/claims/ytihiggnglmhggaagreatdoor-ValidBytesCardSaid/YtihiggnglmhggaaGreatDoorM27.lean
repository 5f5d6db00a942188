/- Lemmas and walks of L17Cd, L17Ck: what each theorem states; conditions stand in each theorem. -/
import Derived.Test.YtihiggnglmhggaaGreatDoorM26
import Derived.Test.YtihiggnglmhggaaGreatDoorL17Tg
set_option maxHeartbeats 8000000
set_option maxRecDepth 100000
section
namespace Go.Proofs.YtihiggnglmhggaaGreatDoor.L17
open Go.RowKit L3 L4 L12 L14
open L13 (Ob)
open L16 (chE OA OS Tb tb_below)
attribute [local go_sem] Oper.semAt_some
abbrev ckC (vm vc vr vl vt:Value):Obj:=.cells #[vm,vc,vr,vl,vt] 63
theorem gr_setc (w:World) (k i:Nat) (u:Value):w.grownBy (w.setCell ⟨k,i,none⟩ u) (some k):=by
 have h:=(Below.refl 0 w).setCell (p:=⟨k,i,none⟩) (Nat.zero_le _) u
 exact⟨h.os,h.tape,h.output,h.size,fun j _ hj=>Below.heap_setCell _ _ _ _ (fun e=>hj (by rw [e]))⟩
theorem own_setc {W:World} {B e:TypeId} {sz n k i:Nat} {v u:Value} {xs:List Value} {cs:Array Value} {t:TypeId} (h:W.ownsRow B e sz v n xs) (hr:W.heap[k]?=some (.cells cs t)) (ht:t≠e):(W.setCell ⟨k,i,none⟩ u).ownsRow B e sz v n xs :=
 L10.own_kept h (gr_setc W k i u) (fun g hg=>by
  obtain⟨cur,hc⟩:=L10.own_ty h hg
  exact L10.ty_ne hr hc ht)
theorem rw_bs {w:World} {v:Value} {l:List UInt8} (h:Rw eB w v l) (hl:l.length≤100000):L5.BsAt w v l:=by
 obtain⟨a,c,rfl,h1,-,h3⟩:=h.form rfl
 refine⟨a,c,rfl,h1,by unfold maxLen;omega,?_⟩
 by_cases h0:l=[]
 ·exact .inl h0
 ·obtain⟨b,o,rfl,-,hc⟩:=h3 (List.length_pos_iff.2 h0)
  exact .inr ⟨b,o,rfl,fun j hj=>hc j hj⟩
theorem cobject_at (kc:Nat) (vm vc vr vl vt:Value) (o:Ob) (R:Int) (w:World) (hk:w.heap[kc]?=some (ckC vm vc vr vl vt)) (ho:OA w vm vc vr o) (hs:OS o) (hT:Tb w) (hR:chE o=R) :
  Calls Tryz.prog 53 #[.pointer (some ⟨kc,0,none⟩)] w fun e w'=>e=.returned (.tuple #[.int .i64 0,.int .i64 R])∧Below w.heap.size w w':=by
 have HC:=Lib.hid (L16.ocheck_at vm vc vr o R w ho hs hT hR)
 obtain⟨a1,c1,a2,c2,a3,c3,rfl,rfl,rfl⟩:∃ a1 c1 a2 c2 a3 c3,vm=.slice a1 o.maps.length c1∧vc=.slice a2 o.code.length c2∧vr=.slice a3 o.rels.length c3:=by
  obtain⟨a1,c1,h1,-⟩:=L10.df_form rfl ho.m
  obtain⟨a2,c2,h2,-⟩:=ho.c.form rfl
  obtain⟨a3,c3,h3,-⟩:=L13.ro_form rfl ho.r
  exact⟨_,_,_,_,_,_,h1,h2,h3⟩
 obtain⟨x0,x1,x2,x3,x4⟩:=cells5c hk
 clear ho hs hT hR hk
 go_enter Tryz.func53,Tryz.ntmps53
 go_wp2_with (go_at_call 91;((with_reducible refine (HC.out).mono ?_);rintro e w1 ⟨rfl,b1⟩))
 go_ret2
 exact⟨rfl,b1⟩
theorem pall_ok (v:Value) (c:List UInt8) (k:Nat) (w:World) (hv:Rw eB w v c) (hm:c.length≤100000) (hT:L1.Wid w) (h0:(L5.la (rdC c)).e=0) (hk:(inL c).length=k) :
  Calls Tryz.prog 92 #[v] w fun e w'=>∃ a cp,e=.returned (.tuple #[.slice a k cp,.int .i64 0,.int .i64 0])∧w'.ownsRow w.heap.size 45 6 (.slice a k cp) k (L5.insL ((inL c).map L13.tI))∧Below w.heap.size w w':=by
 have hb:=rw_bs hv hm
 obtain⟨a,cp,rfl,-⟩:=hv.form rfl
 refine (L5.all_at a cp c c.length (Nat.le_refl _) hm w hT hb).mono fun e w' h=>?_
 obtain⟨h,hB⟩:=h
 rcases h with ⟨h,-⟩|⟨-,v',rfl,ho⟩
 ·exact absurd h0 h
 ·have hk':(L5.rds c.length 0 c).length=k:=by rw [← hk,inL,List.length_map];rfl
  rw [L5.insL_map,hk'] at ho
  rw [inL_tI]
  obtain⟨a',c',rfl⟩:=L5.owns_slice ho
  exact⟨a',c',rfl,ho,hB⟩
theorem pall_no (v:Value) (c:List UInt8) (w:World) (hv:Rw eB w v c) (hm:c.length≤100000) (hT:L1.Wid w) (h0:(L5.la (rdC c)).e≠0) :
  Calls Tryz.prog 92 #[v] w fun e w'=>e=.returned (.tuple #[.slice none 0 0,.int .i64 (((L5.la (rdC c)).at':Nat):Int),.int .i64 (L5.la (rdC c)).e])∧Below w.heap.size w w':=by
 have hb:=rw_bs hv hm
 obtain⟨a,cp,rfl,-⟩:=hv.form rfl
 exact (L5.all_at a cp c c.length (Nat.le_refl _) hm w hT hb).mono fun e w' h=>allP_no h h0
theorem is_of_own {w:World} {B:TypeId} {v:Value} {n:Nat} {l:List L9.Ins} (h:w.ownsRow B 45 6 v n (L5.insL (l.map L13.tI))):IsAt w v l:=L13.in_is (L5.own_ins h)
theorem st_of_own {w:World} {B:TypeId} {v:Value} {l:List L9.Ins} (h:w.ownsRow B 3 1 v l.length ((stL 0 l).map fun (a:Nat)=>Value.int .i64 (a:Int))):L10.InAt w v (stZ l):=own_nums (by rw [stL_len];exact h)
theorem starts_own (v:Value) (l:List L9.Ins) (n:Nat) (hn:l.length=n) (hm:n≤100000) (w:World) (hv:IsAt w v l) :
  Calls Tryz.prog 39 #[v] w fun e w'=>(∃ a c,e=.returned (.tuple #[.slice a n c,.int .i64 (smN l:Int)])∧w'.ownsRow w.heap.size 3 1 (.slice a n c) n ((stL 0 l).map fun (a:Nat)=>Value.int .i64 (a:Int)))∧Below w.heap.size w w':=by
 refine (starts_at v l (by omega) w hv).mono fun e w' h=>?_
 obtain⟨⟨u,rfl,o⟩,b⟩:=h
 rw [hn] at o
 obtain⟨a,c,rfl⟩:=L14.owns_slice o
 exact⟨⟨a,c,rfl,o⟩,b⟩
theorem is_nil (w:World):IsAt w (.slice none 0 0) []:=Or.inr ⟨rfl,none,0,rfl⟩
def InP (o:Ob) (kc:Nat) (vm vc vr:Value) (w:World) (e:Ending) (w':World):Prop :=
 e=.returned (.tuple #[.int .i64 (insE o.code).1,.int .i64 (insE o.code).2])∧w.grownBy w' (some kc)∧((L5.la (rdC o.code)).e=0→∃ vl vt,CkA w' kc vm vc vr vl vt (inL o.code))
theorem gr_of {w W:World} (h:Below w.heap.size w W) (o:Option Nat):w.grownBy W o:=⟨h.os,h.tape,h.output,h.size,fun k hk _=>h.block k hk⟩
theorem gr_tr {w a b:World} {o:Option Nat} (h:w.grownBy a o) (k:a.grownBy b o):w.grownBy b o:=⟨k.os.trans h.os,k.tape.trans h.tape,k.output.trans h.output,Nat.le_trans h.size k.size,fun x hx hn=>(k.block x (Nat.lt_of_lt_of_le hx h.size) hn).trans (h.block x hx hn)⟩
theorem row_set3 {w:World} {kc:Nat} {vm vc vr vl vt u:Value} (h:w.heap[kc]?=some (ckC vm vc vr vl vt)):(w.setCell ⟨kc,3,none⟩ u).heap[kc]?=some (ckC vm vc vr u vt):=by
 have:=cells_set (k:=3) (v:=u) h
 simpa using this
theorem row_set4 {w:World} {kc:Nat} {vm vc vr vl vt u:Value} (h:w.heap[kc]?=some (ckC vm vc vr vl vt)):(w.setCell ⟨kc,4,none⟩ u).heap[kc]?=some (ckC vm vc vr vl u):=by
 have:=cells_set (k:=4) (v:=u) h
 simpa using this
theorem cinstr_at (kc:Nat) (vm vc vr:Value) (o:Ob) (w:World) (hk:w.heap[kc]?=some (ckC vm vc vr (.slice none 0 0) (.slice none 0 0))) (hv:Rw eB w vc o.code) (hm:o.code.length≤100000) (hT:L1.Wid w) :
  Calls Tryz.prog 54 #[.pointer (some ⟨kc,0,none⟩)] w fun e w'=>InP o kc vm vc vr w e w':=by
 obtain⟨nc,hnc⟩:∃ n,o.code.length=n:=⟨_,rfl⟩
 have hv0:=hv
 obtain⟨ac,cc,rfl,-⟩:=hv.form hnc
 have HK:=Lib.hid hk
 obtain⟨x0,x1,x2,x3,x4⟩:=cells5c hk
 have hkl:=(Array.getElem?_eq_some_iff.1 hk).1
 clear hv
 by_cases h0:(L5.la (rdC o.code)).e=0
 ·have hlen:=inL_len h0
  have hll:=len_le (inL o.code) (inL_sl h0)
  obtain⟨k,hkn⟩:∃ k,(inL o.code).length=k:=⟨_,rfl⟩
  have HAl:=Lib.hid (pall_ok _ o.code k w hv0 hm hT h0 hkn)
  have HL:=Lib.hid (And.intro hkn (show (inL o.code).length≤100000 by omega))
  have hkm:k≤100000:=by omega
  have HZ:=Lib.hid h0
  clear hv0 hT hk hlen hll hkn h0 hm hnc
  go_enter Tryz.func54,Tryz.ntmps54
  go_wp2_with (first
   | (go_at_call 92;((with_reducible refine (HAl.out).mono ?_);rintro e w1 ⟨a,cp,rfl,o1,b1⟩;have r1:=L8.row_up HK.out b1;obtain⟨-,f3⟩:=cell_in (k:=3) r1;obtain⟨y0,y1,y2,y3,y4⟩:=cells5c r1;have r2:=row_set3 (u:=.slice a k cp) r1;obtain⟨z0,z1,z2,z3,z4⟩:=cells5c r2;have HO1:=Lib.hid (own_setc (u:=.slice a k cp) (i:=3) o1 r1 (by decide));have HR2:=Lib.hid r2;have HG1:=Lib.hid (gr_tr (gr_of b1 (some kc)) (gr_setc w1 kc 3 (.slice a k cp)));have HS1:=Lib.hid b1.size;clear o1 r1 r2 b1))
   | (go_at_call 39;((with_reducible refine (starts_own _ (inL o.code) k HL.out.1 hkm _ (is_of_own HO1.out)).mono ?_);rintro e w3 ⟨⟨a3,c3,rfl,o3⟩,b3⟩;have r3:=L8.row_up HR2.out b3;obtain⟨-,f4⟩:=cell_in (k:=4) r3;obtain⟨q0,q1,q2,q3,q4⟩:=cells5c r3;have HO3:=Lib.hid (own_setc (u:=.slice a3 k c3) (i:=4) o3 r3 (by decide));have HP3:=Lib.hid (own_setc (u:=.slice a3 k c3) (i:=4) (L8.own_below HO1.out b3) r3 (by decide));have HR3:=Lib.hid (row_set4 (u:=.slice a3 k c3) r3);have HG3:=Lib.hid (gr_tr HG1.out (gr_tr (gr_of b3 (some kc)) (gr_setc w3 kc 4 (.slice a3 k c3))));clear o3 r3 b3)))
  go_ret2
  refine⟨by rw [insE_ok HZ.out];rfl,HG3.out,fun _=>⟨_,_,HR3.out,is_of_own HP3.out,st_of_own (by rw [HL.out.1];exact HO3.out)⟩⟩
 ·have HAl:=Lib.hid (pall_no _ o.code w hv0 hm hT h0)
  have HZ:=Lib.hid h0
  obtain⟨at',hat⟩:∃ z,(((L5.la (rdC o.code)).at':Nat):Int)=z:=⟨_,rfl⟩
  obtain⟨er,her⟩:∃ z,(L5.la (rdC o.code)).e=z:=⟨_,rfl⟩
  rw [hat,her] at HAl
  have HE:=Lib.hid (And.intro hat her)
  clear hv0 hT hk h0 hm hnc hat her
  go_enter Tryz.func54,Tryz.ntmps54
  go_wp2_with (first
   | (go_at_call 92;((with_reducible refine (HAl.out).mono ?_);rintro e w1 ⟨rfl,b1⟩;have r1:=L8.row_up HK.out b1;obtain⟨-,f3⟩:=cell_in (k:=3) r1;obtain⟨y0,y1,y2,y3,y4⟩:=cells5c r1;have r2:=row_set3 (u:=.slice none 0 0) r1;obtain⟨z0,z1,z2,z3,z4⟩:=cells5c r2;have HR2:=Lib.hid r2;have HG1:=Lib.hid (gr_tr (gr_of b1 (some kc)) (gr_setc w1 kc 3 (.slice none 0 0)));clear r1 r2 b1))
   | (go_at_call 39;((with_reducible refine (starts_own _ [] 0 rfl (by omega) _ (is_nil _)).mono ?_);rintro e w3 ⟨⟨a3,c3,rfl,o3⟩,b3⟩;have r3:=L8.row_up HR2.out b3;obtain⟨-,f4⟩:=cell_in (k:=4) r3;obtain⟨q0,q1,q2,q3,q4⟩:=cells5c r3;have HG3:=Lib.hid (gr_tr HG1.out (gr_tr (gr_of b3 (some kc)) (gr_setc w3 kc 4 (.slice a3 0 c3))));clear o3 r3 b3)))
  go_ret2
  refine⟨by rw [insE_no HZ.out,HE.out.1,HE.out.2];rfl,HG3.out,fun h=>absurd h HZ.out⟩
theorem cfields_at (kc:Nat) (vm vc vr vl vt:Value) (l:List L9.Ins) (S E:Int) (w:World) (hA:CkA w kc vm vc vr vl vt l) (hm:l.length≤100000) (hR:eaV l (pF l) 12=(S,E)) :
  Calls Tryz.prog 55 #[.pointer (some ⟨kc,0,none⟩)] w fun e w'=>e=.returned (.tuple #[.int .i64 S,.int .i64 E])∧Below w.heap.size w w':=by
 have HE:=Lib.hid (each_at 94 kc vm vc vr vl vt l (pF l) 12 S E w (enters_of Tryz.func94 (by kernel_rfl) rfl) hA hm (fun i h W _=>k1_at (i:Int) l[i] (pF l i) W (by unfold pF;rw [atI_is h])) hR)
 clear hA hm hR
 go_enter Tryz.func55,Tryz.ntmps55
 go_wp2_with (go_at_call 93;((with_reducible refine (HE.out).mono ?_);rintro e w1 ⟨rfl,b1⟩))
 go_ret2
 exact⟨rfl,b1⟩
theorem cwrites_at (kc:Nat) (vm vc vr vl vt:Value) (l:List L9.Ins) (S E:Int) (w:World) (hA:CkA w kc vm vc vr vl vt l) (hm:l.length≤100000) (hR:eaV l (pW l) 14=(S,E)) :
  Calls Tryz.prog 58 #[.pointer (some ⟨kc,0,none⟩)] w fun e w'=>e=.returned (.tuple #[.int .i64 S,.int .i64 E])∧Below w.heap.size w w':=by
 have HE:=Lib.hid (each_at 100 kc vm vc vr vl vt l (pW l) 14 S E w (enters_of Tryz.func100 (by kernel_rfl) rfl) hA hm (fun i h W _=>k3_at (i:Int) l[i] (pW l i) W (by unfold pW;rw [atI_is h])) hR)
 clear hA hm hR
 go_enter Tryz.func58,Tryz.ntmps58
 go_wp2_with (go_at_call 93;((with_reducible refine (HE.out).mono ?_);rintro e w1 ⟨rfl,b1⟩))
 go_ret2
 exact⟨rfl,b1⟩
theorem cell_new1 (w:World) (v:Value) (t:TypeId):(w.alloc (.cells #[v] t)).cell? ⟨w.heap.size,0,none⟩=some v:=cell_new w v t
theorem cjumps_at (kc:Nat) (vm vc vr vl vt:Value) (l:List L9.Ins) (S E:Int) (w:World) (hA:CkA w kc vm vc vr vl vt l) (hm:l.length≤100000) (ho:∀ x∈l,-1000000≤x.off∧x.off≤1000000) (hR:eaV l (pJ l) 13=(S,E)) :
  Calls Tryz.prog 57 #[.pointer (some ⟨kc,0,none⟩)] w fun e w'=>e=.returned (.tuple #[.int .i64 S,.int .i64 E])∧Below w.heap.size w w':=by
 obtain⟨T,R,hT⟩:∃ T R,taR l=(T,R):=⟨_,_,rfl⟩
 rw [← taR_jump l,hT] at hR
 have HT:=Lib.hid (targets_at vl l T R w hA.is hm ho hT)
 have HE:=Lib.hid (fun (W:World) (hW:Below w.heap.size w W) (kp:Nat) (hp:W.cell? ⟨kp,0,none⟩=some (.int .i64 R))=>eachp_at 99 kp kc vm vc vr vl vt l (fun i=>decide ((i:Int)≠R)) 13 S E W (enters_of Tryz.func99 (by kernel_rfl) rfl) (hA.below hW) hm (fun i h W' hW'=>k2_at (i:Int) kp R l[i] _ W' (cell_up hW' hp) rfl) hR)
 obtain⟨a,c,rfl,-⟩:=is_form rfl hA.is
 obtain⟨x0,x1,x2,x3,x4⟩:=cells5c hA.row
 clear hA hm hR hT ho
 go_enter Tryz.func57,Tryz.ntmps57
 go_wp2_with (first
  | (go_at_call 18;((with_reducible refine (HT.out).mono ?_);rintro e w1 ⟨⟨ta,tc,rfl,-⟩,b1⟩;have HB1:=Lib.hid b1;clear b1))
  | (go_at_call 93;((with_reducible refine (HE.out _ (bch HB1.out (bnew w1 _)) _ (cell_new1 w1 _ _)).mono ?_);rintro e w2 ⟨rfl,b2⟩)))
 go_ret2
 exact⟨rfl,bch HB1.out (bch (bnew w1 _) b2)⟩
theorem cend_at (kc:Nat) (vm vc vr vl vt:Value) (l:List L9.Ins) (S E:Int) (w:World) (hA:CkA w kc vm vc vr vl vt l) (hm:l.length≤100000) (hp:0<l.length) (hR:eaV l (pE l) 15=(S,E)) :
  Calls Tryz.prog 59 #[.pointer (some ⟨kc,0,none⟩)] w fun e w'=>e=.returned (.tuple #[.int .i64 S,.int .i64 E])∧Below w.heap.size w w':=by
 obtain⟨a,c,rfl,-⟩:=is_form rfl hA.is
 have HE:=Lib.hid (fun (W:World) (hW:Below w.heap.size w W) (kp:Nat) (hq:W.cell? ⟨kp,0,none⟩=some (.pointer (some ⟨kc,0,none⟩)))=>eachp_at 102 kp kc vm vc vr (.slice a l.length c) vt l (pE l) 15 S E W (enters_of Tryz.func102 (by kernel_rfl) rfl) (hA.below hW) hm (fun i h W' hW'=>k4_at i l.length kp kc c a l[i] (pE l i) W' (cell_up hW' hq) (cells5c ((hA.below hW).below hW').row).2.2.2.1 ⟨hp,hm⟩ (by unfold pE;rw [atI_is h])) hR)
 clear hA hm hR hp
 go_enter Tryz.func59,Tryz.ntmps59
 go_wp2_with (go_at_call 93;((with_reducible refine (HE.out _ (bnew w _) _ (cell_new1 w _ _)).mono ?_);rintro e w2 ⟨rfl,b2⟩))
 go_ret2
 exact⟨rfl,bch (bnew w _) b2⟩
theorem cells7c {w:World} {k:Nat} {a b c d e f g:Value} {t:TypeId} (h:w.heap[k]?=some (.cells #[a,b,c,d,e,f,g] t)) :
  w.cell? ⟨k,0,none⟩=some a∧w.cell? ⟨k,1,none⟩=some b∧w.cell? ⟨k,2,none⟩=some c∧w.cell? ⟨k,3,none⟩=some d∧w.cell? ⟨k,4,none⟩=some e∧w.cell? ⟨k,5,none⟩=some f∧w.cell? ⟨k,6,none⟩=some g:=by
 simp [World.cell?,h]
abbrev fnC (kc:Nat):Obj:=.cells #[.func (.func 53) #[.pointer (some ⟨kc,0,none⟩)] #[],.func (.func 54) #[.pointer (some ⟨kc,0,none⟩)] #[],.func (.func 55) #[.pointer (some ⟨kc,0,none⟩)] #[],.func (.func 56) #[.pointer (some ⟨kc,0,none⟩)] #[],.func (.func 57) #[.pointer (some ⟨kc,0,none⟩)] #[],.func (.func 58) #[.pointer (some ⟨kc,0,none⟩)] #[],.func (.func 59) #[.pointer (some ⟨kc,0,none⟩)] #[]] 95
theorem eaV_z {l:List L9.Ins} {p:Nat→Bool} {e:Int} (he:e≠0) (h:(eaV l p e).2=0):eaV l p e=(0,0):=by
 unfold eaV at h ⊢
 split at h
 ·rfl
 ·exact absurd h he
theorem rlV_z {o:Ob} {l:List L9.Ins} (h:(rlV o l).2=0):rlV o l=(0,0):=by
 unfold rlV at h ⊢
 split at h
 ·rfl
 ·cases h
theorem insE_zz {c:List UInt8} (h:(insE c).2=0):insE c=(0,0):=insE_ok (insE_z.1 h)
theorem fr_hit {x:Int × Int} {r:List (Int × Int)} (h:x.2≠0):fr (x::r)=x:=by rw [fr,if_pos h]
theorem fr_skip {x:Int × Int} {r:List (Int × Int)} (h:x.2=0):fr (x::r)=fr r:=by rw [fr,if_neg (by simpa using h)]
structure CkI (o:Ob) (kc g:Nat) (vm vc vr:Value) (w:World) (S E:Int) (k:Nat) (wr:World):Prop where
 gr:w.grownBy wr (some kc)
 fns:wr.heap[g]?=some (fnC kc)
 nil:k≤1→wr.heap[kc]?=some (ckC vm vc vr (.slice none 0 0) (.slice none 0 0))
 ob:1≤k→chE o=0
 cd:2≤k→(L5.la (rdC o.code)).e=0
 at':2≤k→∃ vl vt,CkA wr kc vm vc vr vl vt (inL o.code)
 fd:fr ((vL o).drop k)=(S,E)
theorem CkI.low {o:Ob} {kc g:Nat} {vm vc vr:Value} {w w0:World} {S E:Int} {k:Nat} {wr:World} (h:CkI o kc g vm vc vr w S E k wr) (hb:Below w0.heap.size w0 w) (hlo:w0.heap.size≤kc):Below w0.heap.size w0 wr:=hb.grown h.gr hb.size (fun q e=>by cases e;exact hlo)
theorem CkI.next {o:Ob} {kc g:Nat} {vm vc vr:Value} {w:World} {S E:Int} {k:Nat} {wr W:World} (h:CkI o kc g vm vc vr w S E k wr) (hb:Below wr.heap.size wr W) (hk:k≠1) (h0:k=0→chE o=0) (hf:fr ((vL o).drop (k+1))=(S,E)):CkI o kc g vm vc vr w S E (k+1) W :=
 ⟨gr_tr h.gr (gr_of hb _),L8.row_up h.fns hb,fun _=>L8.row_up (h.nil (by omega)) hb,fun _=>if h1:k=0 then h0 h1 else h.ob (by omega),fun _=>h.cd (by omega),fun _=>by obtain⟨vl,vt,hA⟩:=h.at' (by omega);exact⟨vl,vt,hA.below hb⟩,hf⟩
theorem check_at (kc:Nat) (vm vc vr:Value) (o:Ob) (S E:Int) (w0 w:World) (hlo:w0.heap.size≤kc) (hb:Below w0.heap.size w0 w) (ho:OA w0 vm vc vr o) (hs:OS o) (hT:Tb w0) (hk:w.heap[kc]?=some (ckC vm vc vr (.slice none 0 0) (.slice none 0 0))) (hR:vE o=(S,E)) :
  Calls Tryz.prog 27 #[.pointer (some ⟨kc,0,none⟩)] w fun e w'=>e=.returned (.tuple #[.int .i64 S,.int .i64 E])∧w.grownBy w' (some kc)∧(E=0→∃ vl vt,CkA w' kc vm vc vr vl vt (inL o.code)):=by
 have hmf:∀ (fn:Fn) (first cap:Array Value) (w:World),(Instr.makeFunc fn first cap).run Tryz.prog w=.ok (.func fn first cap) w:=fun _ _ _ _=>rfl
 have hkl:=(Array.getElem?_eq_some_iff.1 hk).1
 have HW:=Lib.hid (And.intro ho (And.intro hs hT))
 have HLO:=Lib.hid (And.intro hlo hb)
 have HNE:=Lib.hid (show kc≠w.heap.size by omega)
 have HI0:=Lib.hid (show CkI o kc w.heap.size vm vc vr w S E 0 (w.alloc (fnC kc)) from ⟨gr_of (bnew w _) _,heap_alloc_new w _,fun _=>L8.row_up hk (bnew w _),fun h=>absurd h (by decide),fun h=>absurd h (by decide),fun h=>absurd h (by decide),hR⟩)
 obtain⟨g,hg⟩:∃ g,w.heap.size=g:=⟨_,rfl⟩
 clear ho hs hT hlo hb hk hR
 go_enter Tryz.func27,Tryz.ntmps27
 go_wp2
 go_step3
 go_wp2
 go_step3
 go_wp2
 clear hmf
 rw [hg] at HNE HI0
 clear hg
 go_loopg [2,3,22] 7 (fun gh s2 s3 i wr=>∃ k:Nat,k+gh=7∧s2=.int .i64 0∧s3=.int .i64 0∧i=.int .i64 (k:Int)∧Hid (CkI o kc g vm vc vr w S E k wr))
 case atStart=>exact⟨0,rfl,rfl,rfl,rfl,HI0⟩
 case round =>
  clear HI0
  obtain⟨k,hk7,rfl,rfl,rfl,hI⟩:=hrel
  cases gk with
  | succ gh =>
  have hB:=hI.out.low HLO.out.2 HLO.out.1
  have hgl:=(Array.getElem?_eq_some_iff.1 hI.out.fns).1
  obtain⟨p0,p1,p2,p3,p4,p5,p6⟩:=cells7c hI.out.fns
  rcases (show k=0∨k=1∨k=2∨k=3∨k=4∨k=5∨k=6 by omega) with rfl|rfl|rfl|rfl|rfl|rfl|rfl
  ·clear p1 p2 p3 p4 p5 p6
   have hfr:=hI.out.fd
   have HC:=Lib.hid (cobject_at kc vm vc vr _ _ o (chE o) wr (hI.out.nil (by omega)) (HW.out.1.below hB) HW.out.2.1 (tb_below HW.out.2.2 hB) rfl)
   obtain⟨b,hb0⟩:∃ b,chE o=b:=⟨_,rfl⟩
   rw [hb0] at HC
   by_cases hz:b=0
   ·subst hz
    have HF:=Lib.hid (show fr ((vL o).drop 1)=(S,E) by rw [← hfr];exact (fr_skip (x:=(0,chE o)) hb0).symm)
    have HZ:=Lib.hid hb0
    clear hfr hb0
    go_wp2_with (go_at_call 53;((with_reducible refine (HC.out).mono ?_);rintro e w1 ⟨rfl,b1⟩))
    go_roundg gh
    case measure=>omega
    case rel =>
     exact⟨1,by omega,rfl,rfl,by go_num,Lib.hid (hI.out.next b1 (by decide) (fun _=>HZ.out) HF.out)⟩
   ·have HF:=Lib.hid (show (S,E)=(0,b) by rw [← hfr,← hb0];exact fr_hit (x:=(0,chE o)) (by rw [hb0];exact hz))
    have hzb:(b != 0)=true:=by simpa using hz
    clear hfr hb0
    have HZ:=Lib.hid hz
    clear hz
    go_wp2_with (go_at_call 53;((with_reducible refine (HC.out).mono ?_);rintro e w1 ⟨rfl,b1⟩))
    try rw [Exit.noGoto_ret]
    go_ret2
    cases HF.out
    exact⟨rfl,gr_tr hI.out.gr (gr_of b1 _),fun h=>absurd h HZ.out⟩
  ·clear p0 p2 p3 p4 p5 p6
   have hfr:=hI.out.fd
   have HC:=Lib.hid (cinstr_at kc vm vc vr o wr (hI.out.nil (by omega)) ((HW.out.1.below hB).c) HW.out.2.1.c (tb_below HW.out.2.2 hB).1)
   unfold InP at HC
   obtain⟨a,b,hab⟩:∃ a b,insE o.code=(a,b):=⟨_,_,rfl⟩
   rw [hab] at HC
   by_cases hz:b=0
   ·subst hz
    have hz2:=insE_zz (show (insE o.code).2=0 by rw [hab])
    rw [hz2] at hab
    cases hab
    have HF:=Lib.hid (show fr ((vL o).drop 2)=(S,E) by rw [← hfr];exact (fr_skip (x:=insE o.code) (by rw [hz2])).symm)
    have HZ:=Lib.hid (insE_z.1 (by rw [hz2]))
    clear hfr hz2
    go_wp2_with (go_at_call 54;((with_reducible refine (HC.out).mono ?_);rintro e w1 ⟨rfl,g1,c1⟩))
    go_roundg gh
    case measure=>omega
    case rel =>
     obtain⟨vl,vt,hA⟩:=c1 HZ.out
     exact⟨2,by omega,rfl,rfl,by go_num,Lib.hid ⟨gr_tr hI.out.gr g1,(g1.block g (Array.getElem?_eq_some_iff.1 hI.out.fns).1 (fun e=>HNE.out (by cases e;rfl))).trans hI.out.fns,fun h=>absurd h (by decide),fun _=>hI.out.ob (by omega),fun _=>HZ.out,fun _=>⟨vl,vt,hA⟩,HF.out⟩⟩
   ·have HF:=Lib.hid (show (S,E)=(a,b) by rw [← hfr,← hab];exact fr_hit (x:=insE o.code) (by rw [hab];exact hz))
    have hzb:(b != 0)=true:=by simpa using hz
    clear hfr hab
    have HZ:=Lib.hid hz
    clear hz
    go_wp2_with (go_at_call 54;((with_reducible refine (HC.out).mono ?_);rintro e w1 ⟨rfl,g1,c1⟩))
    try rw [Exit.noGoto_ret]
    go_ret2
    cases HF.out
    exact⟨rfl,gr_tr hI.out.gr g1,fun h=>absurd h HZ.out⟩
  ·clear p0 p1 p3 p4 p5 p6
   have hfr:=hI.out.fd
   obtain⟨vl,vt,hA⟩:=hI.out.at' (by omega)
   have h0:=hI.out.cd (by omega)
   have hG:=L16.gd_of (hI.out.ob (by omega))
   have hlen:=inL_len h0
   have hll:=len_le (inL o.code) (inL_sl h0)
   have hcl:=HW.out.2.1.c
   have hm:(inL o.code).length≤100000:=by omega
   obtain⟨a,b,hab⟩:∃ a b,eaV (inL o.code) (pF (inL o.code)) 12=(a,b):=⟨_,_,rfl⟩
   have HC:=Lib.hid (cfields_at kc vm vc vr vl vt _ a b wr hA hm hab)
   clear hA h0 hG hlen hll hcl hm
   by_cases hz:b=0
   ·subst hz
    have hz2:=eaV_z (by decide) (show (eaV (inL o.code) (pF (inL o.code)) 12).2=0 by rw [hab])
    rw [hz2] at hab
    cases hab
    have HF:=Lib.hid (show fr ((vL o).drop 3)=(S,E) by rw [← hfr];exact (fr_skip (x:=eaV (inL o.code) (pF (inL o.code)) 12) (by rw [hz2])).symm)
    clear hfr hz2
    go_wp2_with (go_at_call 55;((with_reducible refine (HC.out).mono ?_);rintro e w1 ⟨rfl,b1⟩))
    go_roundg gh
    case measure=>omega
    case rel =>
     exact⟨3,by omega,rfl,rfl,by go_num,Lib.hid (hI.out.next b1 (by decide) (fun h=>absurd h (by decide)) HF.out)⟩
   ·have HF:=Lib.hid (show (S,E)=(a,b) by rw [← hfr,← hab];exact fr_hit (x:=eaV (inL o.code) (pF (inL o.code)) 12) (by rw [hab];exact hz))
    have hzb:(b != 0)=true:=by simpa using hz
    clear hfr hab
    have HZ:=Lib.hid hz
    clear hz
    go_wp2_with (go_at_call 55;((with_reducible refine (HC.out).mono ?_);rintro e w1 ⟨rfl,b1⟩))
    try rw [Exit.noGoto_ret]
    go_ret2
    cases HF.out
    exact⟨rfl,gr_tr hI.out.gr (gr_of b1 _),fun h=>absurd h HZ.out⟩
  ·clear p0 p1 p2 p4 p5 p6
   have hfr:=hI.out.fd
   obtain⟨vl,vt,hA⟩:=hI.out.at' (by omega)
   have h0:=hI.out.cd (by omega)
   have hG:=L16.gd_of (hI.out.ob (by omega))
   have hlen:=inL_len h0
   have hll:=len_le (inL o.code) (inL_sl h0)
   have hcl:=HW.out.2.1.c
   have hm:(inL o.code).length≤100000:=by omega
   obtain⟨a,b,hab⟩:∃ a b,rlV o (inL o.code)=(a,b):=⟨_,_,rfl⟩
   have HC:=Lib.hid (relocs_at kc vm vc vr vl vt o _ a b wr hA ((HW.out.1.below hB).r) (cg_of hG h0) hm HW.out.2.1.r (by omega) hab)
   clear hA h0 hG hlen hll hcl hm
   by_cases hz:b=0
   ·subst hz
    have hz2:=rlV_z (show (rlV o (inL o.code)).2=0 by rw [hab])
    rw [hz2] at hab
    cases hab
    have HF:=Lib.hid (show fr ((vL o).drop 4)=(S,E) by rw [← hfr];exact (fr_skip (x:=rlV o (inL o.code)) (by rw [hz2])).symm)
    clear hfr hz2
    go_wp2_with (go_at_call 56;((with_reducible refine (HC.out).mono ?_);rintro e w1 ⟨rfl,b1⟩))
    go_roundg gh
    case measure=>omega
    case rel =>
     exact⟨4,by omega,rfl,rfl,by go_num,Lib.hid (hI.out.next b1 (by decide) (fun h=>absurd h (by decide)) HF.out)⟩
   ·have HF:=Lib.hid (show (S,E)=(a,b) by rw [← hfr,← hab];exact fr_hit (x:=rlV o (inL o.code)) (by rw [hab];exact hz))
    have hzb:(b != 0)=true:=by simpa using hz
    clear hfr hab
    have HZ:=Lib.hid hz
    clear hz
    go_wp2_with (go_at_call 56;((with_reducible refine (HC.out).mono ?_);rintro e w1 ⟨rfl,b1⟩))
    try rw [Exit.noGoto_ret]
    go_ret2
    cases HF.out
    exact⟨rfl,gr_tr hI.out.gr (gr_of b1 _),fun h=>absurd h HZ.out⟩
  ·clear p0 p1 p2 p3 p5 p6
   have hfr:=hI.out.fd
   obtain⟨vl,vt,hA⟩:=hI.out.at' (by omega)
   have h0:=hI.out.cd (by omega)
   have hG:=L16.gd_of (hI.out.ob (by omega))
   have hlen:=inL_len h0
   have hll:=len_le (inL o.code) (inL_sl h0)
   have hcl:=HW.out.2.1.c
   have hm:(inL o.code).length≤100000:=by omega
   obtain⟨a,b,hab⟩:∃ a b,eaV (inL o.code) (pJ (inL o.code)) 13=(a,b):=⟨_,_,rfl⟩
   have HC:=Lib.hid (cjumps_at kc vm vc vr vl vt _ a b wr hA hm (fun x hx=>by have:=inL_off h0 x hx;omega) hab)
   clear hA h0 hG hlen hll hcl hm
   by_cases hz:b=0
   ·subst hz
    have hz2:=eaV_z (by decide) (show (eaV (inL o.code) (pJ (inL o.code)) 13).2=0 by rw [hab])
    rw [hz2] at hab
    cases hab
    have HF:=Lib.hid (show fr ((vL o).drop 5)=(S,E) by rw [← hfr];exact (fr_skip (x:=eaV (inL o.code) (pJ (inL o.code)) 13) (by rw [hz2])).symm)
    clear hfr hz2
    go_wp2_with (go_at_call 57;((with_reducible refine (HC.out).mono ?_);rintro e w1 ⟨rfl,b1⟩))
    go_roundg gh
    case measure=>omega
    case rel =>
     exact⟨5,by omega,rfl,rfl,by go_num,Lib.hid (hI.out.next b1 (by decide) (fun h=>absurd h (by decide)) HF.out)⟩
   ·have HF:=Lib.hid (show (S,E)=(a,b) by rw [← hfr,← hab];exact fr_hit (x:=eaV (inL o.code) (pJ (inL o.code)) 13) (by rw [hab];exact hz))
    have hzb:(b != 0)=true:=by simpa using hz
    clear hfr hab
    have HZ:=Lib.hid hz
    clear hz
    go_wp2_with (go_at_call 57;((with_reducible refine (HC.out).mono ?_);rintro e w1 ⟨rfl,b1⟩))
    try rw [Exit.noGoto_ret]
    go_ret2
    cases HF.out
    exact⟨rfl,gr_tr hI.out.gr (gr_of b1 _),fun h=>absurd h HZ.out⟩
  ·clear p0 p1 p2 p3 p4 p6
   have hfr:=hI.out.fd
   obtain⟨vl,vt,hA⟩:=hI.out.at' (by omega)
   have h0:=hI.out.cd (by omega)
   have hG:=L16.gd_of (hI.out.ob (by omega))
   have hlen:=inL_len h0
   have hll:=len_le (inL o.code) (inL_sl h0)
   have hcl:=HW.out.2.1.c
   have hm:(inL o.code).length≤100000:=by omega
   obtain⟨a,b,hab⟩:∃ a b,eaV (inL o.code) (pW (inL o.code)) 14=(a,b):=⟨_,_,rfl⟩
   have HC:=Lib.hid (cwrites_at kc vm vc vr vl vt _ a b wr hA hm hab)
   clear hA h0 hG hlen hll hcl hm
   by_cases hz:b=0
   ·subst hz
    have hz2:=eaV_z (by decide) (show (eaV (inL o.code) (pW (inL o.code)) 14).2=0 by rw [hab])
    rw [hz2] at hab
    cases hab
    have HF:=Lib.hid (show fr ((vL o).drop 6)=(S,E) by rw [← hfr];exact (fr_skip (x:=eaV (inL o.code) (pW (inL o.code)) 14) (by rw [hz2])).symm)
    clear hfr hz2
    go_wp2_with (go_at_call 58;((with_reducible refine (HC.out).mono ?_);rintro e w1 ⟨rfl,b1⟩))
    go_roundg gh
    case measure=>omega
    case rel =>
     exact⟨6,by omega,rfl,rfl,by go_num,Lib.hid (hI.out.next b1 (by decide) (fun h=>absurd h (by decide)) HF.out)⟩
   ·have HF:=Lib.hid (show (S,E)=(a,b) by rw [← hfr,← hab];exact fr_hit (x:=eaV (inL o.code) (pW (inL o.code)) 14) (by rw [hab];exact hz))
    have hzb:(b != 0)=true:=by simpa using hz
    clear hfr hab
    have HZ:=Lib.hid hz
    clear hz
    go_wp2_with (go_at_call 58;((with_reducible refine (HC.out).mono ?_);rintro e w1 ⟨rfl,b1⟩))
    try rw [Exit.noGoto_ret]
    go_ret2
    cases HF.out
    exact⟨rfl,gr_tr hI.out.gr (gr_of b1 _),fun h=>absurd h HZ.out⟩
  ·clear p0 p1 p2 p3 p4 p5
   have hfr:=hI.out.fd
   obtain⟨vl,vt,hA⟩:=hI.out.at' (by omega)
   have h0:=hI.out.cd (by omega)
   have hG:=L16.gd_of (hI.out.ob (by omega))
   have hlen:=inL_len h0
   have hll:=len_le (inL o.code) (inL_sl h0)
   have hcl:=HW.out.2.1.c
   have hm:(inL o.code).length≤100000:=by omega
   obtain⟨a,b,hab⟩:∃ a b,eaV (inL o.code) (pE (inL o.code)) 15=(a,b):=⟨_,_,rfl⟩
   have HC:=Lib.hid (cend_at kc vm vc vr vl vt _ a b wr hA hm (inL_pos hG h0) hab)
   clear hA h0 hG hlen hll hcl hm
   by_cases hz:b=0
   ·subst hz
    have hz2:=eaV_z (by decide) (show (eaV (inL o.code) (pE (inL o.code)) 15).2=0 by rw [hab])
    rw [hz2] at hab
    cases hab
    have HF:=Lib.hid (show fr ((vL o).drop 7)=(S,E) by rw [← hfr];exact (fr_skip (x:=eaV (inL o.code) (pE (inL o.code)) 15) (by rw [hz2])).symm)
    clear hfr hz2
    go_wp2_with (go_at_call 59;((with_reducible refine (HC.out).mono ?_);rintro e w1 ⟨rfl,b1⟩))
    go_roundg gh
    case measure=>omega
    case rel =>
     exact⟨7,by omega,rfl,rfl,by go_num,Lib.hid (hI.out.next b1 (by decide) (fun h=>absurd h (by decide)) HF.out)⟩
   ·have HF:=Lib.hid (show (S,E)=(a,b) by rw [← hfr,← hab];exact fr_hit (x:=eaV (inL o.code) (pE (inL o.code)) 15) (by rw [hab];exact hz))
    have hzb:(b != 0)=true:=by simpa using hz
    clear hfr hab
    have HZ:=Lib.hid hz
    clear hz
    go_wp2_with (go_at_call 59;((with_reducible refine (HC.out).mono ?_);rintro e w1 ⟨rfl,b1⟩))
    try rw [Exit.noGoto_ret]
    go_ret2
    cases HF.out
    exact⟨rfl,gr_tr hI.out.gr (gr_of b1 _),fun h=>absurd h HZ.out⟩
  | zero =>
   obtain rfl:k=7:=by omega
   have HE:=Lib.hid (show (S,E)=(0,0) from hI.out.fd.symm)
   go_wp2
   try rw [Exit.noGoto_ret]
   go_ret2
   cases HE.out
   exact⟨rfl,hI.out.gr,fun _=>hI.out.at' (by omega)⟩
end Go.Proofs.YtihiggnglmhggaaGreatDoor.L17
end
