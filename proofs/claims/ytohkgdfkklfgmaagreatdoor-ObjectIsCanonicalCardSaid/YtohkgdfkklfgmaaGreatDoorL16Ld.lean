/- The walk of the law ObjectIsCanonical. Condition: memory holds the bytes; the tables read as the program's text lays them. -/
import Derived.Test.YtohkgdfkklfgmaaGreatDoorM53
import Derived.Test.YtohkgdfkklfgmaaGreatDoorM55
import Derived.Test.YtohkgdfkklfgmaaGreatDoorM48
set_option maxHeartbeats 16000000
namespace Go.Proofs.YtohkgdfkklfgmaaGreatDoor.L16
set_option maxRecDepth 100000
open Go.RowKit L14 L15
open L13 (Ob)
attribute [local go_sem] Oper.semAt_some
theorem five_is {b : List UInt8} {q : Ob} (h : Is16 b q) : rdT b (nS b) = secs q ∧ nS b = 5 := by
  have e := (is16_rd h).2
  refine ⟨e, ?_⟩
  have := congrArg List.length e
  rw [rdT_len] at this
  exact this
theorem wrap_sm {z : Int} (h : 0 ≤ z ∧ z < 9223372036854775808) : IntKind.i64.wrap z = z := by simp [IntKind.wrap, IntKind.bits, IntKind.signed]; omega
theorem secs_kind (o:Ob):∀ k,(h:k<(secs o).length)→((secs o)[k]).1=(k:Int)+1
 | 0,_=>rfl
 | 1,_=>rfl
 | 2,_=>rfl
 | 3,_=>rfl
 | 4,_=>rfl
 | k+5,h=>absurd h (by rw [show (secs o).length=5 from rfl];omega)
theorem secs_len (o:Ob):(secs o).length=5:=rfl
section
variable (v:Value) (l:List UInt8) (w:World) (hv:Rw eB w v l) (hT:Tb w)
include hv hT
theorem canonical_walk:Calls Tryz.prog 6 #[v] w fun e w'=>e=.returned (.bool true)∧Below w.heap.size w w':=by
 obtain⟨n,hn⟩:∃ n,l.length=n:=⟨_,rfl⟩
 obtain⟨a,c,rfl,-⟩:=hv.form hn
 have HTB:=Lib.hid (fun (W:World) (h:Below w.heap.size w W)=>tb_below hT h)
 have HA:=Lib.hid (fun (W:World) (h:Below w.heap.size w W)=>alive16 W (tb_below hT h))
 by_cases hs:n≤6000
 ·have hd:=gt_f (a:=(n:Int)) (b:=6000) (by omega)
  have HV:=Lib.hid hv
  by_cases hi:∃ o,Is16 l o
  ·obtain⟨o,hi⟩:=hi
   obtain⟨hos,hP⟩:=parse_is a n c l o w hv (by omega) hT hi
   have HP:=Lib.hid hP
   have hpl:(pkB o).length=n:=by rw [hi.2];exact hn
   have HK:=Lib.hid (fun (W:World) (vm vc vr:Value) (h:OA W vm vc vr o) (ht:Tb W)=>pack_yes vm vc vr o W h hos ht n hi.1 hpl)
   have HR:=Lib.hid (fun (W:World) (h:Rw eB W (.slice a n c) l)=>show Calls Tryz.prog 20 #[.slice a n c] W fun e w'=>(∃ a' c',e=.returned (.tuple #[.slice a' 5 c',.int .i64 0])∧Ss w' (.slice a' 5 c') (secs o))∧Below W.heap.size W w' by
    have hr:=read_is a n c l W h (by omega) (is16_rd hi).1
    obtain⟨e1,e2⟩:=five_is hi
    rw [e1,e2] at hr
    exact hr)
   have HE:=Lib.hid (fun (W:World) (v':Value) (h1:Rw eB W (.slice a n c) l) (h2:Rw eB W v' (pkB o))=>rsameB_at (.slice a n c) v' l l true W (by omega) (by omega) h1 (by rw [← hi.2];exact (show Rw eB W v' (pkB o) from h2)) (by simp))
   have HD:=Lib.hid (fun (W:World) (v v':Value) (h1:Rw eB W v o.code) (h2:Rw eB W v' o.code)=>rsameB_at v v' o.code o.code true W (by have:=hos.c;omega) (by have:=hos.c;omega) h1 h2 (by simp))
   clear hv hT hi hos hn hP hpl
   go_enter Tryz.func6,Tryz.ntmps6
   go_upto_region 4 with (first
    | (go_at_call 17;((with_reducible refine (HP.out).mono ?_);rintro e w2 ⟨⟨vm,vc,vr,rfl,h2⟩,b2⟩;obtain⟨a1,c1,a2,c2,a3,c3,rfl,rfl,rfl⟩:=h2.form)))
   have B2:=bch b2 (bnew w2 (.cells #[.slice a1 o.maps.length c1,.slice a2 o.code.length c2,.slice a3 o.rels.length c3] 26))
   have k2:=heap_alloc_last w2 (.cells #[.slice a1 o.maps.length c1,.slice a2 o.code.length c2,.slice a3 o.rels.length c3] 26)
   have o2:=h2.below (bnew w2 (.cells #[.slice a1 o.maps.length c1,.slice a2 o.code.length c2,.slice a3 o.rels.length c3] 26))
   obtain⟨kb,hkb⟩:∃ m,w2.heap.size=m:=⟨_,rfl⟩
   rw [hkb] at k2 ⊢
   generalize w2.alloc (.cells #[.slice a1 o.maps.length c1,.slice a2 o.code.length c2,.slice a3 o.rels.length c3] 26)=w3 at B2 k2 o2 ⊢
   clear b2 h2 hkb HP
   obtain⟨x0,x1,x2⟩:=L13.cells3 k2
   have l0:=World.block_lt_of_cell? _ _ x0
   simp only at l0
   go_upto_region 8 with (first
    | (go_at_call 12;((with_reducible refine (HK.out _ _ _ _ o2 (HTB.out _ B2)).mono ?_);rintro e w4 ⟨⟨pa,pc,rfl,r4⟩,b4⟩;have B4:=bch B2 b4))
    | (go_at_call 20;((with_reducible refine (HR.out _ (HV.out.below B4)).mono ?_);rintro e w5 ⟨⟨la,lc,rfl,s5⟩,b5⟩)))
   have B5:=bch B4 b5
   have K5:=Lib.hid (L8.row_up (L8.row_up k2 b4) b5)
   have O5:=Lib.hid ((o2.below b4).below b5)
   have R5:=Lib.hid (r4.below b5)
   have HB5:=Lib.hid B5
   obtain⟨bb,oo,rfl,hlb,y0,dv,y1,r1⟩:=ss_at s5 (secs_len o) 0 (by decide)
   have hr1:Rw eB w5 dv o.code:=r1
   obtain⟨g1,g2,rfl,-⟩:=hr1.form rfl
   have HS:=Lib.hid s5
   have HLB:=Lib.hid hlb
   have HY:=Lib.hid (show w5.cell? ⟨bb,oo+1,none⟩=some (.slice g1 o.code.length g2) by have:=y1;simpa using this)
   have HC:=Lib.hid hr1
   clear r1 hr1 y0 y1 hlb s5 b4 b5 r4 o2 k2 x0 x1 x2 l0 B2 B4 B5 HK HR
   go_wp2
   have HI:Hid (Below w5.heap.size w5 w5):=Lib.hid (Below.refl _ _)
   go_loopw [42] (fun q wr=>∃ k:Nat,k≤5∧q=.int .i64 (k:Int)∧Hid (Below w5.heap.size w5 wr)) (fun q _=>5-(intOf q).toNat)
   case atStart=>exact⟨0,Nat.zero_le _,rfl,HI⟩
   case round =>
    clear HI
    obtain⟨k,hk,rfl,hI⟩:=hrel
    by_cases hlt:k<5
    ·obtain⟨b',o',e',hlb',z0,dv,z1,r1⟩:=ss_at (HS.out.below hI.out) (secs_len o) k hlt
     cases e'
     rw [secs_kind] at z0
     obtain⟨q1,q2,rfl,-⟩:=r1.form rfl
     generalize ((secs o)[k]'(by rw [secs_len];exact hlt)).2.length=D at z1
     have t1:(((k:Int)+1) != ((k:Int)+1))=false:=by simp
     have t2:=wrap_sm (z:=(k:Int)+1) (by omega)
     go_wp2
     go_roundw
     case rel=>exact⟨k+1,hlt,by go_num,Lib.hid (bch hI.out (bnew _ _))⟩
     case measure=>simp [intOf];omega
    ·obtain rfl:k=5:=by omega
     have HW:=Lib.hid hI.out
     clear hI
     go_upto_region 16 with (fail)
     refine wp_region_held_drew (S:=fun X=>Below w5.heap.size w5 X) (by kernel_rfl) (bch HW.out (Below.refl _ _).drew) (fun hH=>?_)
     refine wpAnyH_ready (rs:=[0]) (by kernel_rfl) (by simp) ?_
     refine AllReadyH.cons (o:=⟨some 53,.call ⟨.value (.func 9),#[],#[]⟩,_,_,_,none⟩) rfl (fun K hK=>?_) AllReadyH.nil
     go_simp
     refine (HA.out _ (bch HB5.out hH)).mono ?_
     rintro e _ ⟨rfl,b2⟩
     refine hK.out _ _ (bch hH b2) (fun hH2=>?_)
     clear hK K
     (try simp only [Act.put,zA,zB,zC])
     refine wpAnyH_take (i:=1) (oi:=⟨some 54,.move (.tmp 53),_,_,_,none⟩) (v:=.bool true) rfl (by kernel_rfl) (by kernel_rfl) (by kernel_rfl) (fun _ _ _ h=>h) (Or.inl ⟨by rfl,fun wS hS=>by rfl⟩) hH2 ?_
     simp only [Act.put,zA,zB,zC]
     refine wpAnyH_take (i:=2) (oi:=⟨some 55,.move (.tmp 6),_,_,_,some (1,true)⟩) (v:=.int .i64 0) rfl (by kernel_rfl) (by kernel_rfl) (by kernel_rfl) (fun _ _ _ h=>h) (Or.inl ⟨by rfl,fun wS hS=>by rfl⟩) hH2 ?_
     simp only [Act.put,zA,zB,zC]
     refine wpAnyH_take (i:=3) (oi:=⟨some 56,.binOp .eql 29 (.tmp 55) (.const (.int .i64 0)) 29,_,_,_,some (1,true)⟩) (v:=.bool true) rfl (by kernel_rfl) (by kernel_rfl) (by kernel_rfl) (fun _ _ _ h=>h) (Or.inl ⟨by rfl,fun wS hS=>(by go_simp)⟩) hH2 ?_
     simp only [Act.put,zA,zB,zC]
     refine wpAnyH_take (i:=4) (oi:=⟨some 57,.pick (.tmp 54) (.tmp 56) (.const (.bool false)),_,_,_,none⟩) (v:=.bool true) rfl (by kernel_rfl) (by kernel_rfl) (by kernel_rfl) (fun _ _ _ h=>h) (Or.inl ⟨by rfl,fun wS hS=>by rfl⟩) hH2 ?_
     simp only [Act.put,zA,zB,zC]
     refine wpAnyH_take (i:=5) (oi:=⟨some 58,.move (.tmp 57),_,_,_,none⟩) (v:=.bool true) rfl (by kernel_rfl) (by kernel_rfl) (by kernel_rfl) (fun _ _ _ h=>h) (Or.inl ⟨by rfl,fun wS hS=>by rfl⟩) hH2 ?_
     simp only [Act.put,zA,zB,zC]
     refine wpAnyH_take (i:=6) (oi:=⟨some 59,.move (.tmp 8),_,_,_,some (5,true)⟩) (v:=.int .i64 0) rfl (by kernel_rfl) (by kernel_rfl) (by kernel_rfl) (fun _ _ _ h=>h) (Or.inl ⟨by rfl,fun wS hS=>by rfl⟩) hH2 ?_
     simp only [Act.put,zA,zB,zC]
     refine wpAnyH_take (i:=7) (oi:=⟨some 60,.binOp .eql 29 (.tmp 59) (.const (.int .i64 0)) 29,_,_,_,some (5,true)⟩) (v:=.bool true) rfl (by kernel_rfl) (by kernel_rfl) (by kernel_rfl) (fun _ _ _ h=>h) (Or.inl ⟨by rfl,fun wS hS=>(by go_simp)⟩) hH2 ?_
     simp only [Act.put,zA,zB,zC]
     refine wpAnyH_take (i:=8) (oi:=⟨some 61,.pick (.tmp 58) (.tmp 60) (.const (.bool false)),_,_,_,none⟩) (v:=.bool true) rfl (by kernel_rfl) (by kernel_rfl) (by kernel_rfl) (fun _ _ _ h=>h) (Or.inl ⟨by rfl,fun wS hS=>by rfl⟩) hH2 ?_
     simp only [Act.put,zA,zB,zC]
     refine wpAnyH_take (i:=9) (oi:=⟨some 62,.move (.tmp 61),_,_,_,none⟩) (v:=.bool true) rfl (by kernel_rfl) (by kernel_rfl) (by kernel_rfl) (fun _ _ _ h=>h) (Or.inl ⟨by rfl,fun wS hS=>by rfl⟩) hH2 ?_
     simp only [Act.put,zA,zB,zC]
     refine wpAnyH_take (i:=10) (oi:=⟨some 63,.move (.tmp 0),_,_,_,some (9,true)⟩) (v:=.slice a n c) rfl (by kernel_rfl) (by kernel_rfl) (by kernel_rfl) (fun _ _ _ h=>h) (Or.inl ⟨by rfl,fun wS hS=>by rfl⟩) hH2 ?_
     simp only [Act.put,zA,zB,zC]
     refine wpAnyH_take (i:=11) (oi:=⟨some 64,.move (.tmp 5),_,_,_,some (9,true)⟩) (v:=.slice pa n pc) rfl (by kernel_rfl) (by kernel_rfl) (by kernel_rfl) (fun _ _ _ h=>h) (Or.inl ⟨by rfl,fun wS hS=>by rfl⟩) hH2 ?_
     simp only [Act.put,zA,zB,zC]
     refine wpAnyH_ready (rs:=[12]) (by kernel_rfl) (by simp) ?_
     refine AllReadyH.cons (o:=⟨some 65,.call ⟨.value (.func 14),#[.tmp 63,.tmp 64],#[23,23]⟩,_,_,_,some (9,true)⟩) rfl (fun K hK=>?_) AllReadyH.nil
     go_simp
     refine (HE.out _ _ (HV.out.below (bch HB5.out hH2)) (R5.out.below hH2)).mono ?_
     rintro e _ ⟨rfl,q3,rfl⟩
     refine hK.out _ _ (bch hH2 (bdN (Below.refl _ _) q3)) (fun hH3=>?_)
     clear hK K
     (try simp only [Act.put,zA,zB,zC])
     refine wpAnyH_take (i:=13) (oi:=⟨some 66,.pick (.tmp 62) (.tmp 65) (.const (.bool false)),_,_,_,none⟩) (v:=.bool true) rfl (by kernel_rfl) (by kernel_rfl) (by kernel_rfl) (fun _ _ _ h=>h) (Or.inl ⟨by rfl,fun wS hS=>by rfl⟩) hH3 ?_
     simp only [Act.put,zA,zB,zC]
     refine wpAnyH_take (i:=14) (oi:=⟨some 67,.move (.tmp 66),_,_,_,none⟩) (v:=.bool true) rfl (by kernel_rfl) (by kernel_rfl) (by kernel_rfl) (fun _ _ _ h=>h) (Or.inl ⟨by rfl,fun wS hS=>by rfl⟩) hH3 ?_
     simp only [Act.put,zA,zB,zC]
     refine wpAnyH_take (i:=15) (oi:=⟨some 68,.move (.tmp 7),_,_,_,some (14,true)⟩) (v:=.slice (some ⟨bb,oo,none⟩) 5 lc) rfl (by kernel_rfl) (by kernel_rfl) (by kernel_rfl) (fun _ _ _ h=>h) (Or.inl ⟨by rfl,fun wS hS=>by rfl⟩) hH3 ?_
     simp only [Act.put,zA,zB,zC]
     refine wpAnyH_take (i:=16) (oi:=⟨some 69,.indexAddr 43 (.tmp 68) (.const (.int .i64 0)),_,_,_,some (14,true)⟩) (v:=.pointer (some ⟨bb,oo,none⟩)) rfl (by kernel_rfl) (by kernel_rfl) (by kernel_rfl) (fun _ _ _ h=>h) (Or.inl ⟨by rfl,fun wS hS=>(by go_simp)⟩) hH3 ?_
     simp only [Act.put,zA,zB,zC]
     refine wpAnyH_take (i:=17) (oi:=⟨some 70,.fieldAddr 47 (.tmp 69) 1,_,_,_,some (14,true)⟩) (v:=.pointer (some ⟨bb,oo+1,none⟩)) rfl (by kernel_rfl) (by kernel_rfl) (by kernel_rfl) (fun _ _ _ h=>h) (Or.inl ⟨by rfl,fun wS hS=>(by go_simp)⟩) hH3 ?_
     simp only [Act.put,zA,zB,zC]
     refine wpAnyH_take (i:=18) (oi:=⟨some 71,.load 23 (.tmp 70),_,_,_,some (14,true)⟩) (v:=.slice g1 o.code.length g2) rfl (by kernel_rfl) (by kernel_rfl) (by kernel_rfl) (fun _ _ _ h=>h) (Or.inl ⟨by rfl,fun wS hS=>(by have d0:=(hS.cell (p:=⟨bb,oo+1,none⟩) (by exact HLB.out)).trans HY.out;go_simp)⟩) hH3 ?_
     simp only [Act.put,zA,zB,zC]
     refine wpAnyH_take (i:=19) (oi:=⟨some 72,.fieldAddr 26 (.tmp 3) 1,_,_,_,some (14,true)⟩) (v:=.pointer (some ⟨kb,1,none⟩)) rfl (by kernel_rfl) (by kernel_rfl) (by kernel_rfl) (fun _ _ _ h=>h) (Or.inl ⟨by rfl,fun wS hS=>(by go_simp)⟩) hH3 ?_
     simp only [Act.put,zA,zB,zC]
     refine wpAnyH_take (i:=20) (oi:=⟨some 73,.load 23 (.tmp 72),_,_,_,some (14,true)⟩) (v:=.slice a2 o.code.length c2) rfl (by kernel_rfl) (by kernel_rfl) (by kernel_rfl) (fun _ _ _ h=>h) (Or.inl ⟨by rfl,fun wS hS=>(by obtain⟨d0,d1,d2⟩:=L13.cells3 (L8.row_up K5.out hS);go_simp)⟩) hH3 ?_
     simp only [Act.put,zA,zB,zC]
     refine wpAnyH_ready (rs:=[21]) (by kernel_rfl) (by simp) ?_
     refine AllReadyH.cons (o:=⟨some 74,.call ⟨.value (.func 14),#[.tmp 71,.tmp 73],#[23,23]⟩,_,_,_,some (14,true)⟩) rfl (fun K hK=>?_) AllReadyH.nil
     go_simp
     refine (HD.out _ _ _ (HC.out.below hH3) (O5.out.c.below hH3)).mono ?_
     rintro e _ ⟨rfl,q4,rfl⟩
     refine hK.out _ _ (bch hH3 (bdN (Below.refl _ _) q4)) (fun hH4=>?_)
     clear hK K
     (try simp only [Act.put,zA,zB,zC])
     refine wpAnyH_take (i:=22) (oi:=⟨some 75,.pick (.tmp 67) (.tmp 74) (.const (.bool false)),_,_,_,none⟩) (v:=.bool true) rfl (by kernel_rfl) (by kernel_rfl) (by kernel_rfl) (fun _ _ _ h=>h) (Or.inl ⟨by rfl,fun wS hS=>by rfl⟩) hH4 ?_
     simp only [Act.put,zA,zB,zC]
     refine wpAnyH_take (i:=23) (oi:=⟨some 2,.assign (.tmp 75),_,_,_,none⟩) (v:=.bool true) rfl (by kernel_rfl) (by kernel_rfl) (by kernel_rfl) (fun _ _ _ h=>h) (Or.inl ⟨by rfl,fun wS hS=>by rfl⟩) hH4 ?_
     simp only [Act.put,zA,zB,zC]
     refine wpAnyH_done (by kernel_rfl) ?_ _
     go_wp2
     go_ret
     exact⟨rfl,bch HB5.out hH4⟩
  ·have hno:∀ q,¬ Is16 l q:=fun q hq=>hi ⟨q,hq⟩
   have HP:=Lib.hid (show Calls Tryz.prog 17 #[.slice a n c] w (PaN w) by
    rcases parse16_at a n c l w hv (by omega) hT with ⟨-,hc⟩|⟨q,hq,-⟩
    ·exact hc
    ·exact absurd hq (hno q))
   clear hv hT hi hno hn
   go_enter Tryz.func6,Tryz.ntmps6
   go_wp2_with (first
    | (go_at_call 17;((with_reducible refine (HP.out).mono ?_);rintro e w2 ⟨rfl,b2⟩))
    | (go_at_call 9;((with_reducible refine (HA.out _ (bch b2 (bnew _ _))).mono ?_);rintro e w6 ⟨rfl,b6⟩)))
   go_ret
   exact⟨rfl,bch (bch b2 (bnew _ _)) b6⟩
 ·have hd:=gt_t (a:=(n:Int)) (b:=6000) (by omega)
  clear hv hT
  go_enter Tryz.func6,Tryz.ntmps6
  go_wp2_with (go_at_call 9;((with_reducible refine (HA.out _ (Below.refl _ _)).mono ?_);rintro e w6 ⟨rfl,b6⟩))
  go_ret
  exact⟨rfl,b6⟩
end
end Go.Proofs.YtohkgdfkklfgmaaGreatDoor.L16
