/- The walk of the law ObjectChecks. Condition: memory holds the object; the tables read as the program's text lays them. -/
import Derived.Test.YtohkgdfkklfgmaaGreatDoorM55
import Derived.Test.YtohkgdfkklfgmaaGreatDoorM52
import Derived.Test.YtohkgdfkklfgmaaGreatDoorM48
set_option maxHeartbeats 8000000
namespace Go.Proofs.YtohkgdfkklfgmaaGreatDoor.L16
set_option maxRecDepth 100000
open Go.RowKit L14 L15
open L13 (Ob)
attribute [local go_sem] Oper.semAt_some
def SX (w:World) (cs:Array Value) (X:World):Prop:=Below w.heap.size w X∧X.heap[w.heap.size]?=some (.cells cs 26)
theorem SX.below {w X X':World} {cs:Array Value} (h:SX w cs X) (hb:Below X.heap.size X X'):SX w cs X':=⟨bch h.1 hb,L8.row_up h.2 hb⟩
section
variable (vm vc vr:Value) (o:Ob) (w:World) (ho:OA w vm vc vr o) (hw:OW o) (hT:Tb w)
include ho hw hT
theorem checks_walk:Calls Tryz.prog 3 #[.agg #[vm,vc,vr]] w fun e w'=>e=.returned (.bool true)∧Below w.heap.size w w':=by
 obtain⟨a1,c1,a2,c2,a3,c3,rfl,rfl,rfl⟩:=ho.form
 have k0:=heap_alloc_last w (.cells #[.slice a1 o.maps.length c1,.slice a2 o.code.length c2,.slice a3 o.rels.length c3] 26)
 have b0:=bnew w (.cells #[.slice a1 o.maps.length c1,.slice a2 o.code.length c2,.slice a3 o.rels.length c3] 26)
 have HTB:=Lib.hid (fun (W:World) (h:Below w.heap.size w W)=>tb_below hT h)
 have HA:=Lib.hid (fun (W:World) (h:Below w.heap.size w W)=>alive16 W (tb_below hT h))
 by_cases hs:Sm16 o
 ·have hos:=hw.os hs
  obtain⟨R,hR⟩:∃ R,chE o=R:=⟨_,rfl⟩
  have HC:=Lib.hid (fun (W:World) (h:Below w.heap.size w W)=>ocheck_at _ _ _ o R W (ho.below h) hos (tb_below hT h) hR)
  have HR:=Lib.hid (fun (W:World) (h:Below w.heap.size w W)=>rcheck16_at _ _ _ o R W (ho.below h) hos hR)
  have HF:=Lib.hid (fun (W:World)=>few_yes a1 a2 a3 o.maps.length o.code.length o.rels.length c1 c2 c3 W hs)
  have e3:(R==R)=true:=by simp
  have K0:=Lib.hid k0
  have HB:=Lib.hid b0
  clear ho hw hT hs hos hR k0 b0
  generalize o.maps.length=n1 at *
  generalize o.code.length=n2 at *
  generalize o.rels.length=n3 at *
  go_enter Tryz.func3,Tryz.ntmps3
  go_upto_region 3 with (go_at_call 8;((with_reducible refine (HF.out _).mono ?_);rintro e w1 ⟨rfl,b1⟩))
  have B1:=bch HB.out b1
  have K1:=Lib.hid (L8.row_up K0.out b1)
  clear b1
  have HS1:=Lib.hid (show SX w #[.slice a1 n1 c1,.slice a2 n2 c2,.slice a3 n3 c3] w1 from ⟨B1,K1.out⟩)
  clear B1 K1
  refine wp_region_held_drew (S:=SX w #[.slice a1 n1 c1,.slice a2 n2 c2,.slice a3 n3 c3]) (by kernel_rfl) (HS1.out.below (Below.refl _ _).drew) (fun hH=>?_)
  refine wpAnyH_ready (rs:=[0]) (by kernel_rfl) (by simp) ?_
  refine AllReadyH.cons (o:=⟨some 7,.call ⟨.value (.func 9),#[],#[]⟩,_,_,_,none⟩) rfl (fun K hK=>?_) AllReadyH.nil
  go_simp
  refine (HA.out _ hH.1).mono ?_
  rintro e _ ⟨rfl,b2⟩
  refine hK.out _ _ (hH.below b2) (fun hH2=>?_)
  clear hK K
  (try simp only [Act.put,zA,zB,zC])
  refine wpAnyH_take (i:=1) (oi:=⟨some 8,.move (.tmp 7),_,_,_,none⟩) (v:=.bool true) rfl (by kernel_rfl) (by kernel_rfl) (by kernel_rfl) (fun _ _ _ h=>h) (Or.inl ⟨by rfl,fun wS hS=>by rfl⟩) hH2 ?_
  simp only [Act.put,zA,zB,zC]
  refine wpAnyH_take (i:=2) (oi:=⟨some 9,.load 26 (.tmp 1),_,_,_,some (1,true)⟩) (v:=.agg #[.slice a1 n1 c1,.slice a2 n2 c2,.slice a3 n3 c3]) rfl (by kernel_rfl) (by kernel_rfl) (by kernel_rfl) (fun _ _ _ h=>h) (Or.inl ⟨by rfl,fun wS hS=>(by obtain⟨d0,d1,d2⟩:=L13.cells3 hS.2;go_simp)⟩) hH2 ?_
  simp only [Act.put,zA,zB,zC]
  refine wpAnyH_take (i:=4) (oi:=⟨some 11,.load 26 (.tmp 1),_,_,_,some (1,true)⟩) (v:=.agg #[.slice a1 n1 c1,.slice a2 n2 c2,.slice a3 n3 c3]) rfl (by kernel_rfl) (by kernel_rfl) (by kernel_rfl) (fun _ _ _ h=>h) (Or.inl ⟨by rfl,fun wS hS=>(by obtain⟨d0,d1,d2⟩:=L13.cells3 hS.2;go_simp)⟩) hH2 ?_
  simp only [Act.put,zA,zB,zC]
  refine wpAnyH_ready (rs:=[3]) (by kernel_rfl) (by simp) ?_
  refine AllReadyH.cons (o:=⟨some 10,.call ⟨.value (.func 10),#[.tmp 9],#[26]⟩,_,_,_,some (1,true)⟩) rfl (fun K hK=>?_) AllReadyH.nil
  go_simp
  refine (HC.out _ hH2.1).mono ?_
  rintro e _ ⟨rfl,b3⟩
  refine hK.out _ _ (hH2.below b3) (fun hH3=>?_)
  clear hK K
  (try simp only [Act.put,zA,zB,zC])
  refine wpAnyH_ready (rs:=[5]) (by kernel_rfl) (by simp) ?_
  refine AllReadyH.cons (o:=⟨some 12,.call ⟨.value (.func 11),#[.tmp 11],#[26]⟩,_,_,_,some (1,true)⟩) rfl (fun K hK=>?_) AllReadyH.nil
  go_simp
  refine (HR.out _ hH3.1).mono ?_
  rintro e _ ⟨rfl,b4⟩
  refine hK.out _ _ (hH3.below b4) (fun hH4=>?_)
  clear hK K
  (try simp only [Act.put,zA,zB,zC])
  refine wpAnyH_take (i:=6) (oi:=⟨some 13,.binOp .eql 3 (.tmp 10) (.tmp 12) 3,_,_,_,some (1,true)⟩) (v:=.bool true) rfl (by kernel_rfl) (by kernel_rfl) (by kernel_rfl) (fun _ _ _ h=>h) (Or.inl ⟨by rfl,fun wS hS=>(by go_simp)⟩) hH4 ?_
  simp only [Act.put,zA,zB,zC]
  refine wpAnyH_take (i:=7) (oi:=⟨some 14,.pick (.tmp 8) (.tmp 13) (.const (.bool false)),_,_,_,none⟩) (v:=.bool true) rfl (by kernel_rfl) (by kernel_rfl) (by kernel_rfl) (fun _ _ _ h=>h) (Or.inl ⟨by rfl,fun wS hS=>by rfl⟩) hH4 ?_
  simp only [Act.put,zA,zB,zC]
  refine wpAnyH_take (i:=8) (oi:=⟨some 2,.assign (.tmp 14),_,_,_,none⟩) (v:=.bool true) rfl (by kernel_rfl) (by kernel_rfl) (by kernel_rfl) (fun _ _ _ h=>h) (Or.inl ⟨by rfl,fun wS hS=>by rfl⟩) hH4 ?_
  simp only [Act.put,zA,zB,zC]
  refine wpAnyH_done (by kernel_rfl) ?_ _
  go_wp2
  go_ret
  exact⟨rfl,hH4.1⟩
 ·have HF:=Lib.hid (fun (W:World)=>few_no a1 a2 a3 o.maps.length o.code.length o.rels.length c1 c2 c3 W hw.m hw.c hw.r hs)
  have K0:=Lib.hid k0
  have HB:=Lib.hid b0
  clear ho hw hT hs k0 b0
  go_enter Tryz.func3,Tryz.ntmps3
  go_wp2_with (first
   | (go_at_call 8;((with_reducible refine (HF.out _).mono ?_);rintro e w1 ⟨rfl,b1⟩))
   | (go_at_call 9;((with_reducible refine (HA.out _ (bch HB.out b1)).mono ?_);rintro e w2 ⟨rfl,b2⟩)))
  go_ret
  exact⟨rfl,bch (bch HB.out b1) b2⟩
end
end Go.Proofs.YtohkgdfkklfgmaaGreatDoor.L16
