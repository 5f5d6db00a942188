/- The walk of the law ObjectPacks. Condition: memory holds the object; the tables read as the program's text lays them. -/
import Derived.Test.YtohkgdfkklfgmaaGreatDoorM55
import Derived.Test.YtohkgdfkklfgmaaGreatDoorM52
import Derived.Test.YtohkgdfkklfgmaaGreatDoorM53
set_option maxHeartbeats 8000000
namespace Go.Proofs.YtohkgdfkklfgmaaGreatDoor.L16
set_option maxRecDepth 100000
open Go.RowKit L14 L15
open L13 (Ob)
attribute [local go_sem] Oper.semAt_some
section
variable (vm vc vr:Value) (o:Ob) (w:World) (ho:OA w vm vc vr o) (hw:OW o) (hT:Tb w)
include ho hw hT
theorem packs_walk:Calls Tryz.prog 4 #[.agg #[vm,vc,vr]] w fun e w'=>e=.returned (.bool true)∧Below w.heap.size w w':=by
 obtain⟨a1,c1,a2,c2,a3,c3,rfl,rfl,rfl⟩:=ho.form
 have k0:=heap_alloc_last w (.cells #[.slice a1 o.maps.length c1,.slice a2 o.code.length c2,.slice a3 o.rels.length c3] 26)
 have b0:=bnew w (.cells #[.slice a1 o.maps.length c1,.slice a2 o.code.length c2,.slice a3 o.rels.length c3] 26)
 have HA:=Lib.hid (fun (W:World) (h:Below w.heap.size w W)=>alive16 W (tb_below hT h))
 by_cases hs:Sm16 o
 ·have hos:=hw.os hs
  have HF:=Lib.hid (fun (W:World)=>few_yes a1 a2 a3 o.maps.length o.code.length o.rels.length c1 c2 c3 W hs)
  obtain⟨R,hR⟩:∃ R,chE o=R:=⟨_,rfl⟩
  have HR:=Lib.hid (fun (W:World) (h:Below w.heap.size w W)=>rcheck16_at _ _ _ o R W (ho.below h) hos hR)
  have K0:=Lib.hid k0
  have HB:=Lib.hid b0
  by_cases h0:R=0
  ·subst h0
   obtain⟨N,hN⟩:∃ N,(pkB o).length=N:=⟨_,rfl⟩
   have hNb:N≤1000000000:=by
    have h1:=(fw_secs (gd_of hR)).sz
    rw [← hN,pkB,wr_len];omega
   have HP:=Lib.hid (fun (W:World) (h:Below w.heap.size w W)=>pack_yes _ _ _ o W (ho.below h) hos (tb_below hT h) N hR hN)
   have HS:=Lib.hid (fun (W:World) (h:Below w.heap.size w W)=>osize_yes _ _ _ o W (ho.below h) hos (tb_below hT h) N hR hN)
   have HQ:=Lib.hid (fun (W:World) (h:Below w.heap.size w W)=>rpack16_at _ _ _ o N W (ho.below h) hos hR hN)
   have HE:=Lib.hid (fun (W:World) (v v':Value) (h1:Rw eB W v (pkB o)) (h2:Rw eB W v' (pkB o))=>rsameB_at v v' (pkB o) (pkB o) true W (by rw [hN];exact hNb) (by rw [hN];exact hNb) h1 h2 (by simp))
   have e3:((N:Int)==(N:Int))=true:=by simp
   clear ho hw hT hs hos hR k0 b0 hN
   generalize o.maps.length=n1 at *
   generalize o.code.length=n2 at *
   generalize o.rels.length=n3 at *
   go_enter Tryz.func4,Tryz.ntmps4
   go_upto_region 3 with (go_at_call 8;((with_reducible refine (HF.out _).mono ?_);rintro e w1 ⟨rfl,b1⟩))
   have B1:=bch HB.out b1
   have K1:=Lib.hid (L8.row_up K0.out b1)
   clear b1
   obtain⟨x0,x1,x2⟩:=L13.cells3 K1.out
   have l0:=World.block_lt_of_cell? _ _ x0
   simp only at l0
   go_wp2_with (first
    | (go_at_call 12;((with_reducible refine (HP.out _ B1).mono ?_);rintro e w2 ⟨⟨pa,pc,rfl,r2⟩,b2⟩;obtain⟨y0,y1,y2⟩:=L13.cells3 (L8.row_up K1.out b2);have l2:=World.block_lt_of_cell? _ _ y0;simp only at l2;have B2:=bch B1 b2))
    | (go_at_call 11;((with_reducible refine (HR.out _ B2).mono ?_);rintro e w3 ⟨rfl,b3⟩;have B3:=bch B2 b3;have r3:=r2.below b3))
    | (go_at_call 9;((with_reducible refine (HA.out _ B3).mono ?_);rintro e w4 ⟨rfl,b4⟩;have r4:=r3.below b4;obtain⟨z0,z1,z2⟩:=L13.cells3 (L8.row_up (L8.row_up (L8.row_up K1.out b2) b3) b4);have l4:=World.block_lt_of_cell? _ _ z0;simp only at l4;have B4:=bch B3 b4))
    | (go_at_call 15;((with_reducible refine (HQ.out _ B4).mono ?_);rintro e w5 ⟨⟨qa,qc,rfl,r5⟩,b5⟩;have B5:=bch B4 b5;have s5:=r4.below b5))
    | (go_at_call 14;((with_reducible refine (HE.out _ _ _ s5 r5).mono ?_);rintro e w6 ⟨rfl,q6,hw6⟩;have b6:Below w5.heap.size w5 w6:=(by rw [hw6];exact bdN (Below.refl _ _) q6);clear hw6;obtain⟨u0,u1,u2⟩:=L13.cells3 (L8.row_up (L8.row_up (L8.row_up (L8.row_up (L8.row_up K1.out b2) b3) b4) b5) b6);have l6:=World.block_lt_of_cell? _ _ u0;simp only at l6;have B6:=bch B5 b6))
    | (go_at_call 13;((with_reducible refine (HS.out _ B6).mono ?_);rintro e w7 ⟨rfl,b7⟩)))
   go_ret
   exact⟨rfl,bch B6 b7⟩
  ·have HP:=Lib.hid (fun (W:World) (h:Below w.heap.size w W)=>pack_no _ _ _ o W (ho.below h) hos (tb_below hT h) R hR h0)
   have HS:=Lib.hid (fun (W:World) (h:Below w.heap.size w W)=>osize_no _ _ _ o W (ho.below h) hos (tb_below hT h) R hR h0)
   have e2:(R != 0)=true:=by simpa using h0
   have e3:(R==R)=true:=by simp
   clear ho hw hT hs hos hR k0 b0 h0
   generalize o.maps.length=n1 at *
   generalize o.code.length=n2 at *
   generalize o.rels.length=n3 at *
   go_enter Tryz.func4,Tryz.ntmps4
   go_upto_region 3 with (go_at_call 8;((with_reducible refine (HF.out _).mono ?_);rintro e w1 ⟨rfl,b1⟩))
   have B1:=bch HB.out b1
   have K1:=Lib.hid (L8.row_up K0.out b1)
   clear b1
   obtain⟨x0,x1,x2⟩:=L13.cells3 K1.out
   have l0:=World.block_lt_of_cell? _ _ x0
   simp only at l0
   go_wp2_with (first
    | (go_at_call 12;((with_reducible refine (HP.out _ B1).mono ?_);rintro e w2 ⟨rfl,b2⟩;obtain⟨y0,y1,y2⟩:=L13.cells3 (L8.row_up K1.out b2);have l2:=World.block_lt_of_cell? _ _ y0;simp only at l2;have B2:=bch B1 b2))
    | (go_at_call 11;((with_reducible refine (HR.out _ B2).mono ?_);rintro e w3 ⟨rfl,b3⟩;have B3:=bch B2 b3))
    | (go_at_call 9;((with_reducible refine (HA.out _ B3).mono ?_);rintro e w4 ⟨rfl,b4⟩;obtain⟨z0,z1,z2⟩:=L13.cells3 (L8.row_up (L8.row_up (L8.row_up K1.out b2) b3) b4);have l4:=World.block_lt_of_cell? _ _ z0;simp only at l4;have B4:=bch B3 b4))
    | (go_at_call 13;((with_reducible refine (HS.out _ B4).mono ?_);rintro e w7 ⟨rfl,b7⟩)))
   go_ret
   exact⟨rfl,bch B4 b7⟩
 ·have HF:=Lib.hid (fun (W:World)=>few_no a1 a2 a3 o.maps.length o.code.length o.rels.length c1 c2 c3 W hw.m hw.c hw.r hs)
  have K0:=Lib.hid k0
  have HB:=Lib.hid b0
  clear ho hw hT hs k0 b0
  go_enter Tryz.func4,Tryz.ntmps4
  go_wp2_with (first
   | (go_at_call 8;((with_reducible refine (HF.out _).mono ?_);rintro e w1 ⟨rfl,b1⟩))
   | (go_at_call 9;((with_reducible refine (HA.out _ (bch HB.out b1)).mono ?_);rintro e w2 ⟨rfl,b2⟩)))
  go_ret
  exact⟨rfl,bch (bch HB.out b1) b2⟩
end
end Go.Proofs.YtohkgdfkklfgmaaGreatDoor.L16
