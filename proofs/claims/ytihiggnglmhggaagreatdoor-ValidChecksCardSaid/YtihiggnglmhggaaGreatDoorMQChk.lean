/- Lemmas and walks of L17La: what each theorem states; conditions stand in each theorem. -/
import Derived.Test.YtihiggnglmhggaaGreatDoorMQR
set_option maxHeartbeats 4000000
set_option maxRecDepth 100000
section
section
namespace Go.Proofs.YtihiggnglmhggaaGreatDoor.L17
open Go.RowKit L3 L4 L12 L14
open L13 (Ob)
open L16 (chE OA OS OW Sm16 Tb tb_below)
attribute [local go_sem] Oper.semAt_some
section
variable (vm vc vr:Value) (o:Ob) (w:World) (ho:OA w vm vc vr o) (hw:OW o) (hT:Tb w)
include ho hw hT
theorem checks_walk:Calls Tryz.prog 3 #[.agg #[vm,vc,vr]] w fun e w'=>e=.returned (.bool true)∧Below w.heap.size w w':=by
 have HA:=Lib.hid (fun (W:World) (h:Below w.heap.size w W)=>alive17 W (tb_below hT h))
 obtain⟨S,E,hE⟩:∃ S E,vE o=(S,E):=⟨_,_,rfl⟩
 have HO:=Lib.hid (fun (W:World) (h:Below w.heap.size w W)=>And.intro (ho.below h) (tb_below hT h))
 have HE:=Lib.hid hE
 obtain⟨a1,c1,a2,c2,a3,c3,rfl,rfl,rfl⟩:=oa_form ho
 have k0:=heap_alloc_new w (.cells #[.slice a1 o.maps.length c1,.slice a2 o.code.length c2,.slice a3 o.rels.length c3] 26)
 have K0:=Lib.hid k0
 have HB:=Lib.hid (bnew w (.cells #[.slice a1 o.maps.length c1,.slice a2 o.code.length c2,.slice a3 o.rels.length c3] 26))
 by_cases hs:Sm16 o
 ·have HOS:=Lib.hid (hw.os hs)
  have HF:=Lib.hid (fun (W:World)=>L16.few_yes a1 a2 a3 o.maps.length o.code.length o.rels.length c1 c2 c3 W hs)
  clear ho hw hT hE k0 hs
  go_enter Tryz.func3,Tryz.ntmps3
  go_wp2_with (first
   | (go_at_call 9;((with_reducible refine (HF.out _).mono ?_);rintro e w1 ⟨rfl,b1⟩;have B1:=bch HB.out b1;obtain⟨x0,x1,x2⟩:=L13.cells3 (L8.row_up K0.out b1)))
   | (go_at_call 11;((with_reducible refine (vcheck_at _ _ _ o S E _ (HO.out _ B1).1 HOS.out (HO.out _ B1).2 HE.out).mono ?_);rintro e w2 ⟨rfl,b2⟩;have B2:=bch B1 b2;obtain⟨y0,y1,y2⟩:=L13.cells3 (L8.row_up K0.out (bch b1 b2))))
   | (go_at_call 12;((with_reducible refine (rcheck17_at _ _ _ o S E _ (HO.out _ B2).1 HOS.out HE.out).mono ?_);rintro e w3 ⟨rfl,b3⟩;have B3:=bch B2 b3))
   | (go_at_call 10;((with_reducible refine (HA.out _ B3).mono ?_);rintro e w4 ⟨rfl,b4⟩)))
  go_ret
  exact⟨rfl,bch B3 b4⟩
 ·have HF:=Lib.hid (fun (W:World)=>L16.few_no a1 a2 a3 o.maps.length o.code.length o.rels.length c1 c2 c3 W hw.m hw.c hw.r hs)
  clear ho hw hT hE k0 hs
  go_enter Tryz.func3,Tryz.ntmps3
  go_wp2_with (first
   | (go_at_call 9;((with_reducible refine (HF.out _).mono ?_);rintro e w1 ⟨rfl,b1⟩))
   | (go_at_call 10;((with_reducible refine (HA.out _ (bch HB.out b1)).mono ?_);rintro e w2 ⟨rfl,b2⟩)))
  go_ret
  exact⟨rfl,bch (bch HB.out b1) b2⟩
end
end Go.Proofs.YtihiggnglmhggaaGreatDoor.L17
end
end
