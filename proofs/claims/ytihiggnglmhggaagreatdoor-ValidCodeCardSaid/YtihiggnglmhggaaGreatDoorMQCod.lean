/- Lemmas and walks of L17Vc, L17Lc: what each theorem states; conditions stand in each theorem. -/
import Derived.Test.YtihiggnglmhggaaGreatDoorMQR
set_option maxHeartbeats 8000000
set_option maxRecDepth 100000
section
section
namespace Go.Proofs.YtihiggnglmhggaaGreatDoor.L17
open Go.RowKit L3 L4 L12 L14
open L13 (Ob)
open L16 (chE OA OS Tb tb_below Is16)
attribute [local go_sem] Oper.semAt_some
theorem vcode_no (vm vc vr:Value) (o:Ob) (S E:Int) (w:World) (ho:OA w vm vc vr o) (hs:OS o) (hT:Tb w) (hR:vE o=(S,E)) (h0:E≠0) :
  Calls Tryz.prog 15 #[.agg #[vm,vc,vr]] w fun e w'=>e=.returned (.tuple #[.slice none 0 0,.int .i64 E])∧Below w.heap.size w w':=by
 have HC:=Lib.hid (fun (x:Obj) (k:Nat) (hk:k=w.heap.size+1)=>check_two vm vc vr o S E w ho hs hT hR x k hk)
 have hzb:(E != 0)=true:=by simpa using h0
 obtain⟨a1,c1,a2,c2,a3,c3,rfl,rfl,rfl⟩:=oa_form ho
 clear ho hs hT hR h0
 go_enter Tryz.func15,Tryz.ntmps15
 go_wp2_with (go_at_call 27;((with_reducible refine (HC.out _ _ (by simp)).mono ?_);rintro e w1 ⟨rfl,b1,-⟩))
 go_ret2
 exact⟨rfl,b1⟩
end Go.Proofs.YtihiggnglmhggaaGreatDoor.L17
end
section
namespace Go.Proofs.YtihiggnglmhggaaGreatDoor.L17
open Go.RowKit L3 L4 L12 L14
open L13 (Ob)
open L16 (chE OA OS OW Sm16 Tb tb_below)
attribute [local go_sem] Oper.semAt_some
theorem vE_la {o:Ob} {S:Int} (h:vE o=(S,0)):chE o=0∧(L5.la (rdC o.code)).e=0:=by
 unfold vE vL at h
 by_cases h1:chE o=0
 ·rw [fr_skip (x:=(0,chE o)) h1] at h
  by_cases h2:(L5.la (rdC o.code)).e=0
  ·exact⟨h1,h2⟩
  ·rw [fr_hit (x:=insE o.code) (by rw [insE_no h2];exact h2),insE_no h2] at h
   exact absurd (congrArg Prod.snd h) h2
 ·rw [fr_hit (x:=(0,chE o)) h1] at h
  exact absurd (congrArg Prod.snd h) h1
section
variable (vm vc vr:Value) (o:Ob) (w:World) (ho:OA w vm vc vr o) (hw:OW o) (hT:Tb w)
include ho hw hT
theorem code_walk:Calls Tryz.prog 5 #[.agg #[vm,vc,vr]] w fun e w'=>e=.returned (.bool true)∧Below w.heap.size w w':=by
 have HA:=Lib.hid (fun (W:World) (h:Below w.heap.size w W)=>alive17 W (tb_below hT h))
 obtain⟨S,E,hE⟩:∃ S E,vE o=(S,E):=⟨_,_,rfl⟩
 have HO:=Lib.hid (fun (W:World) (h:Below w.heap.size w W)=>And.intro (ho.below h) (tb_below hT h))
 have HE:=Lib.hid hE
 obtain⟨a1,c1,a2,c2,a3,c3,rfl,rfl,rfl⟩:=oa_form ho
 have k0:=heap_alloc_new w (.cells #[.slice a1 o.maps.length c1,.slice a2 o.code.length c2,.slice a3 o.rels.length c3] 26)
 have K0:=Lib.hid k0
 have HB:=Lib.hid (bnew w (.cells #[.slice a1 o.maps.length c1,.slice a2 o.code.length c2,.slice a3 o.rels.length c3] 26))
 by_cases hs:Sm16 o
 ·have HOS:=Lib.hid (hw.os hs)
  have HF:=Lib.hid (fun (W:World)=>L16.few_yes a1 a2 a3 o.maps.length o.code.length o.rels.length c1 c2 c3 W hs)
  by_cases h0:E=0
  ·subst h0
   obtain⟨hc0,hl0⟩:=vE_la hE
   obtain⟨n,hn⟩:∃ n,(inL o.code).length=n:=⟨_,rfl⟩
   have hlen:=inL_len hl0
   have hll:=len_le (inL o.code) (inL_sl hl0)
   have hcm:=HOS.out.c
   have hnm:(inL o.code).length≤100000:=by omega
   have HL:=Lib.hid (fun (W:World) (h:Below w.heap.size w W)=>prall_ok (.slice a2 o.code.length c2) o.code n W (rw_bs (HO.out W h).1.c hcm) hcm hl0 hn)
   have HSa:=Lib.hid (fun (W:World) (v v':Value) (h:IsAt W v (inL o.code)) (h':IsAt W v' (inL o.code))=>isame12_at v v' (inL o.code) W hnm h h')
   have HN:=Lib.hid hn
   clear ho hw hT hE k0 hs hc0 hl0 hlen hll hcm hnm hn
   go_enter Tryz.func5,Tryz.ntmps5
   go_wp2_with (first
    | (go_at_call 9;((with_reducible refine (HF.out _).mono ?_);rintro e w1 ⟨rfl,b1⟩;have B1:=bch HB.out b1;obtain⟨x0,x1,x2⟩:=L13.cells3 (L8.row_up K0.out b1)))
    | (go_at_call 15;((with_reducible refine (vcode_yes _ _ _ o S n _ (HO.out _ B1).1 HOS.out (HO.out _ B1).2 HE.out HN.out).mono ?_);rintro e w2 ⟨⟨d2,e2,rfl,i2⟩,b2⟩;have B2:=bch B1 b2;have K2:=bch b1 b2;obtain⟨y0,y1,y2⟩:=L13.cells3 (L8.row_up K0.out K2)))
    | (go_at_call 12;((with_reducible refine (rcheck17_at _ _ _ o S 0 _ (HO.out _ B2).1 HOS.out HE.out).mono ?_);rintro e w3 ⟨rfl,b3⟩;have B3:=bch B2 b3;have K3:=bch K2 b3;obtain⟨z0,z1,z2⟩:=L13.cells3 (L8.row_up K0.out K3);have i3:=i2.below b3))
    | (go_at_call 16;((with_reducible refine (HL.out _ B3).mono ?_);rintro e w4 ⟨⟨d4,e4,rfl,j4⟩,b4⟩;have B4:=bch B3 b4;have i4:=i3.below b4))
    | (go_at_call 10;((with_reducible refine (HA.out _ B4).mono ?_);rintro e w5 ⟨rfl,b5⟩;have B5:=bch B4 b5;have i5:=i4.below b5;have j5:=j4.below b5))
    | (go_at_call 17;((with_reducible refine (HSa.out _ _ _ i5 j5).mono ?_);rintro e w6 ⟨rfl,b6⟩)))
   go_ret
   exact⟨rfl,bch B5 b6⟩
  ·have hzb:(E != 0)=true:=by simpa using h0
   have HZ:=Lib.hid h0
   clear ho hw hT hE k0 hs h0
   go_enter Tryz.func5,Tryz.ntmps5
   go_wp2_with (first
    | (go_at_call 9;((with_reducible refine (HF.out _).mono ?_);rintro e w1 ⟨rfl,b1⟩;have B1:=bch HB.out b1;obtain⟨x0,x1,x2⟩:=L13.cells3 (L8.row_up K0.out b1)))
    | (go_at_call 15;((with_reducible refine (vcode_no _ _ _ o S E _ (HO.out _ B1).1 HOS.out (HO.out _ B1).2 HE.out HZ.out).mono ?_);rintro e w2 ⟨rfl,b2⟩;have B2:=bch B1 b2;obtain⟨y0,y1,y2⟩:=L13.cells3 (L8.row_up K0.out (bch b1 b2))))
    | (go_at_call 12;((with_reducible refine (rcheck17_at _ _ _ o S E _ (HO.out _ B2).1 HOS.out HE.out).mono ?_);rintro e w3 ⟨rfl,b3⟩;have B3:=bch B2 b3))
    | (go_at_call 10;((with_reducible refine (HA.out _ B3).mono ?_);rintro e w4 ⟨rfl,b4⟩)))
   go_ret
   exact⟨rfl,bch B3 b4⟩
 ·have HF:=Lib.hid (fun (W:World)=>L16.few_no a1 a2 a3 o.maps.length o.code.length o.rels.length c1 c2 c3 W hw.m hw.c hw.r hs)
  clear ho hw hT hE k0 hs
  go_enter Tryz.func5,Tryz.ntmps5
  go_wp2_with (first
   | (go_at_call 9;((with_reducible refine (HF.out _).mono ?_);rintro e w1 ⟨rfl,b1⟩))
   | (go_at_call 10;((with_reducible refine (HA.out _ (bch HB.out b1)).mono ?_);rintro e w2 ⟨rfl,b2⟩)))
  go_ret
  exact⟨rfl,bch (bch HB.out b1) b2⟩
end
end Go.Proofs.YtihiggnglmhggaaGreatDoor.L17
end
end
