/- The walk of the law ObjectParses. Condition: memory holds the bytes; the tables read as the program's text lays them. -/
import Derived.Test.YtohkgdfkklfgmaaGreatDoorM55
import Derived.Test.YtohkgdfkklfgmaaGreatDoorM54
set_option maxHeartbeats 8000000
namespace Go.Proofs.YtohkgdfkklfgmaaGreatDoor.L16
set_option maxRecDepth 100000
open Go.RowKit L14 L15
open L13 (Ob)
attribute [local go_sem] Oper.semAt_some
section
variable (v:Value) (l:List UInt8) (w:World) (hv:Rw eB w v l) (hT:Tb w)
include hv hT
theorem parses_walk:Calls Tryz.prog 5 #[v] w fun e w'=>e=.returned (.bool true)∧Below w.heap.size w w':=by
 obtain⟨n,hn⟩:∃ n,l.length=n:=⟨_,rfl⟩
 obtain⟨a,c,rfl,-⟩:=hv.form hn
 have HTB:=Lib.hid (fun (W:World) (h:Below w.heap.size w W)=>tb_below hT h)
 have HA:=Lib.hid (fun (W:World) (h:Below w.heap.size w W)=>alive16 W (tb_below hT h))
 by_cases hs:n≤6000
 ·have hd:=gt_f (a:=(n:Int)) (b:=6000) (by omega)
  have HC:=Lib.hid ((sclone_at (.slice a n c) l w (by omega) hv).mono fun e w' h=>show (∃ a' c',e=.returned (.slice a' n c')∧Rw eB w' (.slice a' n c') l)∧Below w.heap.size w w' by
   obtain⟨v',rfl,ho,hb⟩:=h
   have hr:=Rw.own ho
   obtain⟨a',c',rfl,-⟩:=hr.form hn
   exact⟨⟨a',c',rfl,hr⟩,hb⟩)
  have HE:=Lib.hid (fun (W:World) (v':Value) (h1:Rw eB W (.slice a n c) l) (h2:Rw eB W v' l)=>rsameB_at (.slice a n c) v' l l true W (by omega) (by omega) h1 h2 (by simp))
  have HV:=Lib.hid hv
  by_cases hi:∃ o,Is16 l o
  ·obtain⟨o,hi⟩:=hi
   have hos:OS o:=(parse_is a n c l o w hv (by omega) hT hi).1
   have HP:=Lib.hid (fun (W:World) (a':Option Addr) (c':Nat) (h:Rw eB W (.slice a' n c') l) (ht:Tb W)=>(parse_is a' n c' l o W h (by omega) ht hi).2)
   have HQ:=Lib.hid (fun (W:World) (h:Below w.heap.size w W)=>show Calls Tryz.prog 18 #[.slice a n c] W (RqY o W) by
    rcases rparse16_at a n c l W (hv.below h) (by omega) with ⟨hn,-⟩|⟨q,hq,-,hc⟩
    ·exact absurd hi (hn o)
    ·obtain rfl:=is16_one hi hq
     exact hc)
   have HSa:=Lib.hid (fun (W:World) (vm vc vr vm' vc' vr':Value) (h:OA W vm vc vr o) (h':OA W vm' vc' vr' o)=>same16_at vm vc vr vm' vc' vr' o o true W h h' hos hos (by simp))
   clear hv hT hi hos hn
   go_enter Tryz.func5,Tryz.ntmps5
   go_upto_region 5 with (first
    | (go_at_call 16;((with_reducible refine (HC.out).mono ?_);rintro e w1 ⟨⟨ca,cc,rfl,r1⟩,b1⟩))
    | (go_at_call 17;((with_reducible refine (HP.out _ _ _ r1 (HTB.out _ b1)).mono ?_);rintro e w2 ⟨⟨vm,vc,vr,rfl,h2⟩,b2⟩;obtain⟨a1,c1,a2,c2,a3,c3,rfl,rfl,rfl⟩:=h2.form)))
   have B2:=bch (bch b1 b2) (bnew w2 (.cells #[.slice a1 o.maps.length c1,.slice a2 o.code.length c2,.slice a3 o.rels.length c3] 26))
   have r2:=(r1.below b2).below (bnew w2 (.cells #[.slice a1 o.maps.length c1,.slice a2 o.code.length c2,.slice a3 o.rels.length c3] 26))
   have k2:=heap_alloc_last w2 (.cells #[.slice a1 o.maps.length c1,.slice a2 o.code.length c2,.slice a3 o.rels.length c3] 26)
   have o2:=h2.below (bnew w2 (.cells #[.slice a1 o.maps.length c1,.slice a2 o.code.length c2,.slice a3 o.rels.length c3] 26))
   obtain⟨m2,hm2⟩:∃ m,w2.heap.size=m:=⟨_,rfl⟩
   rw [hm2] at k2 ⊢
   generalize w2.alloc (.cells #[.slice a1 o.maps.length c1,.slice a2 o.code.length c2,.slice a3 o.rels.length c3] 26)=w3 at B2 r2 k2 o2 ⊢
   clear b1 b2 r1 h2 hm2
   go_upto_region 6 with (first
    | (go_at_call 18;((with_reducible refine (HQ.out _ B2).mono ?_);rintro e w4 ⟨⟨vm,vc,vr,rfl,h4⟩,b4⟩;obtain⟨d1,e1,d2,e2,d3,e3,rfl,rfl,rfl⟩:=h4.form)))
   have B4:=bch (bch B2 b4) (bnew w4 (.cells #[.slice d1 o.maps.length e1,.slice d2 o.code.length e2,.slice d3 o.rels.length e3] 26))
   have r4:=(r2.below b4).below (bnew w4 (.cells #[.slice d1 o.maps.length e1,.slice d2 o.code.length e2,.slice d3 o.rels.length e3] 26))
   have k4:=L8.row_up (L8.row_up k2 b4) (bnew w4 (.cells #[.slice d1 o.maps.length e1,.slice d2 o.code.length e2,.slice d3 o.rels.length e3] 26))
   have o4:=(o2.below b4).below (bnew w4 (.cells #[.slice d1 o.maps.length e1,.slice d2 o.code.length e2,.slice d3 o.rels.length e3] 26))
   have j4:=heap_alloc_last w4 (.cells #[.slice d1 o.maps.length e1,.slice d2 o.code.length e2,.slice d3 o.rels.length e3] 26)
   have p4:=h4.below (bnew w4 (.cells #[.slice d1 o.maps.length e1,.slice d2 o.code.length e2,.slice d3 o.rels.length e3] 26))
   obtain⟨m4,hm4⟩:∃ m,w4.heap.size=m:=⟨_,rfl⟩
   rw [hm4] at j4 ⊢
   generalize w4.alloc (.cells #[.slice d1 o.maps.length e1,.slice d2 o.code.length e2,.slice d3 o.rels.length e3] 26)=w5 at B4 r4 k4 o4 j4 p4 ⊢
   clear b4 B2 r2 k2 o2 h4 hm4
   go_wp2_with (first
    | (go_at_call 9;((with_reducible refine (HA.out _ B4).mono ?_);rintro e w6 ⟨rfl,b6⟩;obtain⟨x0,x1,x2⟩:=L13.cells3 (L8.row_up k4 b6);obtain⟨y0,y1,y2⟩:=L13.cells3 (L8.row_up j4 b6);have l0:=World.block_lt_of_cell? _ _ x0;have l1:=World.block_lt_of_cell? _ _ y0;simp only at l0 l1;have B6:=bch B4 b6;have r6:=r4.below b6;have o6:=o4.below b6;have p6:=p4.below b6))
    | (go_at_call 19;((with_reducible refine (HSa.out _ _ _ _ _ _ _ o6 p6).mono ?_);rintro e w7 ⟨rfl,b7⟩;have B7:=bch B6 b7;have r7:=r6.below b7))
    | (go_at_call 14;((with_reducible refine (HE.out _ _ (HV.out.below B7) r7).mono ?_);rintro e w8 ⟨rfl,q8,rfl⟩)))
   go_ret
   exact⟨rfl,bdN B7 _⟩
  ·have hno:∀ q,¬ Is16 l q:=fun q hq=>hi ⟨q,hq⟩
   have HP:=Lib.hid (fun (W:World) (a':Option Addr) (c':Nat) (h:Rw eB W (.slice a' n c') l) (ht:Tb W)=>show Calls Tryz.prog 17 #[.slice a' n c'] W (PaN W) by
    rcases parse16_at a' n c' l W h (by omega) ht with ⟨-,hc⟩|⟨q,hq,-⟩
    ·exact hc
    ·exact absurd hq (hno q))
   have HQ:=Lib.hid (fun (W:World) (h:Below w.heap.size w W)=>show Calls Tryz.prog 18 #[.slice a n c] W (RqN W) by
    rcases rparse16_at a n c l W (hv.below h) (by omega) with ⟨-,hc⟩|⟨q,hq,-⟩
    ·exact hc
    ·exact absurd hq (hno q))
   have HSa:=Lib.hid (fun (W:World)=>same16_at (.slice none 0 0) (.slice none 0 0) (.slice none 0 0) (.slice none 0 0) (.slice none 0 0) (.slice none 0 0) oE oE true W (oE_at W) (oE_at W) oE_os oE_os (by simp))
   clear hv hT hi hno hn
   go_enter Tryz.func5,Tryz.ntmps5
   go_upto_region 5 with (first
    | (go_at_call 16;((with_reducible refine (HC.out).mono ?_);rintro e w1 ⟨⟨ca,cc,rfl,r1⟩,b1⟩))
    | (go_at_call 17;((with_reducible refine (HP.out _ _ _ r1 (HTB.out _ b1)).mono ?_);rintro e w2 ⟨rfl,b2⟩)))
   have B2:=bch (bch b1 b2) (bnew w2 (.cells nil3 26))
   have r2:=(r1.below b2).below (bnew w2 (.cells nil3 26))
   have k2:=heap_alloc_last w2 (.cells nil3 26)
   obtain⟨m2,hm2⟩:∃ m,w2.heap.size=m:=⟨_,rfl⟩
   rw [hm2] at k2 ⊢
   generalize w2.alloc (.cells nil3 26)=w3 at B2 r2 k2 ⊢
   clear b1 b2 r1 hm2
   go_upto_region 6 with (first
    | (go_at_call 18;((with_reducible refine (HQ.out _ B2).mono ?_);rintro e w4 ⟨rfl,b4⟩)))
   have B4:=bch (bch B2 b4) (bnew w4 (.cells nil3 26))
   have r4:=(r2.below b4).below (bnew w4 (.cells nil3 26))
   have k4:=L8.row_up (L8.row_up k2 b4) (bnew w4 (.cells nil3 26))
   generalize w4.alloc (.cells nil3 26)=w5 at B4 r4 k4 ⊢
   clear b4 B2 r2 k2
   go_wp2_with (first
    | (go_at_call 9;((with_reducible refine (HA.out _ B4).mono ?_);rintro e w6 ⟨rfl,b6⟩;obtain⟨x0,x1,x2⟩:=L13.cells3 (L8.row_up k4 b6);have l0:=World.block_lt_of_cell? _ _ x0;simp only at l0;have B6:=bch B4 b6;have r6:=r4.below b6))
    | (go_at_call 19;((with_reducible refine (HSa.out _).mono ?_);rintro e w7 ⟨rfl,b7⟩;have B7:=bch B6 b7;have r7:=r6.below b7))
    | (go_at_call 14;((with_reducible refine (HE.out _ _ (HV.out.below B7) r7).mono ?_);rintro e w8 ⟨rfl,q8,rfl⟩)))
   go_ret
   exact⟨rfl,bdN B7 _⟩
 ·have hd:=gt_t (a:=(n:Int)) (b:=6000) (by omega)
  clear hv hT
  go_enter Tryz.func5,Tryz.ntmps5
  go_wp2_with (go_at_call 9;((with_reducible refine (HA.out _ (Below.refl _ _)).mono ?_);rintro e w6 ⟨rfl,b6⟩))
  go_ret
  exact⟨rfl,b6⟩
end
end Go.Proofs.YtohkgdfkklfgmaaGreatDoor.L16
