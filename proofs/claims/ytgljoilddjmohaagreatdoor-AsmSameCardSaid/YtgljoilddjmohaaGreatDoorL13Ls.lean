/- The walk of the law on Same. Condition: the tables read as the program's text lays them. -/
import Derived.Test.YtgljoilddjmohaaGreatDoorM30
import Derived.Deep.RegionHeld3
set_option maxRecDepth 100000
set_option maxHeartbeats 8000000
namespace Go.Proofs.YtgljoilddjmohaaGreatDoor.L13
open Go.RowKit Go.Shelf L3 L4 L12
attribute [local go_sem] Oper.semAt_some
def PO2 (w0 W:World) (k k':Nat) (a b c a' b' c':Value):Prop:=Below w0.heap.size w0 W∧W.heap[k]?=some (obC a b c)∧W.heap[k']?=some (obC a' b' c')
theorem keepO {w0 W W':World} {k k':Nat} {a b c a' b' c':Value} (hb:Below W.heap.size W W') (h:PO2 w0 W k k' a b c a' b' c') :
  PO2 w0 W' k k' a b c a' b' c'∧W'.cell? ⟨k,0,none⟩=some a∧W'.cell? ⟨k,1,none⟩=some b∧W'.cell? ⟨k,2,none⟩=some c∧W'.cell? ⟨k',0,none⟩=some a'∧W'.cell? ⟨k',1,none⟩=some b'∧W'.cell? ⟨k',2,none⟩=some c':=by
 have h1:=L8.row_up h.2.1 hb
 have h2:=L8.row_up h.2.2 hb
 obtain⟨p0,p1,p2⟩:=cells3 h1
 obtain⟨q0,q1,q2⟩:=cells3 h2
 exact⟨⟨L2.bch h.1 hb,h1,h2⟩,p0,p1,p2,q0,q1,q2⟩
theorem keepOc {w0 W W':World} {k k':Nat} {a b c a' b' c':Value} (hb:Below W.heap.size W W') (h:PO2 w0 W k k' a b c a' b' c'∧W.cell? ⟨k,0,none⟩=some a∧W.cell? ⟨k,1,none⟩=some b∧W.cell? ⟨k,2,none⟩=some c∧W.cell? ⟨k',0,none⟩=some a'∧W.cell? ⟨k',1,none⟩=some b'∧W.cell? ⟨k',2,none⟩=some c') :
  PO2 w0 W' k k' a b c a' b' c'∧W'.cell? ⟨k,0,none⟩=some a∧W'.cell? ⟨k,1,none⟩=some b∧W'.cell? ⟨k,2,none⟩=some c∧W'.cell? ⟨k',0,none⟩=some a'∧W'.cell? ⟨k',1,none⟩=some b'∧W'.cell? ⟨k',2,none⟩=some c':=keepO hb h.1
theorem asame_walk (vm vc vr vm' vc' vr':Value) (o q:Ob) (w:World) (hT:T13 w) (ho:ObAt w vm vc vr o) (hq:ObAt w vm' vc' vr' q) (hcm:o.code.length≤maxLen) (hcm':q.code.length≤maxLen) (hr:o.maps.length≤8796093022208∧o.rels.length≤8796093022208) (hr':q.maps.length≤8796093022208∧q.rels.length≤8796093022208) :
  Calls Tryz.prog 7 #[.agg #[vm,vc,vr],.agg #[vm',vc',vr']] w fun e w'=>e=.returned (.bool true)∧Below w.heap.size w w':=by
 have HA:=Lib.hid (fun W hb=>alive13 W (hT.below hb))
 obtain⟨b,hb⟩:=L10.bx (o=q)
 have H1:=Lib.hid (fun (hs:ObS o) (hs':ObS q) (X:World) (hX:Below w.heap.size w X)=>same13_at vm vc vr vm' vc' vr' o q b X (ho.below hX) (hq.below hX) hs hs' hb)
 have H2:=Lib.hid (fun (hs:ObS o) (hs':ObS q) (X:World) (hX:Below w.heap.size w X)=>rsame13_at vm vc vr vm' vc' vr' o q b X (ho.below hX) (hq.below hX) hs hs' hb)
 have H3:=Lib.hid (fun (hs:ObS o) (X:World) (hX:Below w.heap.size w X)=>same13_at vm vc vr vm vc vr o o true X (ho.below hX) (ho.below hX) hs hs (by simp))
 have HS:¬ 5000<o.code.length→¬ 500<o.maps.length+o.rels.length→ObS o:=fun h1 h2=>⟨by omega,by omega,by omega⟩
 have HS':¬ 5000<q.code.length→¬ 500<q.maps.length+q.rels.length→ObS q:=fun h1 h2=>⟨by omega,by omega,by omega⟩
 obtain⟨r1,r2⟩:=hr
 obtain⟨r3,r4⟩:=hr'
 unfold maxLen at hcm hcm'
 obtain⟨n1,hn1⟩:∃ n,o.maps.length=n:=⟨_,rfl⟩
 obtain⟨n2,hn2⟩:∃ n,o.code.length=n:=⟨_,rfl⟩
 obtain⟨n3,hn3⟩:∃ n,o.rels.length=n:=⟨_,rfl⟩
 obtain⟨m1,hm1⟩:∃ n,q.maps.length=n:=⟨_,rfl⟩
 obtain⟨m2,hm2⟩:∃ n,q.code.length=n:=⟨_,rfl⟩
 obtain⟨m3,hm3⟩:∃ n,q.rels.length=n:=⟨_,rfl⟩
 obtain⟨a1,c1,rfl,-⟩:=L10.df_form hn1 ho.m
 obtain⟨a2,c2,rfl,-⟩:=bs_form hn2 ho.c
 obtain⟨a3,c3,rfl,-⟩:=ro_form hn3 ho.r
 obtain⟨d1,e1,rfl,-⟩:=L10.df_form hm1 hq.m
 obtain⟨d2,e2,rfl,-⟩:=bs_form hm2 hq.c
 obtain⟨d3,e3,rfl,-⟩:=ro_form hm3 hq.r
 rw [hn1,hn2,hn3] at HS
 rw [hm1,hm2,hm3] at HS'
 rw [hn1] at r1
 rw [hn2] at hcm
 rw [hn3] at r2
 rw [hm1] at r3
 rw [hm2] at hcm'
 rw [hm3] at r4
 have HSS:=Lib.hid HS
 have HSS':=Lib.hid HS'
 obtain⟨K1,K2,hB⟩:=two_ob w (obC (.slice a1 n1 c1) (.slice a2 n2 c2) (.slice a3 n3 c3)) (obC (.slice d1 m1 e1) (.slice d2 m2 e2) (.slice d3 m3 e3))
 have HB:=Lib.hid hB
 have HK1:=Lib.hid K1
 have HK2:=Lib.hid K2
 clear ho hq hT hb HS HS' hn1 hn2 hn3 hm1 hm2 hm3 hB K1 K2
 go_enter Tryz.func7,Tryz.ntmps7
 go_upto_region 1 with (fail)
 obtain⟨k,hk⟩:∃ k,w.heap.size=k:=⟨_,rfl⟩
 rw [hk] at HK1 HK2 ⊢
 generalize (w.alloc (.cells _ 38)).alloc (.cells _ 38)=W at HK1 HK2 HB ⊢
 obtain⟨x0,x1,x2⟩:=cells3 HK1.out
 obtain⟨y0,y1,y2⟩:=cells3 HK2.out
 have l1:=World.block_lt_of_cell? _ _ x0
 have l2:=World.block_lt_of_cell? _ _ y0
 simp only at l1 l2
 clear hk
 by_cases g1:5000<n2
 ·have g1':(5000:Int)<(n2:Int):=by omega
  go_wp2_with (go_at_call 9;((with_reducible refine (HA.out _ HB.out).mono ?_);rintro e w1 ⟨rfl,b1⟩))
  go_ret
  exact⟨rfl,L2.bch HB.out b1⟩
 have g1':¬ (5000:Int)<(n2:Int):=by omega
 by_cases g2:5000<m2
 ·have g2':(5000:Int)<(m2:Int):=by omega
  go_wp2_with (go_at_call 9;((with_reducible refine (HA.out _ HB.out).mono ?_);rintro e w1 ⟨rfl,b1⟩))
  go_ret
  exact⟨rfl,L2.bch HB.out b1⟩
 have g2':¬ (5000:Int)<(m2:Int):=by omega
 by_cases g3:500<n1+n3
 ·have g3':(500:Int)<(n1:Int)+(n3:Int):=by omega
  go_wp2_with (go_at_call 9;((with_reducible refine (HA.out _ HB.out).mono ?_);rintro e w1 ⟨rfl,b1⟩))
  go_ret
  exact⟨rfl,L2.bch HB.out b1⟩
 have g3':¬ (500:Int)<(n1:Int)+(n3:Int):=by omega
 by_cases g4:500<m1+m3
 ·have g4':(500:Int)<(m1:Int)+(m3:Int):=by omega
  go_wp2_with (go_at_call 9;((with_reducible refine (HA.out _ HB.out).mono ?_);rintro e w1 ⟨rfl,b1⟩))
  go_ret
  exact⟨rfl,L2.bch HB.out b1⟩
 have g4':¬ (500:Int)<(m1:Int)+(m3:Int):=by omega
 have hs:=HSS.out g1 g3
 have hs':=HSS'.out g2 g4
 have G0:=Lib.hid (fun (X:World) (h:PO2 W X k (k+1) (.slice a1 n1 c1) (.slice a2 n2 c2) (.slice a3 n3 c3) (.slice d1 m1 e1) (.slice d2 m2 e2) (.slice d3 m3 e3)∧X.cell? ⟨k,0,none⟩=some (.slice a1 n1 c1)∧X.cell? ⟨k,1,none⟩=some (.slice a2 n2 c2)∧X.cell? ⟨k,2,none⟩=some (.slice a3 n3 c3)∧X.cell? ⟨k+1,0,none⟩=some (.slice d1 m1 e1)∧X.cell? ⟨k+1,1,none⟩=some (.slice d2 m2 e2)∧X.cell? ⟨k+1,2,none⟩=some (.slice d3 m3 e3))=>HA.out X (L2.bch HB.out h.1.1))
 have G1:=Lib.hid (fun (X:World) (h:PO2 W X k (k+1) (.slice a1 n1 c1) (.slice a2 n2 c2) (.slice a3 n3 c3) (.slice d1 m1 e1) (.slice d2 m2 e2) (.slice d3 m3 e3)∧X.cell? ⟨k,0,none⟩=some (.slice a1 n1 c1)∧X.cell? ⟨k,1,none⟩=some (.slice a2 n2 c2)∧X.cell? ⟨k,2,none⟩=some (.slice a3 n3 c3)∧X.cell? ⟨k+1,0,none⟩=some (.slice d1 m1 e1)∧X.cell? ⟨k+1,1,none⟩=some (.slice d2 m2 e2)∧X.cell? ⟨k+1,2,none⟩=some (.slice d3 m3 e3))=>H1.out hs hs' X (L2.bch HB.out h.1.1))
 have G2:=Lib.hid (fun (X:World) (h:PO2 W X k (k+1) (.slice a1 n1 c1) (.slice a2 n2 c2) (.slice a3 n3 c3) (.slice d1 m1 e1) (.slice d2 m2 e2) (.slice d3 m3 e3)∧X.cell? ⟨k,0,none⟩=some (.slice a1 n1 c1)∧X.cell? ⟨k,1,none⟩=some (.slice a2 n2 c2)∧X.cell? ⟨k,2,none⟩=some (.slice a3 n3 c3)∧X.cell? ⟨k+1,0,none⟩=some (.slice d1 m1 e1)∧X.cell? ⟨k+1,1,none⟩=some (.slice d2 m2 e2)∧X.cell? ⟨k+1,2,none⟩=some (.slice d3 m3 e3))=>H2.out hs hs' X (L2.bch HB.out h.1.1))
 have G3:=Lib.hid (fun (X:World) (h:PO2 W X k (k+1) (.slice a1 n1 c1) (.slice a2 n2 c2) (.slice a3 n3 c3) (.slice d1 m1 e1) (.slice d2 m2 e2) (.slice d3 m3 e3)∧X.cell? ⟨k,0,none⟩=some (.slice a1 n1 c1)∧X.cell? ⟨k,1,none⟩=some (.slice a2 n2 c2)∧X.cell? ⟨k,2,none⟩=some (.slice a3 n3 c3)∧X.cell? ⟨k+1,0,none⟩=some (.slice d1 m1 e1)∧X.cell? ⟨k+1,1,none⟩=some (.slice d2 m2 e2)∧X.cell? ⟨k+1,2,none⟩=some (.slice d3 m3 e3))=>H3.out hs X (L2.bch HB.out h.1.1))
 have X:PO2 W W k (k+1) (.slice a1 n1 c1) (.slice a2 n2 c2) (.slice a3 n3 c3) (.slice d1 m1 e1) (.slice d2 m2 e2) (.slice d3 m3 e3):=⟨Below.refl _ _,HK1.out,HK2.out⟩
 clear hs hs' HSS HSS' H1 H2 H3 HA
 go_upto_region 3 with (fail)
 clear g1 g2 g3 g4 g1' g2' g3' g4' r1 r2 r3 r4 hcm hcm'
 cases b
 all_goals
  go_region_held3 (fun Y=>PO2 W Y k (k+1) (.slice a1 n1 c1) (.slice a2 n2 c2) (.slice a3 n3 c3) (.slice d1 m1 e1) (.slice d2 m2 e2) (.slice d3 m3 e3)∧Y.cell? ⟨k,0,none⟩=some (.slice a1 n1 c1)∧Y.cell? ⟨k,1,none⟩=some (.slice a2 n2 c2)∧Y.cell? ⟨k,2,none⟩=some (.slice a3 n3 c3)∧Y.cell? ⟨k+1,0,none⟩=some (.slice d1 m1 e1)∧Y.cell? ⟨k+1,1,none⟩=some (.slice d2 m2 e2)∧Y.cell? ⟨k+1,2,none⟩=some (.slice d3 m3 e3))
   (first|exact keepO (Below.refl _ _).drew X|exact keepOc hb9 (by assumption)|assumption)
   (first|(go_at_call 9;((with_reducible refine (G0.out _ (by assumption)).mono ?_);rintro e w9 ⟨rfl,hb9⟩))|(go_at_call 15;((with_reducible refine (G2.out _ (by assumption)).mono ?_);rintro e w9 ⟨rfl,hb9⟩))|(go_at_call 22;((with_reducible refine (G1.out _ (by assumption)).mono ?_);rintro e w9 ⟨rfl,hb9⟩))|(go_at_call 22;((with_reducible refine (G3.out _ (by assumption)).mono ?_);rintro e w9 ⟨rfl,hb9⟩)))
 all_goals
  rename_i hh
  go_wp2
  go_ret
  exact⟨rfl,L2.bch HB.out hh.1.1⟩
end Go.Proofs.YtgljoilddjmohaaGreatDoor.L13
