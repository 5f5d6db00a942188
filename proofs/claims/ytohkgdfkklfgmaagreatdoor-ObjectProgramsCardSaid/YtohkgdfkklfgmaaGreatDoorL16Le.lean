/- The walk of the law ObjectPrograms. Condition: memory holds the program; the tables read as the program's text lays them. -/
import Derived.Test.YtohkgdfkklfgmaaGreatDoorM55
import Derived.Test.YtohkgdfkklfgmaaGreatDoorL16Ch
import Derived.Test.YtohkgdfkklfgmaaGreatDoorL13Ras
set_option maxHeartbeats 16000000
namespace Go.Proofs.YtohkgdfkklfgmaaGreatDoor.L16
set_option maxRecDepth 100000
open Go.RowKit L14 L15
open L13 (Ob ObAt)
attribute [local go_sem] Oper.semAt_some
theorem own_oa {B:Nat} {W:World} {vm vc vr:Value} {p:L10.Pg} (h:L13.ObOwn B W vm vc vr p):OA W vm vc vr (L13.obV p) :=
 ⟨L13.own_df rfl h.m,Rw.own (show W.ownsRow B 5 1 vc (L13.cdB p).length ((L13.cdB p).map eB) from h.c),L13.rl_ro (L13.own_rln rfl h.r)⟩
theorem ob_form {w:World} {vm vc vr:Value} {o:Ob} (h:ObAt w vm vc vr o):∃ a1 c1 a2 c2 a3 c3,vm=.slice a1 o.maps.length c1∧vc=.slice a2 o.code.length c2∧vr=.slice a3 o.rels.length c3:=by
 obtain⟨a1,c1,h1,-⟩:=L10.df_form rfl h.m
 obtain⟨a2,c2,h2,-⟩:=L13.bs_form rfl h.c
 obtain⟨a3,c3,h3,-⟩:=L13.ro_form rfl h.r
 exact⟨_,_,_,_,_,_,h1,h2,h3⟩
section
variable (vm vs:Value) (p:L10.Pg) (w:World) (hT:Tb w) (hp:L10.PgAt w vm vs p) (hf:L10.PgFit p) (hr:∀ s∈p.stmts,L10.TxRoom s.labs)
include hT hp hf hr
theorem programs_walk:Calls Tryz.prog 7 #[.agg #[vm,vs]] w fun e w'=>e=.returned (.bool true)∧Below w.heap.size w w':=by
 obtain⟨f1,hf1,F1⟩:=L10.few_ex vm vs p w hp hr
 have HTB:=Lib.hid (fun (W:World) (h:Below w.heap.size w W)=>tb_below hT h)
 have HA:=Lib.hid (fun (W:World) (h:Below w.heap.size w W)=>alive16 W (tb_below hT h))
 obtain⟨n1,hn1⟩:∃ n,p.maps.length=n:=⟨_,rfl⟩
 obtain⟨n2,hn2⟩:∃ n,p.stmts.length=n:=⟨_,rfl⟩
 obtain⟨a1,c1,rfl,-⟩:=L10.df_form hn1 hp.1
 obtain⟨a2,c2,rfl,-⟩:=L10.sm_form hn2 hp.2
 have HB:=Lib.hid (bnew w (.cells #[.slice a1 n1 c1,.slice a2 n2 c2] 50))
 have K0:=Lib.hid (heap_alloc_last w (.cells #[.slice a1 n1 c1,.slice a2 n2 c2] 50))
 have HF1:=Lib.hid F1
 cases f1
 ·clear hT hp hf hr hn1 hn2 hf1 F1
  go_enter Tryz.func7,Tryz.ntmps7
  go_wp2_with (first
   | (go_at_call 21;((with_reducible refine (HF1.out _ HB.out).mono ?_);rintro e w1 ⟨rfl,b1⟩))
   | (go_at_call 9;((with_reducible refine (HA.out _ (bch HB.out b1)).mono ?_);rintro e w2 ⟨rfl,b2⟩)))
  go_ret
  exact⟨rfl,bch (bch HB.out b1) b2⟩
 ·have hfew:=hf1 rfl
  have hft:=L10.fits_few hf hfew
  have hm:=hfew.2.1
  rw [hn2] at hm
  obtain⟨b,k,er,hbr⟩:∃ b k er,L10.brV p=(b,k,er):=⟨_,_,_,rfl⟩
  have HRa:=fun (X:World) (hX:Below w.heap.size w X)=>L13.rassemble_at (.slice a1 n1 c1) (.slice a2 n2 c2) p n2 X (hp.below hX) hf hfew hn2 b k er hbr
  by_cases he:er=0
  ·have hz:(L10.brV p).2.2=0:=by rw [hbr];exact he
   have hR:=chE_prog hz (by omega)
   have hos:=os_prog hz hft (by omega)
   have hpl:(pkB (L13.obV p)).length≤100000:=pk_prog hz (by omega)
   have HAs:=fun (X:World) (hX:Below w.heap.size w X)=>L13.assemble_at (.slice a1 n1 c1) (.slice a2 n2 c2) p n2 X (hp.below hX) hft hn2 (by omega) (tb_below hT hX) b k er hbr
   have HR2:=Lib.hid (fun (X:World) (hX:Below w.heap.size w X)=>(HRa X hX).mono fun e w' h=>show (∃ u1 v1 u2 v2 u3 v3,e=.returned (.tuple #[.agg #[.slice u1 (L13.obV p).maps.length v1,.slice u2 (L13.obV p).code.length v2,.slice u3 (L13.obV p).rels.length v3],.int .i64 0,.int .i64 0])∧ObAt w' (.slice u1 (L13.obV p).maps.length v1) (.slice u2 (L13.obV p).code.length v2) (.slice u3 (L13.obV p).rels.length v3) (L13.obV p))∧Below X.heap.size X w' by
    obtain⟨h1,h2⟩:=h
    rcases h1 with ⟨h1,-⟩|⟨-,vm,vc,vr,rfl,h4⟩
    ·exact absurd he h1
    ·obtain⟨u1,v1,u2,v2,u3,v3,rfl,rfl,rfl⟩:=ob_form h4
     exact⟨⟨_,_,_,_,_,_,rfl,h4⟩,h2⟩)
   have HA2:=Lib.hid (fun (X:World) (hX:Below w.heap.size w X)=>(HAs X hX).mono fun e w' h=>show (∃ u1 v1 u2 v2 u3 v3,e=.returned (.tuple #[.agg #[.slice u1 (L13.obV p).maps.length v1,.slice u2 (L13.obV p).code.length v2,.slice u3 (L13.obV p).rels.length v3],.int .i64 0,.int .i64 0])∧OA w' (.slice u1 (L13.obV p).maps.length v1) (.slice u2 (L13.obV p).code.length v2) (.slice u3 (L13.obV p).rels.length v3) (L13.obV p))∧Below X.heap.size X w' by
    obtain⟨h1,h2⟩:=h
    rcases h1 with ⟨h1,-⟩|⟨-,vm,vc,vr,rfl,h4⟩
    ·exact absurd he h1
    ·have h5:=own_oa h4
     obtain⟨u1,v1,u2,v2,u3,v3,rfl,rfl,rfl⟩:=h5.form
     exact⟨⟨_,_,_,_,_,_,rfl,h5⟩,h2⟩)
   clear HRa HAs
   generalize L13.obV p=o at hR hos hpl HR2 HA2
   obtain⟨N,hN⟩:∃ N,(pkB o).length=N:=⟨_,rfl⟩
   have HPk:=Lib.hid (fun (W:World) (vm vc vr:Value) (h:OA W vm vc vr o) (ht:Tb W)=>pack_yes vm vc vr o W h hos ht N hR hN)
   have HPa:=Lib.hid (fun (W:World) (h:Tb W) (a:Option Addr) (c:Nat) (hr:Rw eB W (.slice a N c) (pkB o))=>(parse_is a N c (pkB o) o W hr (by rw [← hN];exact hpl) h ⟨hR,rfl⟩).2)
   have HCh:=Lib.hid (fun (W:World) (vm vc vr:Value) (h:OA W vm vc vr o) (ht:Tb W)=>ocheck_at vm vc vr o 0 W h hos ht hR)
   have HSa:=Lib.hid (fun (W:World) (vm vc vr vm' vc' vr':Value) (h:OA W vm vc vr o) (h':ObAt W vm' vc' vr' o)=>L13.rsame13_at vm vc vr vm' vc' vr' o o true W h.ob h' hos.ob hos.ob (by simp))
   clear hT hp hf hr hn1 hn2 hf1 F1 hfew hft hm hbr he hz hR hos hpl hN
   generalize o.maps.length=m1 at *
   generalize o.code.length=m2 at *
   generalize o.rels.length=m3 at *
   go_enter Tryz.func7,Tryz.ntmps7
   go_upto_region 3 with (go_at_call 21;((with_reducible refine (HF1.out _ HB.out).mono ?_);rintro e w1 ⟨rfl,b1⟩;have B1:=L2.bch HB.out b1;have r1:=L8.row_up K0.out b1;obtain⟨x0,x1⟩:=L10.cells2p r1;have lx:=lt_of_block r1))
   go_upto_region 4 with (go_at_call 22;((with_reducible refine (HR2.out _ B1).mono ?_);rintro e w2 ⟨⟨d1,e1,d2,e2,d3,e3,rfl,ho⟩,b2⟩))
   have k2:=heap_alloc_last w2 (.cells #[.slice d1 m1 e1,.slice d2 m2 e2,.slice d3 m3 e3] 26)
   have n2':=bnew w2 (.cells #[.slice d1 m1 e1,.slice d2 m2 e2,.slice d3 m3 e3] 26)
   have o2:=ho.below n2'
   have B2:=bch (bch B1 b2) n2'
   have r2:=L8.row_up (L8.row_up r1 b2) n2'
   obtain⟨q2,hq2⟩:∃ q,w2.heap.size=q:=⟨_,rfl⟩
   rw [hq2] at k2 ⊢
   clear hq2 n2' ho b2 x0 x1 lx r1 B1 b1
   generalize w2.alloc (.cells _ 26)=W2 at k2 o2 B2 r2 ⊢
   obtain⟨x0,x1⟩:=L10.cells2p r2
   have lx:=lt_of_block r2
   go_upto_region 7 with (go_at_call 23;((with_reducible refine (HA2.out _ B2).mono ?_);rintro e w3 ⟨⟨g1,f1,g2,f2,g3,f3,rfl,ho⟩,b3⟩))
   have k3:=heap_alloc_last w3 (.cells #[.slice g1 m1 f1,.slice g2 m2 f2,.slice g3 m3 f3] 26)
   have n3':=bnew w3 (.cells #[.slice g1 m1 f1,.slice g2 m2 f2,.slice g3 m3 f3] 26)
   have p3:=ho.below n3'
   have o3:=(o2.below b3).below n3'
   have B3:=bch (bch B2 b3) n3'
   have j3:=L8.row_up (L8.row_up k2 b3) n3'
   obtain⟨q3,hq3⟩:∃ q,w3.heap.size=q:=⟨_,rfl⟩
   rw [hq3] at k3 ⊢
   clear hq3 n3' ho b3 x0 x1 lx r2 B2 k2 o2
   generalize w3.alloc (.cells _ 26)=W3 at k3 j3 o3 p3 B3 ⊢
   obtain⟨x0,x1,x2⟩:=L13.cells3 k3
   have lx:=lt_of_block k3
   go_upto_region 8 with (go_at_call 12;((with_reducible refine (HPk.out _ _ _ _ p3 (HTB.out _ B3)).mono ?_);rintro e w4 ⟨⟨pa,pc,rfl,r4⟩,b4⟩;have B4:=bch B3 b4))
   go_upto_region 9 with (go_at_call 17;((with_reducible refine (HPa.out _ (HTB.out _ B4) _ _ r4).mono ?_);rintro e w5 ⟨⟨vm,vc,vr,rfl,h5⟩,b5⟩;obtain⟨s1,t1,s2,t2,s3,t3,rfl,rfl,rfl⟩:=h5.form))
   have k5:=heap_alloc_last w5 (.cells #[.slice s1 o.maps.length t1,.slice s2 o.code.length t2,.slice s3 o.rels.length t3] 26)
   have n5':=bnew w5 (.cells #[.slice s1 o.maps.length t1,.slice s2 o.code.length t2,.slice s3 o.rels.length t3] 26)
   have HQ:=Lib.hid (h5.below n5')
   have HO:=Lib.hid (((o3.below b4).below b5).below n5')
   have HP3:=Lib.hid (((p3.below b4).below b5).below n5')
   have HB5:=Lib.hid (bch (bch B4 b5) n5')
   have HJ:=Lib.hid (L8.row_up (L8.row_up (L8.row_up j3 b4) b5) n5')
   have HK3:=Lib.hid (L8.row_up (L8.row_up (L8.row_up k3 b4) b5) n5')
   have HK5:=Lib.hid k5
   obtain⟨q5,hq5⟩:∃ q,w5.heap.size=q:=⟨_,rfl⟩
   rw [hq5] at HK5 ⊢
   clear hq5 n5' h5 b4 b5 x0 x1 x2 lx B3 B4 o3 p3 j3 k3 k5 r4
   generalize w5.alloc (.cells _ 26)=W5 at HQ HO HP3 HB5 HJ HK3 HK5 ⊢
   go_wp2_with (first
    | (go_at_call 9;((with_reducible refine (HA.out _ HB5.out).mono ?_);rintro e w6 ⟨rfl,b6⟩;have B6:=bch HB5.out b6;obtain⟨x0,x1,x2⟩:=L13.cells3 (L8.row_up HK3.out b6);have lx:=lt_of_block (L8.row_up HK3.out b6);have p6:=HP3.out.below b6))
    | (go_at_call 10;((with_reducible refine (HCh.out _ _ _ _ p6 (HTB.out _ B6)).mono ?_);rintro e w7 ⟨rfl,b7⟩;have B7:=bch B6 b7;obtain⟨y0,y1,y2⟩:=L13.cells3 (L8.row_up (L8.row_up HK5.out b6) b7);have ly:=lt_of_block (L8.row_up (L8.row_up HK5.out b6) b7);obtain⟨z0,z1,z2⟩:=L13.cells3 (L8.row_up (L8.row_up HJ.out b6) b7);have lz:=lt_of_block (L8.row_up (L8.row_up HJ.out b6) b7);have q7:=(HQ.out.below b6).below b7;have u7:=(HO.out.below b6).below b7))
    | (go_at_call 19;((with_reducible refine (HSa.out _ _ _ _ _ _ _ q7 u7).mono ?_);rintro e w8 ⟨rfl,b8⟩)))
   go_ret
   exact⟨rfl,bch B7 b8⟩
  ·have HR2:=Lib.hid (fun (X:World) (hX:Below w.heap.size w X)=>(HRa X hX).mono fun e w' h=>show e=.returned (.tuple #[.agg #[.slice none 0 0,.slice none 0 0,.slice none 0 0],.int .i64 (k:Int),.int .i64 er])∧Below X.heap.size X w' by
    obtain⟨⟨-,h1⟩|⟨h1,-⟩,h2⟩:=h
    ·exact⟨h1,h2⟩
    ·exact absurd h1 he)
   have he':(er != 0)=true:=by simpa using he
   clear HRa hT hp hf hr hn1 hn2 hf1 F1 hfew hft hm hbr he
   go_enter Tryz.func7,Tryz.ntmps7
   go_upto_region 3 with (go_at_call 21;((with_reducible refine (HF1.out _ HB.out).mono ?_);rintro e w1 ⟨rfl,b1⟩;have B1:=L2.bch HB.out b1;have r1:=L8.row_up K0.out b1;obtain⟨x0,x1⟩:=L10.cells2p r1;have lx:=lt_of_block r1))
   go_wp2_with (first
    | (go_at_call 22;((with_reducible refine (HR2.out _ B1).mono ?_);rintro e w2 ⟨rfl,b2⟩))
    | (go_at_call 9;((with_reducible refine (HA.out _ (bch (bch B1 b2) (bnew _ _))).mono ?_);rintro e w3 ⟨rfl,b3⟩)))
   go_ret
   exact⟨rfl,bch (bch (bch B1 b2) (bnew _ _)) b3⟩
end
end Go.Proofs.YtohkgdfkklfgmaaGreatDoor.L16
