/- Lemmas and walks of L13Ras, L13Lw: what each theorem states; conditions stand in each theorem. -/
import Derived.Test.YtgljoilddjmohaaGreatDoorM31
import Derived.Test.YtgljoilddjmohaaGreatDoorM30
import Derived.Test.YtgljoilddjmohaaGreatDoorM32
section
set_option maxRecDepth 100000
set_option maxHeartbeats 8000000
namespace Go.Proofs.YtgljoilddjmohaaGreatDoor.L13
open Go.RowKit Go.Shelf L3 L4 L12
open L10 (Stm Pg jmI fmI lbK)
attribute [local go_sem] Oper.semAt_some
def RaP (w:World) (p:Pg) (k:Nat) (er:Int) (e:Ending) (w':World):Prop :=
 ((er≠0∧e=.returned (.tuple #[.agg #[.slice none 0 0,.slice none 0 0,.slice none 0 0],.int .i64 (k:Int),.int .i64 er])) ∨
  (er=0∧∃ vm vc vr,e=.returned (.tuple #[.agg #[vm,vc,vr],.int .i64 0,.int .i64 0])∧ObAt w' vm vc vr (obV p)))∧Below w.heap.size w w'
def SQ (w:World) (kp kr:Nat) (vm vs:Value) (X:World):Prop :=
 Below w.heap.size w X∧X.heap[kp]?=some (.cells #[vm,vs] 25)∧∃ a1 n1 c1 a2 n2 c2 a3 n3 c3,X.heap[kr]?=some (obC (.slice a1 n1 c1) (.slice a2 n2 c2) (.slice a3 n3 c3))
theorem SQ.below {w X Y:World} {kp kr:Nat} {vm vs:Value} (h:SQ w kp kr vm vs X) (hb:Below X.heap.size X Y):SQ w kp kr vm vs Y:=by
 obtain⟨h1,h2,a1,n1,c1,a2,n2,c2,a3,n3,c3,h4⟩:=h
 exact⟨L2.bch h1 hb,L8.row_up h2 hb,_,_,_,_,_,_,_,_,_,L8.row_up h4 hb⟩
theorem own_rln {W:World} {B e:TypeId} {v:Value} {xs:List (Nat × Int)} {n:Nat} (hn:xs.length=n) (h:W.ownsRow B e 2 v n (rlC xs)):RlAt W v xs:=by
 subst hn
 exact own_rl h
theorem bs_set {W:World} {kr:Nat} {a1 a2 a3:Option Addr} {n1 c1 n2 c2 n3 c3:Nat} {v:Value} {l:List UInt8} {cs:Array Value} (h:L5.BsV W v l) (hr:W.heap[kr]?=some (obC (.slice a1 n1 c1) (.slice a2 n2 c2) (.slice a3 n3 c3))):L5.BsV (W.setRow kr cs) v l:=by
 obtain⟨a,cap,rfl,hc⟩:=h
 refine⟨a,cap,rfl,?_⟩
 rcases hc with hc|⟨k,o,rfl,hB⟩
 ·exact .inl hc
 ·refine .inr ⟨k,o,rfl,fun j hj=>?_⟩
  have hcj:=hB j hj
  rw [cell_setRow_other _ _ _ _ ?_]
  ·exact hcj
  ·show k≠kr
   rintro rfl
   unfold World.cell? at hcj
   simp only [hr] at hcj
   rcases (show (o+j=0∨o+j=1∨o+j=2)∨3≤o+j by omega) with (h0|h0|h0)|h0
   ·simp [h0] at hcj
   ·simp [h0] at hcj
   ·simp [h0] at hcj
   ·have:(#[Value.slice a1 n1 c1,.slice a2 n2 c2,.slice a3 n3 c3]:Array Value)[o+j]?=none:=by rw [Array.getElem?_eq_none];simpa using h0
    rw [this] at hcj
    cases hcj
theorem rassemble_at (vm vs:Value) (p:Pg) (n:Nat) (w:World) (hp:L10.PgAt w vm vs p) (hf:L10.PgFit p) (hfew:p.maps.length≤300∧p.stmts.length≤60∧L10.lsum p.stmts≤200) (hn:p.stmts.length=n) (b:Bool) (k:Nat) (er:Int) (hr:L10.brV p=(b,k,er)) :
  Calls Tryz.prog 14 #[.agg #[vm,vs]] w fun e w'=>RaP w p k er e w':=by
 have HSml:=L10.sml_few hfew
 have hm:=hfew.2.1
 rw [hn] at hm
 have HRs:=Lib.hid (fun (X:World) (hX:Below w.heap.size w X)=>rresolve_at vm vs p n X (hp.below hX) hf hfew hn b k er hr)
 have HJ:=Lib.hid (fun (he:er=0) (X:World) (v:Value) (hv:IsAt X v (rsL p))=>show Calls Tryz.prog 32 #[v] X (fun e w'=>∃ u,e=.returned u∧L5.BsAt w' u (cdB p)∧Below X.heap.size X w') from L5.rjoin_at v ((rsL p).map tI) X (by rw [List.length_map,rsL_len,hn];omega) (is_in hv) (rsL_err (brV_ok hr he) (by omega)))
 have HRf:=Lib.hid (fun (X:World) (hX:Below w.heap.size w X)=>rrefs_at vm vs p X (hp.below hX) HSml)
 unfold RfP at HRf
 obtain⟨cl,hcL⟩:∃ c,(cdB p).length=c:=⟨_,rfl⟩
 obtain⟨rl,hrL⟩:∃ c,(rfT p p.stmts.length).length=c:=⟨_,rfl⟩
 rw [hrL] at HRf
 have HPm:=Lib.hid (fun (X:World) (hX:Below w.heap.size w X)=>hp.1.below hX)
 obtain⟨n1,hn1⟩:∃ n,p.maps.length=n:=⟨_,rfl⟩
 obtain⟨a1,c1,rfl,-⟩:=L10.df_form hn1 hp.1
 obtain⟨a2,c2,rfl,-⟩:=L10.sm_form hn hp.2
 have HL:=Lib.hid (And.intro hcL hrL)
 obtain⟨K1,K2,hB⟩:=two_as w (.slice a1 n1 c1) (.slice a2 n c2)
 have HB:=Lib.hid hB
 have HK1:=Lib.hid K1
 have HK2:=Lib.hid K2
 clear hp hf hn hm hr hn1 HSml hcL hrL K1 K2 hB hfew
 go_enter Tryz.func14,Tryz.ntmps14
 go_upto_region 1 with (fail)
 obtain⟨kp,hkp⟩:∃ k,w.heap.size=k:=⟨_,rfl⟩
 rw [hkp] at HK1 HK2 ⊢
 generalize (w.alloc (.cells _ 25)).alloc (.cells _ 38)=W at HK1 HK2 HB ⊢
 have HKP:=Lib.hid (show w.heap.size≤kp+1 by omega)
 clear hkp
 obtain⟨x0,x1⟩:=L10.cells2p HK1.out
 have l1:=World.block_lt_of_cell? _ _ x0
 simp only at l1
 by_cases h0:er=0
 case neg =>
  have h0':(er != 0)=true:=by simpa using h0
  have HRn:=Lib.hid ((HRs.out W HB.out).mono (fun e w' h=>show (e=.returned (.tuple #[.slice none 0 0,.int .i64 (k:Int),.int .i64 er]))∧Below W.heap.size W w' from ⟨by rcases h.1 with ⟨_,h⟩|⟨h,_⟩;exact h;exact absurd h h0,h.2⟩))
  clear HRs HJ HRf
  go_upto_region 3 with (go_at_call 11;((with_reducible refine (HRn.out).mono ?_);rintro e w1 ⟨rfl,b1⟩))
  have q2:=L8.row_up HK2.out b1
  have B1:=L2.bch HB.out b1
  go_wp2_with (refine wpList_store_row rfl _ _ _ rfl (kp+1) #[.slice none 0 0,.slice none 0 0,.slice none 0 0] rfl rfl 38 _ q2 (by kernel_rfl) rfl (by simp [Value.oneCell']) ?_)
  obtain⟨z0,z1,z2⟩:=cells3 (setRow_heap _ _ _ #[.slice none 0 0,.slice none 0 0,.slice none 0 0] _ _ q2)
  exact bodyPost_ret (v:=.tuple #[.agg #[.slice none 0 0,.slice none 0 0,.slice none 0 0],.int .i64 (k:Int),.int .i64 er]) (by simp [results,Tryz.results14,go_sem,z0,z1,z2]) rfl ⟨.inl ⟨h0,rfl⟩,below_setRow B1 HKP.out _⟩
 subst h0
 have HJ1:=Lib.hid (HJ.out rfl)
 clear HJ
 have HRy:=Lib.hid ((HRs.out W HB.out).mono (fun e w' h=>show (∃ a c,e=.returned (.tuple #[.slice a n c,.int .i64 0,.int .i64 0])∧IsAt w' (.slice a n c) (rsL p))∧Below W.heap.size W w' from ⟨by rcases h.1 with ⟨h,_⟩|⟨_,h⟩;exact absurd rfl h;exact h,h.2⟩))
 clear HRs
 go_upto_region 4 with (go_at_call 11;((with_reducible refine (HRy.out).mono ?_);rintro e w1 ⟨⟨la,lc,rfl,hv1⟩,b1⟩))
 have HSA:=Lib.hid (show SQ w kp (kp+1) (.slice a1 n1 c1) (.slice a2 n c2) w1 from ⟨L2.bch HB.out b1,L8.row_up HK1.out b1,_,_,_,_,_,_,_,_,_,L8.row_up HK2.out b1⟩)
 have HV1:=Lib.hid (hv1.below (L8.bdN (Below.refl _ _) 1))
 clear x0 x1 l1 b1 hv1 HRy HB HK1 HK2
 refine wp_region_held_drew (S:=SQ w kp (kp+1) (.slice a1 n1 c1) (.slice a2 n c2)) (by kernel_rfl) (HSA.out.below (L8.bdN (Below.refl _ _) 1)) (fun hH=>?_)
 refine wpAnyH_take (i:=0) (oi:=⟨some 19,.fieldAddr 25 (.tmp 1) 0,_,_,_,none⟩) (v:=.pointer (some ⟨kp,0,none⟩)) rfl (by kernel_rfl) (by kernel_rfl) (by kernel_rfl) (fun _ _ _ h=>h) (Or.inl ⟨by rfl,fun wS hS=>(by go_simp)⟩) hH ?_
 simp only [Act.put,zA,zB,zC]
 refine wpAnyH_take (i:=1) (oi:=⟨some 20,.load 22 (.tmp 19),_,_,_,none⟩) (v:=.slice a1 n1 c1) rfl (by kernel_rfl) (by kernel_rfl) (by kernel_rfl) (fun _ _ _ h=>h) (Or.inl ⟨by rfl,fun wS hS=>(by obtain⟨d0,d1⟩:=L10.cells2p hS.2.1;go_simp)⟩) hH ?_
 simp only [Act.put,zA,zB,zC]
 refine wpAnyH_take (i:=2) (oi:=⟨some 21,.move (.tmp 5),_,_,_,none⟩) (v:=.slice la n lc) rfl (by kernel_rfl) (by kernel_rfl) (by kernel_rfl) (fun _ _ _ h=>h) (Or.inl ⟨by rfl,fun wS hS=>(by rfl)⟩) hH ?_
 simp only [Act.put,zA,zB,zC]
 refine wpAnyH_take (i:=4) (oi:=⟨some 23,.load 25 (.tmp 1),_,_,_,none⟩) (v:=.agg #[.slice a1 n1 c1,.slice a2 n c2]) rfl (by kernel_rfl) (by kernel_rfl) (by kernel_rfl) (fun _ _ _ h=>h) (Or.inl ⟨by rfl,fun wS hS=>(by obtain⟨d0,d1⟩:=L10.cells2p hS.2.1;go_simp)⟩) hH ?_
 simp only [Act.put,zA,zB,zC]
 refine wpAnyH_ready (rs:=[3]) (by kernel_rfl) (by simp) ?_
 refine AllReadyH.cons (o:=⟨some 22,.call ⟨.value (.func 32),#[.tmp 21],#[28]⟩,_,_,_,none⟩) rfl (fun K hK=>?_) AllReadyH.nil
 go_simp
 refine (HJ1.out _ _ HV1.out).mono ?_
 rintro e w3 ⟨u3,rfl,hc3,b3⟩
 have hc3c:=hc3
 obtain⟨ca,cc,hu3,-⟩:=hc3c
 obtain rfl:u3=.slice ca cl cc:=by rw [hu3,HL.out.1]
 refine hK.out _ _ (hH.below b3) (fun hH3=>?_)
 have HC3:=Lib.hid (L5.BsAt.v hc3)
 clear hK K hH b3 hu3 hc3 HV1 HJ1
 (try simp only [Act.put,zA,zB,zC])
 refine wpAnyH_ready (rs:=[5]) (by kernel_rfl) (by simp) ?_
 refine AllReadyH.cons (o:=⟨some 24,.call ⟨.value (.func 33),#[.tmp 23],#[25]⟩,_,_,_,none⟩) rfl (fun K hK=>?_) AllReadyH.nil
 go_simp
 refine (HRf.out _ hH3.1).mono ?_
 rintro e w4 ⟨u4,rfl,hr4,b4⟩
 obtain⟨ra,rc,rfl⟩:=owns_slice hr4
 refine hK.out _ _ (hH3.below b4) (fun hH4=>?_)
 have HC4:=Lib.hid (HC3.out.below b4)
 have HR4:=Lib.hid hr4
 clear hK K hH3 hr4 b4 HC3 HRf
 (try simp only [Act.put,zA,zB,zC])
 refine wpAnyH_take (i:=6) (oi:=⟨some 25,.build 38 #[(0,.tmp 20),(1,.tmp 22),(2,.tmp 24)],_,_,_,none⟩) (v:=.agg #[.slice a1 n1 c1,.slice ca cl cc,.slice ra rl rc]) rfl (by kernel_rfl) (by kernel_rfl) (by kernel_rfl) (fun _ _ _ h=>h) (Or.inl ⟨by rfl,fun wS hS=>(by go_simp)⟩) hH4 ?_
 simp only [Act.put,zA,zB,zC]
 refine wpAnyH_ready (rs:=[7]) (by kernel_rfl) (by simp) ?_
 refine AllReadyH.cons (o:=⟨none,.store 38 (.tmp 2) (.tmp 25),_,_,_,none⟩) rfl (fun K hK=>?_) AllReadyH.nil
 rw [if_pos (by kernel_rfl)]
 obtain⟨q1,q2,r1,r2,r3,r4,r5,r6,r7,r8,r9,hrow⟩:=hH4
 refine wp_store_row 38 (.tmp 2) (.tmp 25) rfl (kp+1) #[.slice a1 n1 c1,.slice ca cl cc,.slice ra rl rc] rfl rfl 38 _ hrow (by kernel_rfl) rfl (by simp [Value.oneCell']) ?_
 have hset:=setRow_heap _ _ _ #[.slice a1 n1 c1,.slice ca cl cc,.slice ra rl rc] _ _ hrow
 have hBf:=below_setRow q1 HKP.out #[.slice a1 n1 c1,.slice ca cl cc,.slice ra rl rc]
 refine hK.out _ _ ⟨hBf,(setRow_other _ _ _ _ (by omega)).trans q2,_,_,_,_,_,_,_,_,_,hset⟩ (fun hH5=>?_)
 have hob:ObAt (w4.setRow (kp+1) #[.slice a1 n1 c1,.slice ca cl cc,.slice ra rl rc]) (.slice a1 n1 c1) (.slice ca cl cc) (.slice ra rl rc) (obV p):=by
  exact⟨HPm.out _ hBf,bs_set HC4.out hrow,rl_ro (own_rln HL.out.2 (own_set HR4.out hrow (by decide)))⟩
 have HOB:=Lib.hid hob
 have HSE:=Lib.hid hset
 clear hK K hrow hset hob hBf q1 q2
 (try simp only [Act.put])
 refine wpAnyH_take (i:=8) (oi:=⟨some 3,.assign (.const (.int .i64 0)),_,_,_,none⟩) (v:=.int .i64 0) rfl (by kernel_rfl) (by kernel_rfl) (by kernel_rfl) (fun _ _ _ h=>h) (Or.inl ⟨by rfl,fun wS hS=>(by rfl)⟩) hH5 ?_
 simp only [Act.put,zA,zB,zC]
 refine wpAnyH_take (i:=9) (oi:=⟨some 4,.assign (.const (.int .i64 0)),_,_,_,none⟩) (v:=.int .i64 0) rfl (by kernel_rfl) (by kernel_rfl) (by kernel_rfl) (fun _ _ _ h=>h) (Or.inl ⟨by rfl,fun wS hS=>(by rfl)⟩) hH5 ?_
 simp only [Act.put,zA,zB,zC]
 refine wpAnyH_done (by kernel_rfl) ?_ _
 go_wp2
 obtain⟨z0,z1,z2⟩:=cells3 HSE.out
 exact bodyPost_ret (v:=.tuple #[.agg #[.slice a1 n1 c1,.slice ca cl cc,.slice ra rl rc],.int .i64 0,.int .i64 0]) (by simp [results,Tryz.results14,go_sem,z0,z1,z2]) rfl ⟨.inr ⟨rfl,_,_,_,rfl,HOB.out⟩,hH5.1⟩
end Go.Proofs.YtgljoilddjmohaaGreatDoor.L13
end
section
set_option maxRecDepth 100000
set_option maxHeartbeats 4000000
namespace Go.Proofs.YtgljoilddjmohaaGreatDoor.L13
open Go.RowKit Go.Shelf L3 L4 L12
open L10 (Stm Pg jmI fmI lbK)
attribute [local go_sem] Oper.semAt_some
theorem rs_one {w w':World} {p:Pg} {n:Nat} {k:Nat} {er:Int} {e:Ending} (h:RsP w p n k er e w'):∃ a c,e=.returned (.tuple #[.slice a (if er=0 then n else 0) c,.int .i64 (if er=0 then 0 else (k:Int)),.int .i64 er])∧IsAt w' (.slice a (if er=0 then n else 0) c) (if er=0 then rsL p else [])∧Below w.heap.size w w':=by
 obtain⟨h1,h2⟩:=h
 rcases h1 with ⟨h1,rfl⟩|⟨rfl,a,c,rfl,h3⟩
 ·rw [if_neg h1,if_neg h1,if_neg h1]
  exact⟨none,0,rfl,.inr ⟨rfl,none,0,rfl⟩,h2⟩
 ·exact⟨a,c,rfl,h3,h2⟩
theorem ob_form {w:World} {vm vc vr:Value} {o:Ob} (h:ObAt w vm vc vr o):∃ a1 c1 a2 c2 a3 c3,vm=.slice a1 o.maps.length c1∧vc=.slice a2 o.code.length c2∧vr=.slice a3 o.rels.length c3:=by
 obtain⟨a1,c1,h1,-⟩:=L10.df_form rfl h.m
 obtain⟨a2,c2,h2,-⟩:=bs_form rfl h.c
 obtain⟨a3,c3,h3,-⟩:=ro_form rfl h.r
 exact⟨_,_,_,_,_,_,h1,h2,h3⟩
theorem as_one {w w':World} {p:Pg} {k:Nat} {er:Int} {e:Ending} (h:AsP w p k er e w'):∃ a1 c1 a2 c2 a3 c3,e=.returned (.tuple #[.agg #[.slice a1 (if er=0 then obV p else oZ).maps.length c1,.slice a2 (if er=0 then obV p else oZ).code.length c2,.slice a3 (if er=0 then obV p else oZ).rels.length c3],.int .i64 (if er=0 then 0 else (k:Int)),.int .i64 er])∧ObAt w' (.slice a1 (if er=0 then obV p else oZ).maps.length c1) (.slice a2 (if er=0 then obV p else oZ).code.length c2) (.slice a3 (if er=0 then obV p else oZ).rels.length c3) (if er=0 then obV p else oZ)∧Below w.heap.size w w':=by
 obtain⟨h1,h2⟩:=h
 rcases h1 with ⟨h1,rfl⟩|⟨rfl,vm,vc,vr,rfl,h3⟩
 ·rw [if_neg h1,if_neg h1]
  exact⟨none,0,none,0,none,0,rfl,oZ_at _,h2⟩
 ·have h4:=h3.at
  obtain⟨a1,c1,a2,c2,a3,c3,rfl,rfl,rfl⟩:=ob_form h4
  exact⟨_,_,_,_,_,_,rfl,h4,h2⟩
theorem ra_one {w w':World} {p:Pg} {k:Nat} {er:Int} {e:Ending} (h:RaP w p k er e w'):∃ a1 c1 a2 c2 a3 c3,e=.returned (.tuple #[.agg #[.slice a1 (if er=0 then obV p else oZ).maps.length c1,.slice a2 (if er=0 then obV p else oZ).code.length c2,.slice a3 (if er=0 then obV p else oZ).rels.length c3],.int .i64 (if er=0 then 0 else (k:Int)),.int .i64 er])∧ObAt w' (.slice a1 (if er=0 then obV p else oZ).maps.length c1) (.slice a2 (if er=0 then obV p else oZ).code.length c2) (.slice a3 (if er=0 then obV p else oZ).rels.length c3) (if er=0 then obV p else oZ)∧Below w.heap.size w w':=by
 obtain⟨h1,h2⟩:=h
 rcases h1 with ⟨h1,rfl⟩|⟨rfl,vm,vc,vr,rfl,h4⟩
 ·rw [if_neg h1,if_neg h1]
  exact⟨none,0,none,0,none,0,rfl,oZ_at _,h2⟩
 ·obtain⟨a1,c1,a2,c2,a3,c3,rfl,rfl,rfl⟩:=ob_form h4
  exact⟨_,_,_,_,_,_,rfl,h4,h2⟩
theorem oZ_s:ObS oZ:=⟨by decide,by decide,by decide⟩
theorem resolves_walk (vm vs:Value) (p:Pg) (w:World) (hT:T13 w) (hp:L10.PgAt w vm vs p) (hf:L10.PgFit p) (hr:∀ s∈p.stmts,L10.TxRoom s.labs) :
  Calls Tryz.prog 3 #[.agg #[vm,vs]] w fun e w'=>e=.returned (.bool true)∧Below w.heap.size w w':=by
 obtain⟨f1,hf1,F1⟩:=L10.few_ex vm vs p w hp hr
 have HA:=Lib.hid (fun W hb=>alive13 W (hT.below hb))
 have HTB:=Lib.hid (fun W hb=>hT.below (w':=W) hb)
 have HP:=Lib.hid hp
 have HFT:=Lib.hid hf
 obtain⟨n1,hn1⟩:∃ n,p.maps.length=n:=⟨_,rfl⟩
 obtain⟨n2,hn2⟩:∃ n,p.stmts.length=n:=⟨_,rfl⟩
 obtain⟨a1,c1,rfl,-⟩:=L10.df_form hn1 hp.1
 obtain⟨a2,c2,rfl,-⟩:=L10.sm_form hn2 hp.2
 have HB:=Lib.hid (L8.bnew w (.cells #[.slice a1 n1 c1,.slice a2 n2 c2] 25))
 have K0:=Lib.hid (heap_alloc_last w (.cells #[.slice a1 n1 c1,.slice a2 n2 c2] 25))
 have HF1:=Lib.hid F1
 have HM:=Lib.hid hf1
 have HN:=Lib.hid hn2
 clear hT F1 hp hf hr hn1 hn2 hf1
 cases f1
 ·go_enter Tryz.func3,Tryz.ntmps3
  go_wp2_with (first
   | (go_at_call 8;((with_reducible refine (HF1.out _ HB.out).mono ?_);rintro e w1 ⟨rfl,b1⟩))
   | (go_at_call 9;((with_reducible refine (HA.out _ (L2.bch HB.out b1)).mono ?_);rintro e w2 ⟨rfl,b2⟩)))
  go_ret
  exact⟨rfl,L2.bch (L2.bch HB.out b1) b2⟩
 ·have hfew:=HM.out rfl
  have hft:=L10.fits_few HFT.out hfew
  have hm:=hfew.2.1
  rw [HN.out] at hm
  obtain⟨b,k,er,hbr⟩:∃ b k er,L10.brV p=(b,k,er):=⟨_,_,_,rfl⟩
  have HRs:=Lib.hid (fun (X:World) (hX:Below w.heap.size w X)=>(resolve_at (.slice a1 n1 c1) (.slice a2 n2 c2) p n2 X (HP.out.below hX) hft HN.out (by omega) (HTB.out X hX).two b k er hbr).mono fun _ _ h=>rs_one h)
  have HRr:=Lib.hid (fun (X:World) (hX:Below w.heap.size w X)=>(rresolve_at (.slice a1 n1 c1) (.slice a2 n2 c2) p n2 X (HP.out.below hX) HFT.out hfew HN.out b k er hbr).mono fun _ _ h=>rs_one h)
  have hl:(if er=0 then rsL p else []).length≤100000:=by
   split
   ·rw [rsL_len,HN.out];omega
   ·simp
  generalize (if er=0 then rsL p else [])=L at HRs HRr hl
  generalize (if er=0 then n2 else 0)=N at HRs HRr
  generalize (if er=0 then 0 else (k:Int))=K at HRs HRr
  have HSm:=Lib.hid (fun v v' W h h'=>isame12_at v v' L W hl h h')
  clear hfew hft hm hbr hl
  go_enter Tryz.func3,Tryz.ntmps3
  go_upto_region 3 with (go_at_call 8;((with_reducible refine (HF1.out _ HB.out).mono ?_);rintro e w1 ⟨rfl,b1⟩;have B1:=L2.bch HB.out b1;have r1:=L8.row_up K0.out b1;obtain⟨x0,x1⟩:=L10.cells2p r1;have lx:=lt_of_block r1))
  go_upto_region 4 with (go_at_call 10;((with_reducible refine (HRs.out _ B1).mono ?_);rintro e w2 ⟨d1,e1,rfl,hl1,b2⟩;have B2:=L2.bch B1 b2;have r2:=L8.row_up r1 b2;clear x0 x1 lx;obtain⟨x0,x1⟩:=L10.cells2p r2;have lx:=lt_of_block r2))
  go_upto_region 5 with (go_at_call 11;((with_reducible refine (HRr.out _ B2).mono ?_);rintro e w3 ⟨d2,e2,rfl,hl2,b3⟩;have B3:=L2.bch B2 b3;have hl3:=hl1.below b3))
  go_wp2_with (first
   | (go_at_call 9;((with_reducible refine (HA.out _ B3).mono ?_);rintro e w4 ⟨rfl,b4⟩;have B4:=L2.bch B3 b4;have hl4:=hl3.below b4;have hl5:=hl2.below b4))
   | (go_at_call 12;((with_reducible refine (HSm.out _ _ _ hl4 hl5).mono ?_);rintro e w5 ⟨rfl,b5⟩)))
  go_ret
  exact⟨rfl,L2.bch B4 b5⟩
theorem assembles_walk (vm vs:Value) (p:Pg) (w:World) (hT:T13 w) (hp:L10.PgAt w vm vs p) (hf:L10.PgFit p) (hr:∀ s∈p.stmts,L10.TxRoom s.labs) :
  Calls Tryz.prog 4 #[.agg #[vm,vs]] w fun e w'=>e=.returned (.bool true)∧Below w.heap.size w w':=by
 obtain⟨f1,hf1,F1⟩:=L10.few_ex vm vs p w hp hr
 have HA:=Lib.hid (fun W hb=>alive13 W (hT.below hb))
 have HTB:=Lib.hid (fun W hb=>hT.below (w':=W) hb)
 have HP:=Lib.hid hp
 have HFT:=Lib.hid hf
 obtain⟨n1,hn1⟩:∃ n,p.maps.length=n:=⟨_,rfl⟩
 obtain⟨n2,hn2⟩:∃ n,p.stmts.length=n:=⟨_,rfl⟩
 obtain⟨a1,c1,rfl,-⟩:=L10.df_form hn1 hp.1
 obtain⟨a2,c2,rfl,-⟩:=L10.sm_form hn2 hp.2
 have HB:=Lib.hid (L8.bnew w (.cells #[.slice a1 n1 c1,.slice a2 n2 c2] 25))
 have K0:=Lib.hid (heap_alloc_last w (.cells #[.slice a1 n1 c1,.slice a2 n2 c2] 25))
 have HF1:=Lib.hid F1
 have HM:=Lib.hid hf1
 have HN:=Lib.hid hn2
 clear hT F1 hp hf hr hn1 hn2 hf1
 cases f1
 ·go_enter Tryz.func4,Tryz.ntmps4
  go_wp2_with (first
   | (go_at_call 8;((with_reducible refine (HF1.out _ HB.out).mono ?_);rintro e w1 ⟨rfl,b1⟩))
   | (go_at_call 9;((with_reducible refine (HA.out _ (L2.bch HB.out b1)).mono ?_);rintro e w2 ⟨rfl,b2⟩)))
  go_ret
  exact⟨rfl,L2.bch (L2.bch HB.out b1) b2⟩
 ·have hfew:=HM.out rfl
  have hft:=L10.fits_few HFT.out hfew
  have hm:=hfew.2.1
  rw [HN.out] at hm
  obtain⟨b,k,er,hbr⟩:∃ b k er,L10.brV p=(b,k,er):=⟨_,_,_,rfl⟩
  have HRs:=Lib.hid (fun (X:World) (hX:Below w.heap.size w X)=>(assemble_at (.slice a1 n1 c1) (.slice a2 n2 c2) p n2 X (HP.out.below hX) hft HN.out (by omega) (HTB.out X hX).two b k er hbr).mono fun _ _ h=>as_one h)
  have HRr:=Lib.hid (fun (X:World) (hX:Below w.heap.size w X)=>(rassemble_at (.slice a1 n1 c1) (.slice a2 n2 c2) p n2 X (HP.out.below hX) HFT.out hfew HN.out b k er hbr).mono fun _ _ h=>ra_one h)
  have hl:ObS (if er=0 then obV p else oZ):=by
   split
   ·exact obV_s hft (by rw [HN.out];omega)
   ·exact oZ_s
  generalize (if er=0 then obV p else oZ)=O at HRs HRr hl
  generalize (if er=0 then 0 else (k:Int))=K at HRs HRr
  have HSm:=Lib.hid (fun (v1 v2 v3 u1 u2 u3:Value) W h h'=>rsame13_at v1 v2 v3 u1 u2 u3 O O true W h h' hl hl (by simp))
  generalize O.maps.length=m1 at HRs HRr
  generalize O.code.length=m2 at HRs HRr
  generalize O.rels.length=m3 at HRs HRr
  clear hfew hft hm hbr hl
  go_enter Tryz.func4,Tryz.ntmps4
  go_upto_region 3 with (go_at_call 8;((with_reducible refine (HF1.out _ HB.out).mono ?_);rintro e w1 ⟨rfl,b1⟩;have B1:=L2.bch HB.out b1;have r1:=L8.row_up K0.out b1;obtain⟨x0,x1⟩:=L10.cells2p r1;have lx:=lt_of_block r1))
  go_upto_region 4 with (go_at_call 13;((with_reducible refine (HRs.out _ B1).mono ?_);rintro e w2 ⟨d1,e1,d2,e2,d3,e3,rfl,ho,b2⟩))
  have hk1:=heap_alloc_last w2 (obC (.slice d1 m1 e1) (.slice d2 m2 e2) (.slice d3 m3 e3))
  have n1':=L8.bnew w2 (obC (.slice d1 m1 e1) (.slice d2 m2 e2) (.slice d3 m3 e3))
  have ho1:=ho.below n1'
  have B2:=L2.bch B1 (L2.bch b2 n1')
  have r2:=L8.row_up r1 (L2.bch b2 n1')
  obtain⟨q1,hq1⟩:∃ q,w2.heap.size=q:=⟨_,rfl⟩
  rw [hq1] at hk1 ⊢
  clear hq1 n1' ho b2 x0 x1 lx r1 B1 b1
  generalize w2.alloc (.cells _ 38)=W2 at hk1 ho1 B2 r2 ⊢
  obtain⟨x0,x1⟩:=L10.cells2p r2
  have lx:=lt_of_block r2
  go_upto_region 5 with (go_at_call 14;((with_reducible refine (HRr.out _ B2).mono ?_);rintro e w3 ⟨g1,f1,g2,f2,g3,f3,rfl,hq,b3⟩))
  have hk2:=heap_alloc_last w3 (obC (.slice g1 m1 f1) (.slice g2 m2 f2) (.slice g3 m3 f3))
  have n2':=L8.bnew w3 (obC (.slice g1 m1 f1) (.slice g2 m2 f2) (.slice g3 m3 f3))
  have HQ:=Lib.hid (hq.below n2')
  have HO:=Lib.hid (ho1.below (L2.bch b3 n2'))
  have HB3:=Lib.hid (L2.bch B2 (L2.bch b3 n2'))
  have HK1:=Lib.hid (L8.row_up hk1 (L2.bch b3 n2'))
  have HK2:=Lib.hid hk2
  obtain⟨q2,hq2⟩:∃ q,w3.heap.size=q:=⟨_,rfl⟩
  rw [hq2] at HK2 ⊢
  clear hq2 n2' hq b3 x0 x1 lx r2 B2 hk1 ho1 hk2
  generalize w3.alloc (.cells _ 38)=W3 at HQ HO HB3 HK1 HK2 ⊢
  go_wp2_with (first
   | (go_at_call 9;((with_reducible refine (HA.out _ HB3.out).mono ?_);rintro e w4 ⟨rfl,b4⟩;have B4:=L2.bch HB3.out b4;have s1:=L8.row_up HK1.out b4;have s2:=L8.row_up HK2.out b4;obtain⟨x0,x1,x2⟩:=cells3 s1;obtain⟨y0,y1,y2⟩:=cells3 s2;have lx:=lt_of_block s1;have ly:=lt_of_block s2;have o4:=HO.out.below b4;have q4:=HQ.out.below b4))
   | (go_at_call 15;((with_reducible refine (HSm.out _ _ _ _ _ _ _ o4 q4).mono ?_);rintro e w5 ⟨rfl,b5⟩)))
  go_ret
  exact⟨rfl,L2.bch B4 b5⟩
end Go.Proofs.YtgljoilddjmohaaGreatDoor.L13
end
