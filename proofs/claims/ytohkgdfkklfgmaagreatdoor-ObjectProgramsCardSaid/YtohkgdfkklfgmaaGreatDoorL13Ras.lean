/- What the reference's Assemble returns: what Check finds, or the object. Condition: memory holds the program, which has few parts. -/
import Derived.Test.YtohkgdfkklfgmaaGreatDoorM31
import Derived.Test.YtohkgdfkklfgmaaGreatDoorM30
import Derived.Test.YtohkgdfkklfgmaaGreatDoorM32
set_option maxRecDepth 100000
set_option maxHeartbeats 8000000
namespace Go.Proofs.YtohkgdfkklfgmaaGreatDoor.L13
open Go.RowKit Go.Shelf L3 L4 L12
open L10 (Stm Pg jmI fmI lbK)
attribute [local go_sem] Oper.semAt_some
def RaP (w:World) (p:Pg) (k:Nat) (er:Int) (e:Ending) (w':World):Prop :=
 ((er≠0∧e=.returned (.tuple #[.agg #[.slice none 0 0,.slice none 0 0,.slice none 0 0],.int .i64 (k:Int),.int .i64 er])) ∨
  (er=0∧∃ vm vc vr,e=.returned (.tuple #[.agg #[vm,vc,vr],.int .i64 0,.int .i64 0])∧ObAt w' vm vc vr (obV p)))∧Below w.heap.size w w'
def SQ (w:World) (kp kr:Nat) (vm vs:Value) (X:World):Prop :=
 Below w.heap.size w X∧X.heap[kp]?=some (.cells #[vm,vs] 50)∧∃ a1 n1 c1 a2 n2 c2 a3 n3 c3,X.heap[kr]?=some (obC (.slice a1 n1 c1) (.slice a2 n2 c2) (.slice a3 n3 c3))
theorem SQ.below {w X Y:World} {kp kr:Nat} {vm vs:Value} (h:SQ w kp kr vm vs X) (hb:Below X.heap.size X Y):SQ w kp kr vm vs Y:=by
 obtain⟨h1,h2,a1,n1,c1,a2,n2,c2,a3,n3,c3,h4⟩:=h
 exact⟨L2.bch h1 hb,L8.row_up h2 hb,_,_,_,_,_,_,_,_,_,L8.row_up h4 hb⟩
theorem own_rln {W:World} {B e:TypeId} {v:Value} {xs:List (Nat × Int)} {n:Nat} (hn:xs.length=n) (h:W.ownsRow B e 2 v n (rlC xs)):RlAt W v xs:=by
 subst hn
 exact own_rl h
theorem bs_set {W:World} {kr:Nat} {a1 a2 a3:Option Addr} {n1 c1 n2 c2 n3 c3:Nat} {v:Value} {l:List UInt8} {cs:Array Value} (h:L5.BsV W v l) (hr:W.heap[kr]?=some (obC (.slice a1 n1 c1) (.slice a2 n2 c2) (.slice a3 n3 c3))):L5.BsV (W.setRow kr cs) v l:=by
 obtain⟨a,cap,rfl,hc⟩:=h
 refine⟨a,cap,rfl,?_⟩
 rcases hc with hc|⟨k,o,rfl,hB⟩
 ·exact .inl hc
 ·refine .inr ⟨k,o,rfl,fun j hj=>?_⟩
  have hcj:=hB j hj
  rw [cell_setRow_other _ _ _ _ ?_]
  ·exact hcj
  ·show k≠kr
   rintro rfl
   unfold World.cell? at hcj
   simp only [hr] at hcj
   rcases (show (o+j=0∨o+j=1∨o+j=2)∨3≤o+j by omega) with (h0|h0|h0)|h0
   ·simp [h0] at hcj
   ·simp [h0] at hcj
   ·simp [h0] at hcj
   ·have:(#[Value.slice a1 n1 c1,.slice a2 n2 c2,.slice a3 n3 c3]:Array Value)[o+j]?=none:=by rw [Array.getElem?_eq_none];simpa using h0
    rw [this] at hcj
    cases hcj
theorem rassemble_at (vm vs:Value) (p:Pg) (n:Nat) (w:World) (hp:L10.PgAt w vm vs p) (hf:L10.PgFit p) (hfew:p.maps.length≤300∧p.stmts.length≤60∧L10.lsum p.stmts≤200) (hn:p.stmts.length=n) (b:Bool) (k:Nat) (er:Int) (hr:L10.brV p=(b,k,er)) :
  Calls Tryz.prog 22 #[.agg #[vm,vs]] w fun e w'=>RaP w p k er e w':=by
 have HSml:=L10.sml_few hfew
 have hm:=hfew.2.1
 rw [hn] at hm
 have HRs:=Lib.hid (fun (X:World) (hX:Below w.heap.size w X)=>rresolve_at vm vs p n X (hp.below hX) hf hfew hn b k er hr)
 have HJ:=Lib.hid (fun (he:er=0) (X:World) (v:Value) (hv:IsAt X v (rsL p))=>show Calls Tryz.prog 46 #[v] X (fun e w'=>∃ u,e=.returned u∧L5.BsAt w' u (cdB p)∧Below X.heap.size X w') from L5.rjoin_at v ((rsL p).map tI) X (by rw [List.length_map,rsL_len,hn];omega) (is_in hv) (rsL_err (brV_ok hr he) (by omega)))
 have HRf:=Lib.hid (fun (X:World) (hX:Below w.heap.size w X)=>rrefs_at vm vs p X (hp.below hX) HSml)
 unfold RfP at HRf
 obtain⟨cl,hcL⟩:∃ c,(cdB p).length=c:=⟨_,rfl⟩
 obtain⟨rl,hrL⟩:∃ c,(rfT p p.stmts.length).length=c:=⟨_,rfl⟩
 rw [hrL] at HRf
 have HPm:=Lib.hid (fun (X:World) (hX:Below w.heap.size w X)=>hp.1.below hX)
 obtain⟨n1,hn1⟩:∃ n,p.maps.length=n:=⟨_,rfl⟩
 obtain⟨a1,c1,rfl,-⟩:=L10.df_form hn1 hp.1
 obtain⟨a2,c2,rfl,-⟩:=L10.sm_form hn hp.2
 have HL:=Lib.hid (And.intro hcL hrL)
 obtain⟨K1,K2,hB⟩:=two_as w (.slice a1 n1 c1) (.slice a2 n c2)
 have HB:=Lib.hid hB
 have HK1:=Lib.hid K1
 have HK2:=Lib.hid K2
 clear hp hf hn hm hr hn1 HSml hcL hrL K1 K2 hB hfew
 go_enter Tryz.func22,Tryz.ntmps22
 go_upto_region 1 with (fail)
 obtain⟨kp,hkp⟩:∃ k,w.heap.size=k:=⟨_,rfl⟩
 rw [hkp] at HK1 HK2 ⊢
 generalize (w.alloc (.cells _ 50)).alloc (.cells _ 26)=W at HK1 HK2 HB ⊢
 have HKP:=Lib.hid (show w.heap.size≤kp+1 by omega)
 clear hkp
 obtain⟨x0,x1⟩:=L10.cells2p HK1.out
 have l1:=World.block_lt_of_cell? _ _ x0
 simp only at l1
 by_cases h0:er=0
 case neg =>
  have h0':(er != 0)=true:=by simpa using h0
  have HRn:=Lib.hid ((HRs.out W HB.out).mono (fun e w' h=>show (e=.returned (.tuple #[.slice none 0 0,.int .i64 (k:Int),.int .i64 er]))∧Below W.heap.size W w' from ⟨by rcases h.1 with ⟨_,h⟩|⟨h,_⟩;exact h;exact absurd h h0,h.2⟩))
  clear HRs HJ HRf
  go_upto_region 3 with (go_at_call 45;((with_reducible refine (HRn.out).mono ?_);rintro e w1 ⟨rfl,b1⟩))
  have q2:=L8.row_up HK2.out b1
  have B1:=L2.bch HB.out b1
  go_wp2_with (refine wpList_store_row rfl _ _ _ rfl (kp+1) #[.slice none 0 0,.slice none 0 0,.slice none 0 0] rfl rfl 26 _ q2 (by kernel_rfl) rfl (by simp [Value.oneCell']) ?_)
  obtain⟨z0,z1,z2⟩:=cells3 (setRow_heap _ _ _ #[.slice none 0 0,.slice none 0 0,.slice none 0 0] _ _ q2)
  exact bodyPost_ret (v:=.tuple #[.agg #[.slice none 0 0,.slice none 0 0,.slice none 0 0],.int .i64 (k:Int),.int .i64 er]) (by simp [results,Tryz.results22,go_sem,z0,z1,z2]) rfl ⟨.inl ⟨h0,rfl⟩,below_setRow B1 HKP.out _⟩
 subst h0
 have HJ1:=Lib.hid (HJ.out rfl)
 clear HJ
 have HRy:=Lib.hid ((HRs.out W HB.out).mono (fun e w' h=>show (∃ a c,e=.returned (.tuple #[.slice a n c,.int .i64 0,.int .i64 0])∧IsAt w' (.slice a n c) (rsL p))∧Below W.heap.size W w' from ⟨by rcases h.1 with ⟨h,_⟩|⟨_,h⟩;exact absurd rfl h;exact h,h.2⟩))
 clear HRs
 go_upto_region 4 with (go_at_call 45;((with_reducible refine (HRy.out).mono ?_);rintro e w1 ⟨⟨la,lc,rfl,hv1⟩,b1⟩))
 have HSA:=Lib.hid (show SQ w kp (kp+1) (.slice a1 n1 c1) (.slice a2 n c2) w1 from ⟨L2.bch HB.out b1,L8.row_up HK1.out b1,_,_,_,_,_,_,_,_,_,L8.row_up HK2.out b1⟩)
 have HV1:=Lib.hid (hv1.below (L8.bdN (Below.refl _ _) 1))
 clear x0 x1 l1 b1 hv1 HRy HB HK1 HK2
 refine wp_region_held_drew (S:=SQ w kp (kp+1) (.slice a1 n1 c1) (.slice a2 n c2)) (by kernel_rfl) (HSA.out.below (L8.bdN (Below.refl _ _) 1)) (fun hH=>?_)
 refine wpAnyH_take (i:=0) (oi:=⟨some 19,.fieldAddr 50 (.tmp 1) 0,_,_,_,none⟩) (v:=.pointer (some ⟨kp,0,none⟩)) rfl (by kernel_rfl) (by kernel_rfl) (by kernel_rfl) (fun _ _ _ h=>h) (Or.inl ⟨by rfl,fun wS hS=>(by go_simp)⟩) hH ?_
 simp only [Act.put,zA,zB,zC]
 refine wpAnyH_take (i:=1) (oi:=⟨some 20,.load 22 (.tmp 19),_,_,_,none⟩) (v:=.slice a1 n1 c1) rfl (by kernel_rfl) (by kernel_rfl) (by kernel_rfl) (fun _ _ _ h=>h) (Or.inl ⟨by rfl,fun wS hS=>(by obtain⟨d0,d1⟩:=L10.cells2p hS.2.1;go_simp)⟩) hH ?_
 simp only [Act.put,zA,zB,zC]
 refine wpAnyH_take (i:=2) (oi:=⟨some 21,.move (.tmp 5),_,_,_,none⟩) (v:=.slice la n lc) rfl (by kernel_rfl) (by kernel_rfl) (by kernel_rfl) (fun _ _ _ h=>h) (Or.inl ⟨by rfl,fun wS hS=>(by rfl)⟩) hH ?_
 simp only [Act.put,zA,zB,zC]
 refine wpAnyH_take (i:=4) (oi:=⟨some 23,.load 50 (.tmp 1),_,_,_,none⟩) (v:=.agg #[.slice a1 n1 c1,.slice a2 n c2]) rfl (by kernel_rfl) (by kernel_rfl) (by kernel_rfl) (fun _ _ _ h=>h) (Or.inl ⟨by rfl,fun wS hS=>(by obtain⟨d0,d1⟩:=L10.cells2p hS.2.1;go_simp)⟩) hH ?_
 simp only [Act.put,zA,zB,zC]
 refine wpAnyH_ready (rs:=[3]) (by kernel_rfl) (by simp) ?_
 refine AllReadyH.cons (o:=⟨some 22,.call ⟨.value (.func 46),#[.tmp 21],#[95]⟩,_,_,_,none⟩) rfl (fun K hK=>?_) AllReadyH.nil
 go_simp
 refine (HJ1.out _ _ HV1.out).mono ?_
 rintro e w3 ⟨u3,rfl,hc3,b3⟩
 have hc3c:=hc3
 obtain⟨ca,cc,hu3,-⟩:=hc3c
 obtain rfl:u3=.slice ca cl cc:=by rw [hu3,HL.out.1]
 refine hK.out _ _ (hH.below b3) (fun hH3=>?_)
 have HC3:=Lib.hid (L5.BsAt.v hc3)
 clear hK K hH b3 hu3 hc3 HV1 HJ1
 (try simp only [Act.put,zA,zB,zC])
 refine wpAnyH_ready (rs:=[5]) (by kernel_rfl) (by simp) ?_
 refine AllReadyH.cons (o:=⟨some 24,.call ⟨.value (.func 47),#[.tmp 23],#[50]⟩,_,_,_,none⟩) rfl (fun K hK=>?_) AllReadyH.nil
 go_simp
 refine (HRf.out _ hH3.1).mono ?_
 rintro e w4 ⟨u4,rfl,hr4,b4⟩
 obtain⟨ra,rc,rfl⟩:=owns_slice hr4
 refine hK.out _ _ (hH3.below b4) (fun hH4=>?_)
 have HC4:=Lib.hid (HC3.out.below b4)
 have HR4:=Lib.hid hr4
 clear hK K hH3 hr4 b4 HC3 HRf
 (try simp only [Act.put,zA,zB,zC])
 refine wpAnyH_take (i:=6) (oi:=⟨some 25,.build 26 #[(0,.tmp 20),(1,.tmp 22),(2,.tmp 24)],_,_,_,none⟩) (v:=.agg #[.slice a1 n1 c1,.slice ca cl cc,.slice ra rl rc]) rfl (by kernel_rfl) (by kernel_rfl) (by kernel_rfl) (fun _ _ _ h=>h) (Or.inl ⟨by rfl,fun wS hS=>(by go_simp)⟩) hH4 ?_
 simp only [Act.put,zA,zB,zC]
 refine wpAnyH_ready (rs:=[7]) (by kernel_rfl) (by simp) ?_
 refine AllReadyH.cons (o:=⟨none,.store 26 (.tmp 2) (.tmp 25),_,_,_,none⟩) rfl (fun K hK=>?_) AllReadyH.nil
 rw [if_pos (by kernel_rfl)]
 obtain⟨q1,q2,r1,r2,r3,r4,r5,r6,r7,r8,r9,hrow⟩:=hH4
 refine wp_store_row 26 (.tmp 2) (.tmp 25) rfl (kp+1) #[.slice a1 n1 c1,.slice ca cl cc,.slice ra rl rc] rfl rfl 26 _ hrow (by kernel_rfl) rfl (by simp [Value.oneCell']) ?_
 have hset:=setRow_heap _ _ _ #[.slice a1 n1 c1,.slice ca cl cc,.slice ra rl rc] _ _ hrow
 have hBf:=below_setRow q1 HKP.out #[.slice a1 n1 c1,.slice ca cl cc,.slice ra rl rc]
 refine hK.out _ _ ⟨hBf,(setRow_other _ _ _ _ (by omega)).trans q2,_,_,_,_,_,_,_,_,_,hset⟩ (fun hH5=>?_)
 have hob:ObAt (w4.setRow (kp+1) #[.slice a1 n1 c1,.slice ca cl cc,.slice ra rl rc]) (.slice a1 n1 c1) (.slice ca cl cc) (.slice ra rl rc) (obV p):=by
  exact⟨HPm.out _ hBf,bs_set HC4.out hrow,rl_ro (own_rln HL.out.2 (own_set HR4.out hrow (by decide)))⟩
 have HOB:=Lib.hid hob
 have HSE:=Lib.hid hset
 clear hK K hrow hset hob hBf q1 q2
 (try simp only [Act.put])
 refine wpAnyH_take (i:=8) (oi:=⟨some 3,.assign (.const (.int .i64 0)),_,_,_,none⟩) (v:=.int .i64 0) rfl (by kernel_rfl) (by kernel_rfl) (by kernel_rfl) (fun _ _ _ h=>h) (Or.inl ⟨by rfl,fun wS hS=>(by rfl)⟩) hH5 ?_
 simp only [Act.put,zA,zB,zC]
 refine wpAnyH_take (i:=9) (oi:=⟨some 4,.assign (.const (.int .i64 0)),_,_,_,none⟩) (v:=.int .i64 0) rfl (by kernel_rfl) (by kernel_rfl) (by kernel_rfl) (fun _ _ _ h=>h) (Or.inl ⟨by rfl,fun wS hS=>(by rfl)⟩) hH5 ?_
 simp only [Act.put,zA,zB,zC]
 refine wpAnyH_done (by kernel_rfl) ?_ _
 go_wp2
 obtain⟨z0,z1,z2⟩:=cells3 HSE.out
 exact bodyPost_ret (v:=.tuple #[.agg #[.slice a1 n1 c1,.slice ca cl cc,.slice ra rl rc],.int .i64 0,.int .i64 0]) (by simp [results,Tryz.results22,go_sem,z0,z1,z2]) rfl ⟨.inr ⟨rfl,_,_,_,rfl,HOB.out⟩,hH5.1⟩
end Go.Proofs.YtohkgdfkklfgmaaGreatDoor.L13
