/- Lemmas and walks of L16Ry, L16Rz: what each theorem states; conditions stand in each theorem. -/
import Derived.Test.YtohkgdfkklfgmaaGreatDoorM53
import Derived.Test.YtohkgdfkklfgmaaGreatDoorM51
section
set_option maxHeartbeats 16000000
namespace Go.Proofs.YtohkgdfkklfgmaaGreatDoor.L16
set_option maxRecDepth 100000
open Go.RowKit L14 L15
open L13 (Ob)
attribute [local go_sem] Oper.semAt_some
def RqF (o:Ob) (b:List UInt8) (w:World) (e:Ending) (w':World):Prop:=(chE o=0∧pkB o=b∧RqY o w e w')∨(¬ (chE o=0∧pkB o=b)∧RqN w e w')
theorem rowA_getD (m:Nat) (d:List UInt8) (k i:Nat) (h:i<m):(rowA m d k).getD i 0=ndA d (4*m*k+4*i):=by
 have hl:i<(rowA m d k).length:=by rw [rowA_len];exact h
 rw [← rowA_at m d k i hl]
 simp [List.getD,hl]
theorem wrap_small {z:Int} (h:0≤z∧z<9223372036854775808):IntKind.i64.wrap z=z:=by simp [IntKind.wrap,IntKind.bits,IntKind.signed];omega
theorem nd_get (d:List UInt8) (i:Nat):∃ V:Nat,ndA d i=(V:Int)∧va (sub d i 4)=V∧V<4294967296:=⟨_,rfl,rfl,by have:=ndA_lt d i;unfold ndA at this;omega⟩
section
variable (a:Option Addr) (n c:Nat) (b:List UInt8) (w:World) (hv:Rw eB w (.slice a n c) b) (hb:n≤100000) (s0 s1 s2 s3 s4:Sc) (h:rdOk b) (h5:nS b=5) (hl:rdT b (nS b)=[s0,s1,s2,s3,s4])
include hv hb h h5 hl
theorem rq_yes (ts:List (List UInt8)) (hk:s4.1=5) (hp:L14.prV s4.2=some ts) (hlen:s4.2.length≤100000) (heq:s1.2.length=16*ts.length) (hme:s3.2.length % 8=0) (hl3:s3.2.length≤100000) (o:Ob) (hoe:obT s0.2 s1.2 s3.2 ts=o) (hos:OS o) :
  Calls Tryz.prog 18 #[.slice a n c] w (RqF o b w):=by
 obtain⟨idf,di,dz0,dz1,dz2⟩:=info_parts infoDef
 obtain⟨irl,ri,rz0,rz1,rz2⟩:=info_parts infoRel
 obtain⟨k1,k2,hB⟩:=two_facts w
 have hbl:=hv.at.1
 have HR:=Lib.hid (rread_is a n c 5 b _ _ (hv.below hB) (by omega) h h5 hl)
 have HV:=Lib.hid hv
 have K1:=Lib.hid k1
 have K2:=Lib.hid k2
 have HB:=Lib.hid hB
 obtain⟨kk,d5⟩:=s4
 obtain⟨kk0,d1⟩:=s0
 obtain⟨kk1,d2⟩:=s1
 obtain⟨kk3,d4⟩:=s3
 simp only at hk hp hlen heq hme hl3 hoe
 subst hk
 obtain⟨D5,hD5⟩:∃ D,d5.length=D:=⟨_,rfl⟩
 obtain⟨D1,hD1⟩:∃ D,d1.length=D:=⟨_,rfl⟩
 obtain⟨D2,hD2⟩:∃ D,d2.length=D:=⟨_,rfl⟩
 obtain⟨D4,hD4⟩:∃ D,d4.length=D:=⟨_,rfl⟩
 obtain⟨T,hT⟩:∃ D,ts.length=D:=⟨_,rfl⟩
 have hTb:=(L14.prV_few hp).1
 rw [hD2,hT] at heq
 rw [hD4] at hme hl3
 rw [hT] at hTb
 have hTb2:T≤100000:=by omega
 have heq':((D2:Int) != 16*(T:Int))=false:=by rw [bne_eq_false_iff_eq];omega
 have hme':((D4:Int) % 8 != 0)=false:=by rw [bne_eq_false_iff_eq];omega
 obtain⟨K4,hK4⟩:∃ K,D4 / 8=K:=⟨_,rfl⟩
 have hK4':(D4:Int) / 8=(K4:Int):=by omega
 have hKb:K4≤100000:=by omega
 have hr2:(rdR 4 d2).length=T:=by rw [rdR_len,hD2];omega
 have hr4:(rdR 2 d4).length=K4:=by rw [rdR_len,hD4];omega
 have HP:=Lib.hid (fun (X:World) (v:Value) (hr:Rw eB X v d5)=>rparse_some v d5 ts T X hr (by omega) hp hT)
 have HCk:=Lib.hid (fun (X:World) (vm vc vr:Value) (hX:OA X vm vc vr o)=>rcheck16_at vm vc vr o (chE o) X hX hos rfl)
 have HPk:=Lib.hid (fun (hR:chE o=0) (X:World) (vm vc vr:Value) (hX:OA X vm vc vr o)=>rpack16_at vm vc vr o (pkB o).length X hX hos hR rfl)
 have HPl:=Lib.hid (fun (hR:chE o=0)=>show (pkB o).length≤1000000000 by
  have hg:=gd_of hR
  have h1:=(fw_secs hg).sz
  rw [pkB,wr_len];omega)
 have HL:=Lib.hid (And.intro hD5 (And.intro hD2 (And.intro hD4 (And.intro hT (And.intro hr2 (And.intro hr4 (And.intro hD1 hbl)))))))
 have HE:=Lib.hid (And.intro heq hK4)
 have HO:=Lib.hid hoe
 clear hv h k1 k2 hB h5 hp hD5 hD2 hD4 hD1 hlen hT hTb heq hme hl3 hr2 hr4 hoe hos hK4 hbl
 go_enter Tryz.func18,Tryz.ntmps18
 go_upto_region 10 with (first
  | (go_at_call 37;((with_reducible refine (HR.out).mono ?_);rintro e w1 ⟨⟨ra,rc,rfl,rs⟩,b1⟩;obtain⟨bb,o',rfl,hlb,y0,dv4,y4,r4⟩:=ss_at rs rfl 4 (by decide);obtain⟨bb0,o0,hq0,-,-,dv0,yy0,r0⟩:=ss_at rs rfl 0 (by decide);obtain⟨bb1,o1,hq1,-,-,dv1,y1,r1⟩:=ss_at rs rfl 1 (by decide);obtain⟨bb3,o3,hq3,-,-,dv3,y3,r3⟩:=ss_at rs rfl 3 (by decide);cases hq0;cases hq1;cases hq3;simp only [List.getElem_cons_succ,List.getElem_cons_zero] at y0 r0 r1 r3 r4;obtain⟨e4,g4,rfl,-⟩:=r4.form HL.out.1;obtain⟨e0,g0,rfl,-⟩:=r0.form HL.out.2.2.2.2.2.2.1;obtain⟨e1,g1,rfl,-⟩:=r1.form HL.out.2.1;obtain⟨e3,g3,rfl,-⟩:=r3.form HL.out.2.2.1))
  | (go_at_call 38;((with_reducible refine (HP.out _ _ r4).mono ?_);rintro e w4 ⟨⟨pa,pc,rfl,rn⟩,b2⟩;have yy0':=(b2.cell (p:=⟨bb,o'+0*2+1,none⟩) (by exact hlb)).trans yy0;have hlb2:=Nat.lt_of_lt_of_le hlb b2.size)))
 have HQ1:=Lib.hid (L8.row_up (L8.row_up K1.out b1) b2)
 have HQ2:=Lib.hid (L8.row_up (L8.row_up K2.out b1) b2)
 have HB4:=Lib.hid (bch (bch HB.out b1) b2)
 have HNm:=Lib.hid rn
 have HC:=Lib.hid (r0.below b2)
 have H2:=Lib.hid (r1.below b2)
 have H4:=Lib.hid (r3.below b2)
 clear rs r0 r1 r3 r4 rn y0 y1 y3 y4 yy0 hlb b1 b2 HR HP K1 K2 HB
 go_wp2
 obtain⟨kb,hkb⟩:∃ k,w4.heap.size=k:=⟨_,rfl⟩
 have HKB:=Lib.hid hkb
 have hk5:=heap_alloc_last w4 (.cells #[.slice none 0 0,.slice e0 D1 g0,.slice none 0 0] 26)
 have hb5:=bnew w4 (.cells #[.slice none 0 0,.slice e0 D1 g0,.slice none 0 0] 26)
 rw [hkb] at hk5
 (try rw [hkb])
 generalize w4.alloc (.cells #[.slice none 0 0,.slice e0 D1 g0,.slice none 0 0] 26)=w5 at hk5 hb5 ⊢
 have HI:Hid (w5.heap[kb]?=some (.cells #[.slice none 0 0,.slice e0 D1 g0,.slice none 0 0] 26)∧w5.ownsRow w4.heap.size 62 4 (.slice none 0 0) 0 (((List.zipWith mkD ts (rdR 4 d2)).take 0).flatMap L10.dfL)∧Below w4.heap.size w4 w5):=Lib.hid ⟨hk5,World.ownsRow_nil _ _ _ _,hb5⟩
 clear hk5 hb5 hkb yy0' hlb2
 go_loopw [11] (fun q wr=>∃ (k:Nat) (ma:Option Addr) (mc:Nat),k≤T∧q=.int .i64 (k:Int)∧Hid (wr.heap[kb]?=some (.cells #[.slice ma k mc,.slice e0 D1 g0,.slice none 0 0] 26)∧wr.ownsRow w4.heap.size 62 4 (.slice ma k mc) k (((List.zipWith mkD ts (rdR 4 d2)).take k).flatMap L10.dfL)∧Below w4.heap.size w4 wr)) (fun q _=>T-(intOf q).toNat)
 case atStart=>exact⟨0,none,0,Nat.zero_le _,rfl,HI⟩
 case round =>
  clear HI
  obtain⟨k,ma,mc,hk,rfl,hI⟩:=hrel
  by_cases hlt:k<T
  ·have hkt:k<ts.length:=by rw [HL.out.2.2.2.1];exact hlt
   have hkr:k<(rdR 4 d2).length:=by rw [HL.out.2.2.2.2.1];exact hlt
   obtain⟨-,-,-,hnc⟩:=HNm.out.at
   obtain⟨nb,no,rfl,hnb,hnn⟩:=hnc (by omega)
   have hnn0:=hnn k hkt
   unfold eT at hnn0
   have hsn:=zw_snoc ts (rdR 4 d2) k hkt hkr
   rw [rdR_at,rowA_getD 4 d2 k 0 (by decide),rowA_getD 4 d2 k 1 (by decide),rowA_getD 4 d2 k 2 (by decide)] at hsn
   obtain⟨V0,v0,u0,l0'⟩:=nd_get d2 (4*4*k+4*0)
   obtain⟨V1,v1,u1,l1'⟩:=nd_get d2 (4*4*k+4*1)
   obtain⟨V2,v2,u2,l2'⟩:=nd_get d2 (4*4*k+4*2)
   rw [v0,v1,v2] at hsn
   generalize mkB ts[k]=nm at hsn hnn0
   have HSN:=Lib.hid hsn
   have HNM:=Lib.hid (And.intro hnb hnn0)
   have hd2l:d2.length=16*T:=by rw [HL.out.2.1,HE.out.1]
   have G0:=Lib.hid (fun (X:World) (hX:Below w4.heap.size w4 X)=>rget_is (.slice e1 D2 g1) d2 (4*4*k+4*0) 4 V0 (16*(k:Int)) 4 X (H2.out.below hX) (by decide) (by omega) (by omega) u0 (by omega) rfl)
   have G1:=Lib.hid (fun (X:World) (hX:Below w4.heap.size w4 X)=>rget_is (.slice e1 D2 g1) d2 (4*4*k+4*1) 4 V1 (16*(k:Int)+4) 4 X (H2.out.below hX) (by decide) (by omega) (by omega) u1 (by omega) rfl)
   have G2:=Lib.hid (fun (X:World) (hX:Below w4.heap.size w4 X)=>rget_is (.slice e1 D2 g1) d2 (4*4*k+4*2) 4 V2 (16*(k:Int)+8) 4 X (H2.out.below hX) (by decide) (by omega) (by omega) u2 (by omega) rfl)
   have t0:=wrap_small (z:=16*(k:Int)) (by omega)
   have t1:=wrap_small (z:=16*(k:Int)+4) (by omega)
   have t2:=wrap_small (z:=16*(k:Int)+8) (by omega)
   have t3:=wrap_small (z:=(V0:Int)) (by omega)
   have t4:=wrap_small (z:=(V1:Int)) (by omega)
   have t5:=wrap_small (z:=(V2:Int)) (by omega)
   obtain⟨hrow,hown,hB⟩:=hI.out
   obtain⟨x0,x1,x2⟩:=L13.cells3 hrow
   have l0:=World.block_lt_of_cell? _ _ x0
   simp only at l0
   have HRW:=Lib.hid hrow
   have HOW:=Lib.hid hown
   have HBW:=Lib.hid hB
   have hsz:=hB.size
   clear hI hnc hnn hsn hrow hown hB hkt hkr hnb hnn0 v0 v1 v2 u0 u1 u2 hd2l
   go_upto_region 14 with (fail)
   refine wp_region_held_drew (S:=fun X=>Below w4.heap.size w4 X) (by kernel_rfl) HBW.out.drew (fun hH=>?_)
   have hrow1:=L8.row_up HRW.out ((Below.refl wr.heap.size wr).drew)
   have hown1:=own_below HOW.out ((Below.refl wr.heap.size wr).drew)
   clear HRW HOW HBW x0 x1 x2 l0 hsz
   generalize wr.drew=Wd at hrow1 hown1 hH ⊢
   refine wpAnyH_take (i:=0) (oi:=⟨some 77,.fieldAddr 26 (.tmp 10) 0,_,_,_,none⟩) (v:=.pointer (some ⟨kb,0,none⟩)) rfl (by kernel_rfl) (by kernel_rfl) (by kernel_rfl) (fun _ _ _ h=>h) (Or.inl ⟨by rfl,fun wS hS=>(by go_simp)⟩) hH ?_
   simp only [Act.put,zA,zB,zC]
   refine wpAnyH_take (i:=2) (oi:=⟨some 79,.move (.tmp 9),_,_,_,none⟩) (v:=.slice (some ⟨nb,no,none⟩) T pc) rfl (by kernel_rfl) (by kernel_rfl) (by kernel_rfl) (fun _ _ _ h=>h) (Or.inl ⟨by rfl,fun wS hS=>by rfl⟩) hH ?_
   simp only [Act.put,zA,zB,zC]
   refine wpAnyH_take (i:=3) (oi:=⟨some 80,.move (.tmp 11),_,_,_,none⟩) (v:=.int .i64 (k:Int)) rfl (by kernel_rfl) (by kernel_rfl) (by kernel_rfl) (fun _ _ _ h=>h) (Or.inl ⟨by rfl,fun wS hS=>by rfl⟩) hH ?_
   simp only [Act.put,zA,zB,zC]
   refine wpAnyH_take (i:=4) (oi:=⟨some 81,.indexAddr 65 (.tmp 79) (.tmp 80),_,_,_,none⟩) (v:=.pointer (some ⟨nb,no+k,none⟩)) rfl (by kernel_rfl) (by kernel_rfl) (by kernel_rfl) (fun _ _ _ h=>h) (Or.inl ⟨by rfl,fun wS hS=>(by go_simp)⟩) hH ?_
   simp only [Act.put,zA,zB,zC]
   refine wpAnyH_take (i:=5) (oi:=⟨some 82,.load 9 (.tmp 81),_,_,_,none⟩) (v:=.string nm) rfl (by kernel_rfl) (by kernel_rfl) (by kernel_rfl) (fun _ _ _ h=>h) (Or.inl ⟨by rfl,fun wS hS=>(by have d0:=(hS.cell (p:=⟨nb,no+k,none⟩) HNM.out.1).trans HNM.out.2;go_simp)⟩) hH ?_
   simp only [Act.put,zA,zB,zC]
   refine wpAnyH_take (i:=6) (oi:=⟨some 83,.move (.tmp 7),_,_,_,none⟩) (v:=.slice e1 D2 g1) rfl (by kernel_rfl) (by kernel_rfl) (by kernel_rfl) (fun _ _ _ h=>h) (Or.inl ⟨by rfl,fun wS hS=>by rfl⟩) hH ?_
   simp only [Act.put,zA,zB,zC]
   refine wpAnyH_take (i:=7) (oi:=⟨some 84,.move (.tmp 11),_,_,_,none⟩) (v:=.int .i64 (k:Int)) rfl (by kernel_rfl) (by kernel_rfl) (by kernel_rfl) (fun _ _ _ h=>h) (Or.inl ⟨by rfl,fun wS hS=>by rfl⟩) hH ?_
   simp only [Act.put,zA,zB,zC]
   refine wpAnyH_take (i:=8) (oi:=⟨some 85,.binOp .mul 3 (.const (.int .i64 16)) (.tmp 84) 3,_,_,_,none⟩) (v:=.int .i64 (16*(k:Int))) rfl (by kernel_rfl) (by kernel_rfl) (by kernel_rfl) (fun _ _ _ h=>h) (Or.inl ⟨by rfl,fun wS hS=>(by go_simp)⟩) hH ?_
   simp only [Act.put,zA,zB,zC]
   refine take_call (i:=9) (oi:=⟨some 86,.call ⟨.value (.func 39),#[.tmp 83,.tmp 85,.const (.int .i64 4)],#[23,3,3]⟩,_,_,_,none⟩) (v:=.int .u64 (V0:Int)) rfl (by kernel_rfl) (by kernel_rfl) (by kernel_rfl) (fun _ _ _ h=>h) (by rfl) (fun X=>by (first|rfl|go_simp)) (fun X hX=>G0.out X hX) hH ?_
   simp only [Act.put,zA,zB,zC]
   refine wpAnyH_take (i:=10) (oi:=⟨some 87,.convert 81 3 (.tmp 86),_,_,_,none⟩) (v:=.int .i64 (V0:Int)) rfl (by kernel_rfl) (by kernel_rfl) (by kernel_rfl) (fun _ _ _ h=>h) (Or.inl ⟨by rfl,fun wS hS=>(by go_simp)⟩) hH ?_
   simp only [Act.put,zA,zB,zC]
   refine wpAnyH_take (i:=11) (oi:=⟨some 88,.move (.tmp 7),_,_,_,none⟩) (v:=.slice e1 D2 g1) rfl (by kernel_rfl) (by kernel_rfl) (by kernel_rfl) (fun _ _ _ h=>h) (Or.inl ⟨by rfl,fun wS hS=>by rfl⟩) hH ?_
   simp only [Act.put,zA,zB,zC]
   refine wpAnyH_take (i:=12) (oi:=⟨some 89,.move (.tmp 11),_,_,_,none⟩) (v:=.int .i64 (k:Int)) rfl (by kernel_rfl) (by kernel_rfl) (by kernel_rfl) (fun _ _ _ h=>h) (Or.inl ⟨by rfl,fun wS hS=>by rfl⟩) hH ?_
   simp only [Act.put,zA,zB,zC]
   refine wpAnyH_take (i:=13) (oi:=⟨some 90,.binOp .mul 3 (.const (.int .i64 16)) (.tmp 89) 3,_,_,_,none⟩) (v:=.int .i64 (16*(k:Int))) rfl (by kernel_rfl) (by kernel_rfl) (by kernel_rfl) (fun _ _ _ h=>h) (Or.inl ⟨by rfl,fun wS hS=>(by go_simp)⟩) hH ?_
   simp only [Act.put,zA,zB,zC]
   refine wpAnyH_take (i:=14) (oi:=⟨some 91,.binOp .add 3 (.tmp 90) (.const (.int .i64 4)) 3,_,_,_,none⟩) (v:=.int .i64 (16*(k:Int)+4)) rfl (by kernel_rfl) (by kernel_rfl) (by kernel_rfl) (fun _ _ _ h=>h) (Or.inl ⟨by rfl,fun wS hS=>(by go_simp)⟩) hH ?_
   simp only [Act.put,zA,zB,zC]
   refine take_call (i:=15) (oi:=⟨some 92,.call ⟨.value (.func 39),#[.tmp 88,.tmp 91,.const (.int .i64 4)],#[23,3,3]⟩,_,_,_,none⟩) (v:=.int .u64 (V1:Int)) rfl (by kernel_rfl) (by kernel_rfl) (by kernel_rfl) (fun _ _ _ h=>h) (by rfl) (fun X=>by (first|rfl|go_simp)) (fun X hX=>G1.out X hX) hH ?_
   simp only [Act.put,zA,zB,zC]
   refine wpAnyH_take (i:=16) (oi:=⟨some 93,.convert 81 3 (.tmp 92),_,_,_,none⟩) (v:=.int .i64 (V1:Int)) rfl (by kernel_rfl) (by kernel_rfl) (by kernel_rfl) (fun _ _ _ h=>h) (Or.inl ⟨by rfl,fun wS hS=>(by go_simp)⟩) hH ?_
   simp only [Act.put,zA,zB,zC]
   refine wpAnyH_take (i:=17) (oi:=⟨some 94,.move (.tmp 7),_,_,_,none⟩) (v:=.slice e1 D2 g1) rfl (by kernel_rfl) (by kernel_rfl) (by kernel_rfl) (fun _ _ _ h=>h) (Or.inl ⟨by rfl,fun wS hS=>by rfl⟩) hH ?_
   simp only [Act.put,zA,zB,zC]
   refine wpAnyH_take (i:=18) (oi:=⟨some 95,.move (.tmp 11),_,_,_,none⟩) (v:=.int .i64 (k:Int)) rfl (by kernel_rfl) (by kernel_rfl) (by kernel_rfl) (fun _ _ _ h=>h) (Or.inl ⟨by rfl,fun wS hS=>by rfl⟩) hH ?_
   simp only [Act.put,zA,zB,zC]
   refine wpAnyH_take (i:=19) (oi:=⟨some 96,.binOp .mul 3 (.const (.int .i64 16)) (.tmp 95) 3,_,_,_,none⟩) (v:=.int .i64 (16*(k:Int))) rfl (by kernel_rfl) (by kernel_rfl) (by kernel_rfl) (fun _ _ _ h=>h) (Or.inl ⟨by rfl,fun wS hS=>(by go_simp)⟩) hH ?_
   simp only [Act.put,zA,zB,zC]
   refine wpAnyH_take (i:=20) (oi:=⟨some 97,.binOp .add 3 (.tmp 96) (.const (.int .i64 8)) 3,_,_,_,none⟩) (v:=.int .i64 (16*(k:Int)+8)) rfl (by kernel_rfl) (by kernel_rfl) (by kernel_rfl) (fun _ _ _ h=>h) (Or.inl ⟨by rfl,fun wS hS=>(by go_simp)⟩) hH ?_
   simp only [Act.put,zA,zB,zC]
   refine take_call (i:=21) (oi:=⟨some 98,.call ⟨.value (.func 39),#[.tmp 94,.tmp 97,.const (.int .i64 4)],#[23,3,3]⟩,_,_,_,none⟩) (v:=.int .u64 (V2:Int)) rfl (by kernel_rfl) (by kernel_rfl) (by kernel_rfl) (fun _ _ _ h=>h) (by rfl) (fun X=>by (first|rfl|go_simp)) (fun X hX=>G2.out X hX) hH ?_
   simp only [Act.put,zA,zB,zC]
   refine wpAnyH_take (i:=22) (oi:=⟨some 99,.convert 81 3 (.tmp 98),_,_,_,none⟩) (v:=.int .i64 (V2:Int)) rfl (by kernel_rfl) (by kernel_rfl) (by kernel_rfl) (fun _ _ _ h=>h) (Or.inl ⟨by rfl,fun wS hS=>(by go_simp)⟩) hH ?_
   simp only [Act.put,zA,zB,zC]
   refine wpAnyH_take (i:=23) (oi:=⟨some 100,.build 62 #[(0,.tmp 82),(1,.tmp 87),(2,.tmp 93),(3,.tmp 99)],_,_,_,none⟩) (v:=.agg #[.string nm,.int .i64 (V0:Int),.int .i64 (V1:Int),.int .i64 (V2:Int)]) rfl (by kernel_rfl) (by kernel_rfl) (by kernel_rfl) (fun _ _ _ h=>h) (Or.inl ⟨by rfl,fun wS hS=>(by go_simp)⟩) hH ?_
   simp only [Act.put,zA,zB,zC]
   refine wpAnyH_ready (rs:=[1,24]) (by kernel_rfl) (by simp) ?_
   refine AllReadyH.cons (o:=⟨some 78,.load 22 (.tmp 77),_,_,_,none⟩) rfl (fun K hK=>?_) (AllReadyH.cons (o:=⟨some 101,.buildSlice 22 1 #[(0,.tmp 100)],_,_,_,none⟩) rfl (fun K hK=>?_) AllReadyH.nil)
   focus
    obtain⟨x0,x1,x2⟩:=L13.cells3 hrow1
    go_simp
    refine hK.out _ _ hH (fun _=>?_)
    clear hK K x0 x1 x2
    (try simp only [Act.put,zA,zB,zC])
    refine wpAnyH_ready (rs:=[24]) (by kernel_rfl) (by simp) ?_
    refine AllReadyH.cons (o:=⟨some 101,.buildSlice 22 1 #[(0,.tmp 100)],_,_,_,none⟩) rfl (fun K hK=>?_) AllReadyH.nil
    go_simp
    have hrow2:=L8.row_up hrow1 (bnew Wd (.cells #[.string nm,.int .i64 (V0:Int),.int .i64 (V1:Int),.int .i64 (V2:Int)] 62))
    have hown2:=own_below hown1 (bnew Wd (.cells #[.string nm,.int .i64 (V0:Int),.int .i64 (V1:Int),.int .i64 (V2:Int)] 62))
    have hn2:=heap_alloc_last Wd (.cells #[.string nm,.int .i64 (V0:Int),.int .i64 (V1:Int),.int .i64 (V2:Int)] 62)
    refine hK.out _ _ (hH.alloc hH.size _) (fun hH2=>?_)
    clear hK K
    (try simp only [Act.put,zA,zB,zC])
    obtain⟨gn,hgn⟩:∃ gn,Wd.heap.size=gn:=⟨_,rfl⟩
    rw [hgn] at hn2 ⊢
    generalize Wd.alloc (.cells #[.string nm,.int .i64 (V0:Int),.int .i64 (V1:Int),.int .i64 (V2:Int)] 62)=W2 at hrow2 hown2 hn2 hH2 ⊢
    clear hgn hrow1 hown1 hH
   rotate_left
   focus
    go_simp
    have hrow2:=L8.row_up hrow1 (bnew Wd (.cells #[.string nm,.int .i64 (V0:Int),.int .i64 (V1:Int),.int .i64 (V2:Int)] 62))
    have hown2:=own_below hown1 (bnew Wd (.cells #[.string nm,.int .i64 (V0:Int),.int .i64 (V1:Int),.int .i64 (V2:Int)] 62))
    have hn2:=heap_alloc_last Wd (.cells #[.string nm,.int .i64 (V0:Int),.int .i64 (V1:Int),.int .i64 (V2:Int)] 62)
    refine hK.out _ _ (hH.alloc hH.size _) (fun hH2=>?_)
    clear hK K
    (try simp only [Act.put,zA,zB,zC])
    obtain⟨x0,x1,x2⟩:=L13.cells3 hrow2
    refine wpAnyH_ready (rs:=[1]) (by kernel_rfl) (by simp) ?_
    refine AllReadyH.cons (o:=⟨some 78,.load 22 (.tmp 77),_,_,_,none⟩) rfl (fun K hK=>?_) AllReadyH.nil
    go_simp
    refine hK.out _ _ hH2 (fun _=>?_)
    clear hK K x0 x1 x2
    (try simp only [Act.put,zA,zB,zC])
    obtain⟨gn,hgn⟩:∃ gn,Wd.heap.size=gn:=⟨_,rfl⟩
    rw [hgn] at hn2 ⊢
    generalize Wd.alloc (.cells #[.string nm,.int .i64 (V0:Int),.int .i64 (V1:Int),.int .i64 (V2:Int)] 62)=W2 at hrow2 hown2 hn2 hH2 ⊢
    clear hgn hrow1 hown1 hH
   all_goals
    refine wpAnyH_ready (rs:=[25]) (by kernel_rfl) (by simp) ?_
    refine AllReadyH.cons (o:=⟨some 102,.call ⟨.builtin .append,#[.tmp 78,.tmp 101],#[22,22]⟩,_,_,_,none⟩) rfl (fun K hK=>?_) AllReadyH.nil
    refine step_append_lies _ (by rfl) _ _ _ (by rfl) w4.heap.size 62 idf (.agg #[.string ⟨#[]⟩,.int .i64 0,.int .i64 0,.int .i64 0]) 4 40 Tryz.underlying22 di dz0 dz1 dz2 rfl (by decide) _ k _ (by rfl) hown2 ⟨gn,0,none⟩ 1 1 [.string nm,.int .i64 (V0:Int),.int .i64 (V1:Int),.int .i64 (V2:Int)] (by rfl) (by rfl) (World.news_of_block (cs:=#[.string nm,.int .i64 (V0:Int),.int .i64 (V1:Int),.int .i64 (V2:Int)]) (t:=62) (fr:=(0,0)) hn2) (by simp [Value.oneCell']) (by omega) (by unfold maxLen;omega) (by omega) hH2.size _ rfl ?_
    intro g cap w8 hown3 hgrow3 _ _
    have hrow3:=row_far hrow2 hown2 hgrow3 (by decide)
    have hB3:=hH2.grown hgrow3 hH2.size (own_base hown2)
    refine hK.out _ _ hB3 (fun hH3=>?_)
    clear hK K hrow2 hown2 hn2 hH2 hgrow3
    (try simp only [Act.put,zA,zB,zC])
    refine wpAnyH_take (i:=26) (oi:=⟨some 103,.fieldAddr 26 (.tmp 10) 0,_,_,_,none⟩) (v:=.pointer (some ⟨kb,0,none⟩)) rfl (by kernel_rfl) (by kernel_rfl) (by kernel_rfl) (fun _ _ _ h=>h) (Or.inl ⟨by rfl,fun wS hS=>(by go_simp)⟩) hH3 ?_
    simp only [Act.put,zA,zB,zC]
    obtain⟨x0,x1,x2⟩:=L13.cells3 hrow3
    have fz:=frz hrow3 0
    refine wpAnyH_ready (rs:=[27]) (by kernel_rfl) (by simp) ?_
    refine AllReadyH.cons (o:=⟨none,.store 22 (.tmp 103) (.tmp 102),_,_,_,none⟩) rfl (fun K hK=>?_) AllReadyH.nil
    go_simp
    refine hK.out _ _ (hH3.setCell (by rw [HKB.out];exact Nat.le_refl _) _) (fun hH4=>?_)
    clear hK K x0 x1 x2 fz
    (try simp only [Act.put,zA,zB,zC])
    refine wpAnyH_done (by kernel_rfl) ?_ _
    go_wp2
    go_roundw
    case rel=>exact⟨k+1,_,_,hlt,by go_num,Lib.hid ⟨cells_set hrow3,by rw [HSN.out];exact own_cell hown3 hrow3 (by decide),hH4⟩⟩
    case measure=>simp [intOf];omega
  ·obtain rfl:k=T:=by omega
   have hto:(List.zipWith mkD ts (rdR 4 d2)).take k=List.zipWith mkD ts (rdR 4 d2):=List.take_of_length_le (by rw [List.length_zipWith,HL.out.2.2.2.1];omega)
   obtain⟨hrow,hown,hB⟩:=hI.out
   rw [hto] at hown
   have HI:Hid (wr.heap[kb]?=some (.cells #[.slice ma k mc,.slice e0 D1 g0,.slice none 0 0] 26)∧wr.ownsRow w4.heap.size 59 2 (.slice none 0 0) 0 ((((rdR 2 d4).map mkR).take 0).flatMap L13.roL)∧Below w4.heap.size w4 wr∧wr.ownsRow w4.heap.size 62 4 (.slice ma k mc) k ((List.zipWith mkD ts (rdR 4 d2)).flatMap L10.dfL)) :=
    Lib.hid ⟨hrow,World.ownsRow_nil _ _ _ _,hB,hown⟩
   clear hI hto hrow hown hB
   go_wp2
   go_loopw [12] (fun q wr=>∃ (m:Nat) (fa:Option Addr) (fc:Nat),m≤K4∧q=.int .i64 (m:Int)∧Hid (wr.heap[kb]?=some (.cells #[.slice ma k mc,.slice e0 D1 g0,.slice fa m fc] 26)∧wr.ownsRow w4.heap.size 59 2 (.slice fa m fc) m ((((rdR 2 d4).map mkR).take m).flatMap L13.roL)∧Below w4.heap.size w4 wr∧wr.ownsRow w4.heap.size 62 4 (.slice ma k mc) k ((List.zipWith mkD ts (rdR 4 d2)).flatMap L10.dfL))) (fun q _=>K4-(intOf q).toNat)
   case atStart=>exact⟨0,none,0,Nat.zero_le _,rfl,HI⟩
   case round =>
    clear HI
    obtain⟨m,fa,fc,hm,rfl,hI⟩:=hrel
    by_cases hlt2:m<K4
    ·have hkr:m<(rdR 2 d4).length:=by rw [HL.out.2.2.2.2.2.1];exact hlt2
     have hsn:=rl_snoc (rdR 2 d4) m hkr
     rw [rdR_at,rowA_getD 2 d4 m 0 (by decide),rowA_getD 2 d4 m 1 (by decide)] at hsn
     obtain⟨V0,v0,u0,l0'⟩:=nd_get d4 (4*2*m+4*0)
     obtain⟨V1,v1,u1,l1'⟩:=nd_get d4 (4*2*m+4*1)
     rw [v0,v1] at hsn
     have HSN:=Lib.hid hsn
     have hd4l:8*m+8≤d4.length:=by rw [HL.out.2.2.1];have:=HE.out.2;omega
     have hd4m:d4.length≤1000000000:=by rw [HL.out.2.2.1];have:=HE.out.2;omega
     have G0:=Lib.hid (fun (X:World) (hX:Below w4.heap.size w4 X)=>rget_is (.slice e3 D4 g3) d4 (4*2*m+4*0) 4 V0 (8*(m:Int)) 4 X (H4.out.below hX) (by decide) (by omega) hd4m u0 (by omega) rfl)
     have G1:=Lib.hid (fun (X:World) (hX:Below w4.heap.size w4 X)=>rget_is (.slice e3 D4 g3) d4 (4*2*m+4*1) 4 V1 (8*(m:Int)+4) 4 X (H4.out.below hX) (by decide) (by omega) hd4m u1 (by omega) rfl)
     have t0:=wrap_small (z:=8*(m:Int)) (by omega)
     have t1:=wrap_small (z:=8*(m:Int)+4) (by omega)
     have t3:=wrap_small (z:=(V0:Int)) (by omega)
     have t4:=wrap_small (z:=(V1:Int)) (by omega)
     obtain⟨hrow,hown,hB,hdf⟩:=hI.out
     obtain⟨x0,x1,x2⟩:=L13.cells3 hrow
     have l0:=World.block_lt_of_cell? _ _ x0
     simp only at l0
     have HRW:=Lib.hid hrow
     have HOW:=Lib.hid hown
     have HBW:=Lib.hid hB
     have HKP:=Lib.hid hdf
     have hsz:=hB.size
     clear hI hrow hown hB hdf hsn hkr v0 v1 u0 u1 hd4l hd4m
     go_upto_region 18 with (fail)
     refine wp_region_held_drew (S:=fun X=>Below w4.heap.size w4 X) (by kernel_rfl) HBW.out.drew (fun hH=>?_)
     have hrow1:=L8.row_up HRW.out ((Below.refl wr.heap.size wr).drew)
     have hown1:=own_below HOW.out ((Below.refl wr.heap.size wr).drew)
     have hoth1:=own_below HKP.out ((Below.refl wr.heap.size wr).drew)
     clear HRW HOW HBW x0 x1 x2 l0 hsz HKP
     generalize wr.drew=Wd at hrow1 hown1 hH hoth1 ⊢
     refine wpAnyH_take (i:=0) (oi:=⟨some 111,.fieldAddr 26 (.tmp 10) 2,_,_,_,none⟩) (v:=.pointer (some ⟨kb,2,none⟩)) rfl (by kernel_rfl) (by kernel_rfl) (by kernel_rfl) (fun _ _ _ h=>h) (Or.inl ⟨by rfl,fun wS hS=>(by go_simp)⟩) hH ?_
     simp only [Act.put,zA,zB,zC]
     refine wpAnyH_take (i:=2) (oi:=⟨some 113,.move (.tmp 8),_,_,_,none⟩) (v:=.slice e3 D4 g3) rfl (by kernel_rfl) (by kernel_rfl) (by kernel_rfl) (fun _ _ _ h=>h) (Or.inl ⟨by rfl,fun wS hS=>by rfl⟩) hH ?_
     simp only [Act.put,zA,zB,zC]
     refine wpAnyH_take (i:=3) (oi:=⟨some 114,.move (.tmp 12),_,_,_,none⟩) (v:=.int .i64 (m:Int)) rfl (by kernel_rfl) (by kernel_rfl) (by kernel_rfl) (fun _ _ _ h=>h) (Or.inl ⟨by rfl,fun wS hS=>by rfl⟩) hH ?_
     simp only [Act.put,zA,zB,zC]
     refine wpAnyH_take (i:=4) (oi:=⟨some 115,.binOp .mul 3 (.const (.int .i64 8)) (.tmp 114) 3,_,_,_,none⟩) (v:=.int .i64 (8*(m:Int))) rfl (by kernel_rfl) (by kernel_rfl) (by kernel_rfl) (fun _ _ _ h=>h) (Or.inl ⟨by rfl,fun wS hS=>(by go_simp)⟩) hH ?_
     simp only [Act.put,zA,zB,zC]
     refine take_call (i:=5) (oi:=⟨some 116,.call ⟨.value (.func 39),#[.tmp 113,.tmp 115,.const (.int .i64 4)],#[23,3,3]⟩,_,_,_,none⟩) (v:=.int .u64 (V0:Int)) rfl (by kernel_rfl) (by kernel_rfl) (by kernel_rfl) (fun _ _ _ h=>h) (by rfl) (fun X=>by (first|rfl|go_simp)) (fun X hX=>G0.out X hX) hH ?_
     simp only [Act.put,zA,zB,zC]
     refine wpAnyH_take (i:=6) (oi:=⟨some 117,.convert 81 3 (.tmp 116),_,_,_,none⟩) (v:=.int .i64 (V0:Int)) rfl (by kernel_rfl) (by kernel_rfl) (by kernel_rfl) (fun _ _ _ h=>h) (Or.inl ⟨by rfl,fun wS hS=>(by go_simp)⟩) hH ?_
     simp only [Act.put,zA,zB,zC]
     refine wpAnyH_take (i:=7) (oi:=⟨some 118,.move (.tmp 8),_,_,_,none⟩) (v:=.slice e3 D4 g3) rfl (by kernel_rfl) (by kernel_rfl) (by kernel_rfl) (fun _ _ _ h=>h) (Or.inl ⟨by rfl,fun wS hS=>by rfl⟩) hH ?_
     simp only [Act.put,zA,zB,zC]
     refine wpAnyH_take (i:=8) (oi:=⟨some 119,.move (.tmp 12),_,_,_,none⟩) (v:=.int .i64 (m:Int)) rfl (by kernel_rfl) (by kernel_rfl) (by kernel_rfl) (fun _ _ _ h=>h) (Or.inl ⟨by rfl,fun wS hS=>by rfl⟩) hH ?_
     simp only [Act.put,zA,zB,zC]
     refine wpAnyH_take (i:=9) (oi:=⟨some 120,.binOp .mul 3 (.const (.int .i64 8)) (.tmp 119) 3,_,_,_,none⟩) (v:=.int .i64 (8*(m:Int))) rfl (by kernel_rfl) (by kernel_rfl) (by kernel_rfl) (fun _ _ _ h=>h) (Or.inl ⟨by rfl,fun wS hS=>(by go_simp)⟩) hH ?_
     simp only [Act.put,zA,zB,zC]
     refine wpAnyH_take (i:=10) (oi:=⟨some 121,.binOp .add 3 (.tmp 120) (.const (.int .i64 4)) 3,_,_,_,none⟩) (v:=.int .i64 (8*(m:Int)+4)) rfl (by kernel_rfl) (by kernel_rfl) (by kernel_rfl) (fun _ _ _ h=>h) (Or.inl ⟨by rfl,fun wS hS=>(by go_simp)⟩) hH ?_
     simp only [Act.put,zA,zB,zC]
     refine take_call (i:=11) (oi:=⟨some 122,.call ⟨.value (.func 39),#[.tmp 118,.tmp 121,.const (.int .i64 4)],#[23,3,3]⟩,_,_,_,none⟩) (v:=.int .u64 (V1:Int)) rfl (by kernel_rfl) (by kernel_rfl) (by kernel_rfl) (fun _ _ _ h=>h) (by rfl) (fun X=>by (first|rfl|go_simp)) (fun X hX=>G1.out X hX) hH ?_
     simp only [Act.put,zA,zB,zC]
     refine wpAnyH_take (i:=12) (oi:=⟨some 123,.convert 81 3 (.tmp 122),_,_,_,none⟩) (v:=.int .i64 (V1:Int)) rfl (by kernel_rfl) (by kernel_rfl) (by kernel_rfl) (fun _ _ _ h=>h) (Or.inl ⟨by rfl,fun wS hS=>(by go_simp)⟩) hH ?_
     simp only [Act.put,zA,zB,zC]
     refine wpAnyH_take (i:=13) (oi:=⟨some 124,.build 59 #[(0,.tmp 117),(1,.tmp 123)],_,_,_,none⟩) (v:=.agg #[.int .i64 (V0:Int),.int .i64 (V1:Int)]) rfl (by kernel_rfl) (by kernel_rfl) (by kernel_rfl) (fun _ _ _ h=>h) (Or.inl ⟨by rfl,fun wS hS=>(by go_simp)⟩) hH ?_
     simp only [Act.put,zA,zB,zC]
     refine wpAnyH_ready (rs:=[1,14]) (by kernel_rfl) (by simp) ?_
     refine AllReadyH.cons (o:=⟨some 112,.load 24 (.tmp 111),_,_,_,none⟩) rfl (fun K hK=>?_) (AllReadyH.cons (o:=⟨some 125,.buildSlice 24 1 #[(0,.tmp 124)],_,_,_,none⟩) rfl (fun K hK=>?_) AllReadyH.nil)
     focus
      obtain⟨x0,x1,x2⟩:=L13.cells3 hrow1
      go_simp
      refine hK.out _ _ hH (fun _=>?_)
      clear hK K x0 x1 x2
      (try simp only [Act.put,zA,zB,zC])
      refine wpAnyH_ready (rs:=[14]) (by kernel_rfl) (by simp) ?_
      refine AllReadyH.cons (o:=⟨some 125,.buildSlice 24 1 #[(0,.tmp 124)],_,_,_,none⟩) rfl (fun K hK=>?_) AllReadyH.nil
      go_simp
      have hrow2:=L8.row_up hrow1 (bnew Wd (.cells #[.int .i64 (V0:Int),.int .i64 (V1:Int)] 59))
      have hown2:=own_below hown1 (bnew Wd (.cells #[.int .i64 (V0:Int),.int .i64 (V1:Int)] 59))
      have hoth2:=own_below hoth1 (bnew Wd (.cells #[.int .i64 (V0:Int),.int .i64 (V1:Int)] 59))
      have hn2:=heap_alloc_last Wd (.cells #[.int .i64 (V0:Int),.int .i64 (V1:Int)] 59)
      refine hK.out _ _ (hH.alloc hH.size _) (fun hH2=>?_)
      clear hK K
      (try simp only [Act.put,zA,zB,zC])
      obtain⟨gn,hgn⟩:∃ gn,Wd.heap.size=gn:=⟨_,rfl⟩
      rw [hgn] at hn2 ⊢
      generalize Wd.alloc (.cells #[.int .i64 (V0:Int),.int .i64 (V1:Int)] 59)=W2 at hrow2 hown2 hn2 hH2 hoth2 ⊢
      clear hgn hrow1 hown1 hH hoth1
     rotate_left
     focus
      go_simp
      have hrow2:=L8.row_up hrow1 (bnew Wd (.cells #[.int .i64 (V0:Int),.int .i64 (V1:Int)] 59))
      have hown2:=own_below hown1 (bnew Wd (.cells #[.int .i64 (V0:Int),.int .i64 (V1:Int)] 59))
      have hoth2:=own_below hoth1 (bnew Wd (.cells #[.int .i64 (V0:Int),.int .i64 (V1:Int)] 59))
      have hn2:=heap_alloc_last Wd (.cells #[.int .i64 (V0:Int),.int .i64 (V1:Int)] 59)
      refine hK.out _ _ (hH.alloc hH.size _) (fun hH2=>?_)
      clear hK K
      (try simp only [Act.put,zA,zB,zC])
      obtain⟨x0,x1,x2⟩:=L13.cells3 hrow2
      refine wpAnyH_ready (rs:=[1]) (by kernel_rfl) (by simp) ?_
      refine AllReadyH.cons (o:=⟨some 112,.load 24 (.tmp 111),_,_,_,none⟩) rfl (fun K hK=>?_) AllReadyH.nil
      go_simp
      refine hK.out _ _ hH2 (fun _=>?_)
      clear hK K x0 x1 x2
      (try simp only [Act.put,zA,zB,zC])
      obtain⟨gn,hgn⟩:∃ gn,Wd.heap.size=gn:=⟨_,rfl⟩
      rw [hgn] at hn2 ⊢
      generalize Wd.alloc (.cells #[.int .i64 (V0:Int),.int .i64 (V1:Int)] 59)=W2 at hrow2 hown2 hn2 hH2 hoth2 ⊢
      clear hgn hrow1 hown1 hH hoth1
     all_goals
      refine wpAnyH_ready (rs:=[15]) (by kernel_rfl) (by simp) ?_
      refine AllReadyH.cons (o:=⟨some 126,.call ⟨.builtin .append,#[.tmp 112,.tmp 125],#[24,24]⟩,_,_,_,none⟩) rfl (fun K hK=>?_) AllReadyH.nil
      refine step_append_lies _ (by rfl) _ _ _ (by rfl) w4.heap.size 59 irl (.agg #[.int .i64 0,.int .i64 0]) 2 16 Tryz.underlying24 ri rz0 rz1 rz2 rfl (by decide) _ m _ (by rfl) hown2 ⟨gn,0,none⟩ 1 1 [.int .i64 (V0:Int),.int .i64 (V1:Int)] (by rfl) (by rfl) (World.news_of_block (cs:=#[.int .i64 (V0:Int),.int .i64 (V1:Int)]) (t:=59) (fr:=(0,0)) hn2) (by simp [Value.oneCell']) (by omega) (by unfold maxLen;omega) (by omega) hH2.size _ rfl ?_
      intro g cap w8 hown3 hgrow3 _ _
      have hrow3:=row_far hrow2 hown2 hgrow3 (by decide)
      have hoth3:=own_apart hoth2 hown2 hgrow3 (by decide)
      have hB3:=hH2.grown hgrow3 hH2.size (own_base hown2)
      refine hK.out _ _ hB3 (fun hH3=>?_)
      clear hK K hrow2 hown2 hn2 hH2 hgrow3 hoth2
      (try simp only [Act.put,zA,zB,zC])
      refine wpAnyH_take (i:=16) (oi:=⟨some 127,.fieldAddr 26 (.tmp 10) 2,_,_,_,none⟩) (v:=.pointer (some ⟨kb,2,none⟩)) rfl (by kernel_rfl) (by kernel_rfl) (by kernel_rfl) (fun _ _ _ h=>h) (Or.inl ⟨by rfl,fun wS hS=>(by go_simp)⟩) hH3 ?_
      simp only [Act.put,zA,zB,zC]
      obtain⟨x0,x1,x2⟩:=L13.cells3 hrow3
      have fz:=frz hrow3 2
      refine wpAnyH_ready (rs:=[17]) (by kernel_rfl) (by simp) ?_
      refine AllReadyH.cons (o:=⟨none,.store 24 (.tmp 127) (.tmp 126),_,_,_,none⟩) rfl (fun K hK=>?_) AllReadyH.nil
      go_simp
      refine hK.out _ _ (hH3.setCell (by rw [HKB.out];exact Nat.le_refl _) _) (fun hH4=>?_)
      clear hK K x0 x1 x2 fz
      (try simp only [Act.put,zA,zB,zC])
      refine wpAnyH_done (by kernel_rfl) ?_ _
      go_wp2
      go_roundw
      case rel=>exact⟨m+1,_,_,hlt2,by go_num,Lib.hid ⟨cells_set hrow3,by rw [HSN.out];exact own_cell hown3 hrow3 (by decide),hH4,own_cell hoth3 hrow3 (by decide)⟩⟩
      case measure=>simp [intOf];omega
    ·obtain rfl:m=K4:=by omega
     have hto:((rdR 2 d4).map mkR).take m=(rdR 2 d4).map mkR:=List.take_of_length_le (by rw [List.length_map,HL.out.2.2.2.2.2.1];exact Nat.le_refl _)
     obtain⟨hrow,hown,hB,hdf⟩:=hI.out
     rw [hto] at hown
     have hoa:OA wr (.slice ma k mc) (.slice e0 D1 g0) (.slice fa m fc) o:=by
      rw [← HO.out]
      exact⟨L13.own_df (by show (List.zipWith mkD ts (rdR 4 d2)).length=k;rw [List.length_zipWith,HL.out.2.2.2.1,HL.out.2.2.2.2.1];exact Nat.min_self _) hdf,HC.out.below hB,own_ro (by show ((rdR 2 d4).map mkR).length=m;rw [List.length_map];exact HL.out.2.2.2.2.2.1) hown⟩
     have q1:=L8.row_up HQ1.out hB
     have q2:=L8.row_up HQ2.out hB
     have HBB:=Lib.hid (bch HB4.out hB)
     have HOA:=Lib.hid hoa
     have HRW:=Lib.hid hrow
     have hvb:=HV.out.below HBB.out
     obtain⟨x0,x1,x2⟩:=L13.cells3 hrow
     obtain⟨y0,y1,y2⟩:=L13.cells3 q2
     have l0:=World.block_lt_of_cell? _ _ x0
     have l1:=World.block_lt_of_cell? _ _ y0
     simp only at l0 l1
     have HVB:=Lib.hid hvb
     have HQ1w:=Lib.hid q1
     have HQ2w:=Lib.hid q2
     clear hI hto hown hB hdf hrow hoa hvb q1 q2 HC H2 H4
     by_cases hR:chE o=0
     case neg =>
      have hR':(chE o != 0)=true:=by simpa using hR
      have HNG:=Lib.hid (fun (h:chE o=0∧pkB o=b)=>hR h.1)
      generalize chE o=R at HCk hR'
      go_upto_region 20 with (go_at_call 11;((with_reducible refine (HCk.out _ _ _ _ HOA.out).mono ?_);rintro e w6 ⟨rfl,b6⟩))
      have q1:=L8.row_up HQ1w.out b6
      obtain⟨y0,y1,y2⟩:=L13.cells3 (L8.row_up HQ2w.out b6)
      have l1:=World.block_lt_of_cell? _ _ y0
      simp only at l1
      go_wp2_with (refine wpList_store_row rfl _ _ _ rfl w.heap.size nil3 rfl rfl 26 _ q1 (by kernel_rfl) rfl (by simp [Value.oneCell']) ?_)
      obtain⟨z0,z1,z2⟩:=L13.cells3 (setRow_heap _ _ _ nil3 _ _ q1)
      exact bodyPost_ret (v:=.tuple #[.agg nil3,.bool false]) (by simp [results,Tryz.results18,go_sem,z0,z1,z2]) rfl (.inr ⟨HNG.out,rfl,below_setRow (bch HBB.out b6) (Nat.le_refl _) _⟩)
     have HP1:=Lib.hid (HPk.out hR)
     rw [hR] at HCk
     have hpl:=HPl.out hR
     by_cases he:pkB o=b
     case neg =>
      have HNG:=Lib.hid (fun (h:chE o=0∧pkB o=b)=>he h.2)
      have HS:=Lib.hid (fun (X:World) (v:Value) (hv1:Rw eB X v (pkB o)) (hv2:Rw eB X (.slice a n c) b)=>rsameB_at v (.slice a n c) (pkB o) b false X hpl (by rw [HL.out.2.2.2.2.2.2.2];omega) hv1 hv2 (by simpa using he))
      generalize (pkB o).length=N at HP1
      go_upto_region 20 with (first
       | (go_at_call 11;((with_reducible refine (HCk.out _ _ _ _ HOA.out).mono ?_);rintro e w6 ⟨rfl,b6⟩;obtain⟨u0,u1,u2⟩:=L13.cells3 (L8.row_up HRW.out b6);have l3:=World.block_lt_of_cell? _ _ u0;simp only at l3))
       | (go_at_call 15;((with_reducible refine (HP1.out _ _ _ _ (HOA.out.below b6)).mono ?_);rintro e w7 ⟨⟨ea,ec,rfl,er⟩,b7⟩))
       | (go_at_call 14;((with_reducible refine (HS.out _ _ er ((HVB.out.below b6).below b7)).mono ?_);rintro e w8 ⟨rfl,q8,hw8⟩;have b8:Below w7.heap.size w7 w8:=(by rw [hw8];exact bdN (Below.refl _ _) q8);clear hw8)))
      have q1:=L8.row_up (L8.row_up (L8.row_up HQ1w.out b6) b7) b8
      obtain⟨y0,y1,y2⟩:=L13.cells3 (L8.row_up (L8.row_up (L8.row_up HQ2w.out b6) b7) b8)
      have l1:=World.block_lt_of_cell? _ _ y0
      simp only at l1
      go_wp2_with (refine wpList_store_row rfl _ _ _ rfl w.heap.size nil3 rfl rfl 26 _ q1 (by kernel_rfl) rfl (by simp [Value.oneCell']) ?_)
      obtain⟨z0,z1,z2⟩:=L13.cells3 (setRow_heap _ _ _ nil3 _ _ q1)
      exact bodyPost_ret (v:=.tuple #[.agg nil3,.bool false]) (by simp [results,Tryz.results18,go_sem,z0,z1,z2]) rfl (.inr ⟨HNG.out,rfl,below_setRow (bch (bch (bch HBB.out b6) b7) b8) (Nat.le_refl _) _⟩)
     have HYE:=Lib.hid (And.intro hR he)
     have HS:=Lib.hid (fun (X:World) (v:Value) (hv1:Rw eB X v (pkB o)) (hv2:Rw eB X (.slice a n c) b)=>rsameB_at v (.slice a n c) (pkB o) b true X hpl (by rw [HL.out.2.2.2.2.2.2.2];omega) hv1 hv2 (by simpa using he))
     generalize (pkB o).length=N at HP1
     go_upto_region 21 with (first
      | (go_at_call 11;((with_reducible refine (HCk.out _ _ _ _ HOA.out).mono ?_);rintro e w6 ⟨rfl,b6⟩;obtain⟨u0,u1,u2⟩:=L13.cells3 (L8.row_up HRW.out b6);have l3:=World.block_lt_of_cell? _ _ u0;simp only at l3))
      | (go_at_call 15;((with_reducible refine (HP1.out _ _ _ _ (HOA.out.below b6)).mono ?_);rintro e w7 ⟨⟨ea,ec,rfl,er⟩,b7⟩))
      | (go_at_call 14;((with_reducible refine (HS.out _ _ er ((HVB.out.below b6).below b7)).mono ?_);rintro e w8 ⟨rfl,q8,hw8⟩;have b8:Below w7.heap.size w7 w8:=(by rw [hw8];exact bdN (Below.refl _ _) q8);clear hw8)))
     have q1:=L8.row_up (L8.row_up (L8.row_up HQ1w.out b6) b7) b8
     obtain⟨y0,y1,y2⟩:=L13.cells3 (L8.row_up (L8.row_up (L8.row_up HRW.out b6) b7) b8)
     have l1:=World.block_lt_of_cell? _ _ y0
     simp only at l1
     have hoa8:=((HOA.out.below b6).below b7).below b8
     go_wp2_with (refine wpList_store_row rfl _ _ _ rfl w.heap.size #[.slice ma k mc,.slice e0 D1 g0,.slice fa m fc] rfl rfl 26 _ q1 (by kernel_rfl) rfl (by simp [Value.oneCell']) ?_)
     obtain⟨z0,z1,z2⟩:=L13.cells3 (setRow_heap _ _ _ #[.slice ma k mc,.slice e0 D1 g0,.slice fa m fc] _ _ q1)
     exact bodyPost_ret (v:=.tuple #[.agg #[.slice ma k mc,.slice e0 D1 g0,.slice fa m fc],.bool true]) (by simp [results,Tryz.results18,go_sem,z0,z1,z2]) rfl (.inl ⟨HYE.out.1,HYE.out.2,⟨_,_,_,rfl,oa_setRow hoa8 q1⟩,below_setRow (bch (bch (bch HBB.out b6) b7) b8) (Nat.le_refl _) _⟩)
end
end Go.Proofs.YtohkgdfkklfgmaaGreatDoor.L16
end
section
namespace Go.Proofs.YtohkgdfkklfgmaaGreatDoor.L16
set_option maxRecDepth 100000
open Go.RowKit L14 L15
open L13 (Ob)
theorem list5 {α:Type}:∀ l:List α,l.length=5→∃ a b c d e,l=[a,b,c,d,e]
 | [a,b,c,d,e],_=>⟨a,b,c,d,e,rfl⟩
theorem os_obT {c d2 d4:List UInt8} {ts:List (List UInt8)} {p:List UInt8} (hc:c.length≤100000) (h4:d4.length≤100000) (hp:p.length≤100000) (h:L14.prV p=some ts):OS (obT c d2 d4 ts):=by
 have hf:=L14.prV_few h
 refine⟨?_,hc,?_,?_⟩
 ·show (List.zipWith mkD ts _).length≤_
  rw [List.length_zipWith];omega
 ·show ((rdR 2 d4).map mkR).length≤_
  rw [List.length_map,rdR_len];omega
 ·intro d hd
  obtain⟨t,ht,hn⟩:=zip_nm ts _ d hd
  rw [hn,mkB_size]
  have:=tot_mem ts t ht
  unfold maxLen;omega
theorem rd_short {b:List UInt8} {s:Sc} (h:s∈rdT b (nS b)):s.2.length≤b.length:=by
 obtain⟨i,hi,rfl⟩:=List.mem_iff_getElem.1 h
 rw [rdT_at]
 exact sub_le _ _ _
theorem rparse16_at (a:Option Addr) (n c:Nat) (b:List UInt8) (w:World) (hv:Rw eB w (.slice a n c) b) (hb:n≤100000) :
  ((∀ q,¬ Is16 b q)∧Calls Tryz.prog 18 #[.slice a n c] w (RqN w))∨∃ o,Is16 b o∧OS o∧Calls Tryz.prog 18 #[.slice a n c] w (RqY o w):=by
 by_cases h:rdOk b
 ·by_cases h5:nS b=5
  ·obtain⟨s0,s1,s2,s3,s4,hl⟩:=list5 (rdT b (nS b)) (by rw [rdT_len];exact h5)
   have hbl:=hv.at.1
   have l0:s0.2.length≤100000:=by have:=rd_short (b:=b) (s:=s0) (by rw [hl];simp);omega
   have l3:s3.2.length≤100000:=by have:=rd_short (b:=b) (s:=s3) (by rw [hl];simp);omega
   have l4:s4.2.length≤100000:=by have:=rd_short (b:=b) (s:=s4) (by rw [hl];simp);omega
   have key:∀ q,Is16 b q→s4.1=5∧L14.prV s4.2=some (nmL q.maps)∧s1.2.length=16*(nmL q.maps).length∧s3.2.length % 8=0∧obT s0.2 s1.2 s3.2 (nmL q.maps)=q:=by
    intro q hq
    have e:=(five_of hq).1
    have hg:=gd_of hq.1
    rw [hl] at e
    simp only [secs,List.cons.injEq,and_true] at e
    obtain⟨rfl,rfl,rfl,rfl,rfl⟩:=e
    refine⟨rfl,prV_secs hg,?_,?_,obT_secs hg⟩
    ·show (rwB (r2 q.maps)).length=_
     rw [r2_len,nmL_len]
    ·show (rwB (r4 q.rels)).length % 8=0
     rw [r4_len];omega
   by_cases hk:s4.1=5
   ·cases hp:L14.prV s4.2 with
    | none=>exact .inl ⟨fun q hq=>(by have k:=(key q hq).2.1;rw [hp] at k;cases k),rq_tab a n c b w hv hb s0 s1 s2 s3 s4 h h5 hl hk hp l4⟩
    | some ts =>
     have kts:∀ q,Is16 b q→nmL q.maps=ts:=fun q hq=>by
      have k:=(key q hq).2.1
      rw [hp] at k
      exact (Option.some.inj k).symm
     by_cases heq:s1.2.length=16*ts.length
     ·by_cases hme:s3.2.length % 8=0
      ·have hos:=os_obT (d2:=s1.2) l0 l3 l4 hp
       have hF:=rq_yes a n c b w hv hb s0 s1 s2 s3 s4 h h5 hl ts hk hp l4 heq hme l3 _ rfl hos
       by_cases hi:Is16 b (obT s0.2 s1.2 s3.2 ts)
       ·refine .inr ⟨_,hi,hos,hF.mono fun e w' hh=>?_⟩
        rcases hh with ⟨_,_,k⟩|⟨k,_⟩
        ·exact k
        ·exact absurd hi k
       ·refine .inl ⟨fun q hq=>hi ?_,hF.mono fun e w' hh=>?_⟩
        ·have k:=(key q hq).2.2.2.2
         rw [kts q hq] at k
         rw [k];exact hq
        ·rcases hh with ⟨k1,k2,_⟩|⟨_,k⟩
         ·exact absurd ⟨k1,k2⟩ hi
         ·exact k
      ·exact .inl ⟨fun q hq=>hme (key q hq).2.2.2.1,rq_rels a n c b w hv hb s0 s1 s2 s3 s4 h h5 hl ts hk hp l4 heq hme⟩
     ·exact .inl ⟨fun q hq=>heq (by rw [← kts q hq];exact (key q hq).2.2.1),rq_maps a n c b w hv hb s0 s1 s2 s3 s4 h h5 hl ts hk hp l4 heq⟩
   ·exact .inl ⟨fun q hq=>hk (key q hq).1,rq_kind a n c b w hv hb s0 s1 s2 s3 s4 h h5 hl hk⟩
  ·exact .inl ⟨fun q hq=>h5 (five_of hq).2,rq_len a n c b w hv hb h h5⟩
 ·exact .inl ⟨fun q hq=>h (is16_rd hq).1,rq_not a n c b w hv hb h⟩
end Go.Proofs.YtohkgdfkklfgmaaGreatDoor.L16
end
