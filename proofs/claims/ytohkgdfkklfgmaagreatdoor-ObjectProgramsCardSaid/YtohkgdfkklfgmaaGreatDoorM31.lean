/- Lemmas and walks of L13Rrs, L3Rcd, L3Rfx: what each theorem states; conditions stand in each theorem. -/
import Derived.Test.YtohkgdfkklfgmaaGreatDoorM29
import Derived.Test.YtohkgdfkklfgmaaGreatDoorM28
import Derived.Deep.RegionHeld
import Derived.Test.YtohkgdfkklfgmaaGreatDoorM3
section
set_option maxRecDepth 100000
set_option maxHeartbeats 16000000
namespace Go.Proofs.YtohkgdfkklfgmaaGreatDoor.L13
open Go.RowKit Go.Shelf L3 L4 L12
open L10 (Stm Pg jmI fmI lbK)
attribute [local go_sem] Oper.semAt_some
theorem rsL_snoc (p:Pg) (k:Nat) (h:k<p.stmts.length):(rsL p).take (k+1)=(rsL p).take k++[rsI p k p.stmts[k]]:=by
 rw [List.take_add_one,List.getElem?_eq_getElem (by rw [rsL_len];exact h),Option.toList,rsL_get p k h]
def SR (B:Nat) (w:World) (kp kx:Nat) (vm vs:Value) (x:L9.Ins) (X:World):Prop :=
 Below B w X∧X.heap[kp]?=some (.cells #[vm,vs] 50)∧∃ o:Int,X.heap[kx]?=some (.cells #[.int .i64 x.op,.bool x.reg,.int .i64 x.dst,.int .i64 x.src,.int .i64 o,.int .i64 x.imm] 92)
theorem SR.below {B:Nat} {w X Y:World} {kp kx:Nat} {vm vs:Value} {x:L9.Ins} (h:SR B w kp kx vm vs x X) (hB:B≤w.heap.size) (hb:Below X.heap.size X Y):SR B w kp kx vm vs x Y:=by
 obtain⟨h1,h2,o,h3⟩:=h
 exact⟨h1.trans (hb.mono (Nat.le_trans hB h1.size)),L8.row_up h2 hb,o,L8.row_up h3 hb⟩
theorem rresolve_at (vm vs:Value) (p:Pg) (n:Nat) (w:World) (hp:L10.PgAt w vm vs p) (hf:L10.PgFit p) (hfew:p.maps.length≤300∧p.stmts.length≤60∧L10.lsum p.stmts≤200) (hn:p.stmts.length=n) (b:Bool) (k:Nat) (er:Int) (hr:L10.brV p=(b,k,er)) :
  Calls Tryz.prog 45 #[.agg #[vm,vs]] w fun e w'=>RsP w p n k er e w':=by
 obtain⟨i0,hi,hz0,hz1,hz2⟩:=info_parts infoIns
 have HSml:=L10.sml_few hfew
 have hm:=hfew.2.1
 rw [hn] at hm
 have HCk:=Lib.hid (fun (X:World) (hX:Below w.heap.size w X)=>L10.rcheck10_at vm vs p X (hp.below hX) hf hfew b k er hr)
 have HCo:=Lib.hid (fun (X:World) (hX:Below w.heap.size w X)=>rcode_at vm vs p X (hp.below hX) HSml)
 unfold CoP at HCo
 rw [hn] at HCo
 have HLb:=Lib.hid (fun (X:World) (hX:Below w.heap.size w X) (t:ByteArray)=>L10.rlabel_at vm vs p t X (hp.below hX) HSml)
 have HG:=Lib.hid (fun (he:er=0)=>good_of (brV_ok hr he))
 obtain⟨n1,hn1⟩:∃ n,p.maps.length=n:=⟨_,rfl⟩
 obtain⟨a1,c1,rfl,-⟩:=L10.df_form hn1 hp.1
 obtain⟨a2,c2,rfl,hc⟩:=L10.sm_form hn hp.2
 have HC:=Lib.hid hc
 have HN:=Lib.hid hn
 have HB:=Lib.hid (L8.bnew w (.cells #[.slice a1 n1 c1,.slice a2 n c2] 50))
 have K0:=Lib.hid (heap_alloc_last w (.cells #[.slice a1 n1 c1,.slice a2 n c2] 50))
 clear hp hf hn hr hn1 HSml hfew hc
 go_enter Tryz.func45,Tryz.ntmps45
 go_upto_region 1 with (fail)
 obtain⟨kp,hkp⟩:∃ k,w.heap.size=k:=⟨_,rfl⟩
 rw [hkp] at K0 ⊢
 clear hkp
 generalize w.alloc (.cells _ 50)=W0 at K0 HB ⊢
 obtain⟨x0,x1⟩:=L10.cells2p K0.out
 have l1:=World.block_lt_of_cell? _ _ x0
 simp only at l1
 by_cases h0:er=0
 case neg =>
  have h0':(er != 0)=true:=by simpa using h0
  go_wp2_with (go_at_call 79;((with_reducible refine (HCk.out _ HB.out).mono ?_);rintro e w1 ⟨rfl,b1⟩))
  go_ret3
  exact⟨.inl ⟨h0,rfl⟩,L2.bch HB.out b1⟩
 subst h0
 have HG0:=Lib.hid (HG.out rfl)
 go_upto_region 4 with (go_at_call 79;((with_reducible refine (HCk.out _ HB.out).mono ?_);rintro e w1 ⟨rfl,b1⟩;clear x0 x1 l1;obtain⟨x0,x1⟩:=L10.cells2p (L8.row_up K0.out b1);have l1:=World.block_lt_of_cell? _ _ x0;simp only at l1))
 have HB1:=Lib.hid (L2.bch HB.out b1)
 have K1:=Lib.hid (L8.row_up K0.out b1)
 clear b1 HB K0
 go_wp2_with (go_at_call 80;((with_reducible refine (HCo.out _ HB1.out).mono ?_);rintro e w2 ⟨la,lc,rfl,hli,b2⟩))
 have HB2:=Lib.hid (L2.bch HB1.out b2)
 have K2:=Lib.hid (L8.row_up K1.out b2)
 have HLI:=Lib.hid hli
 obtain⟨la',lc',hlv,hlx⟩:=is_form (n:=n) (by rw [cdL_len];exact HN.out) hli
 cases hlv
 have HLX:=Lib.hid hlx
 clear x0 x1 l1 b2 hli hlx HB1 K1
 go_loopw [8,9] (fun s i wr=>∃ j:Nat,j≤n∧i=.int .i64 (j:Int)∧s=.int .i64 (stN (cdL p.stmts) j:Int)∧w2=wr) (fun _ i _=>n-(intOf i).toNat)
 case atStart=>exact⟨0,Nat.zero_le _,rfl,by simp [stN,smN],rfl⟩
 case round =>
  obtain⟨j,hj,rfl,rfl,rfl⟩:=hrel
  by_cases hlt:j<n
  ·have hjl:j<(cdL p.stmts).length:=by rw [cdL_len,HN.out];exact hlt
   obtain⟨lb,lo,rfl,hlb,hcx⟩:=HLX.out (by omega)
   obtain⟨y0,-⟩:=hcx j hjl
   have hle:=stN_le (cdL p.stmts) j
   rw [cdL_len,HN.out] at hle
   have hs2:=slN_le (cdL p.stmts)[j]
   have hsu:=stN_succ (cdL p.stmts) j hjl
   have HS:=Lib.hid (fun W=>rslots_at (cdL p.stmts)[j].op _ (slN (cdL p.stmts)[j]:Int) W rfl (slN_int _))
   obtain⟨m,hm2⟩:∃ m,slN (cdL p.stmts)[j]=m:=⟨_,rfl⟩
   obtain⟨s,hs⟩:∃ s,stN (cdL p.stmts) j=s:=⟨_,rfl⟩
   rw [hm2] at HS hs2 hsu
   rw [hs] at hle hsu ⊢
   have HU:=Lib.hid hsu
   generalize (cdL p.stmts)[j].op=op at y0 HS
   have hl1:=World.block_lt_of_cell? _ _ y0
   simp only at hl1
   have hjI:(j:Int)<(n:Int):=by omega
   have hg:¬ (65535:Int)<(s:Int)+(m:Int):=by omega
   clear hcx hm2 hs hsu
   go_wp2_with (go_at_call 81;((with_reducible refine (HS.out _).mono ?_);rintro e w3 ⟨rfl,rfl⟩))
   go_roundw
   case rel=>exact⟨j+1,by omega,by go_num,by rw [HU.out];go_num,(by first|trivial|rfl)⟩
   case measure=>simp [intOf];omega
  ·obtain rfl:j=n:=by omega
   have HI:Hid (w2.ownsRow w2.heap.size 92 6 (.slice none 0 0) 0 (inC ((rsL p).take 0))∧Below w2.heap.size w2 w2):=Lib.hid ⟨World.ownsRow_nil _ _ _ _,Below.refl _ _⟩
   go_wp2
   go_loopw [10,11] (fun ow i wr=>∃ (q:Nat) (ov:Value),q≤j∧ov=ow∧i=.int .i64 (q:Int)∧Hid (wr.ownsRow w2.heap.size 92 6 ov q (inC ((rsL p).take q))∧Below w2.heap.size w2 wr)) (fun _ i _=>j-(intOf i).toNat)
   case atStart=>exact⟨0,_,Nat.zero_le _,rfl,rfl,HI⟩
   case round =>
    obtain⟨q,ov,hq,rfl,rfl,hI⟩:=hrel
    clear HI
    by_cases hlt2:q<j
    ·have hql:q<p.stmts.length:=by rw [HN.out];exact hlt2
     obtain⟨lb,lo,rfl,hlb,hcx⟩:=HLX.out (by omega)
     obtain⟨y0,y1,y2,y3,y4,y5⟩:=hcx q (by rw [cdL_len];exact hql)
     rw [cdL_get p.stmts q hql] at y0 y1 y2 y3 y4 y5
     have y0:=cell_up hI.out.2 y0
     have y1:=cell_up hI.out.2 y1
     have y2:=cell_up hI.out.2 y2
     have y3:=cell_up hI.out.2 y3
     have y4:=cell_up hI.out.2 y4
     have y5:=cell_up hI.out.2 y5
     have ly:=World.block_lt_of_cell? _ _ y0
     simp only at ly
     obtain⟨sb,so,rfl,hsb,hc⟩:=HC.out (by omega)
     obtain⟨lv,hst,hx⟩:=hc q hql
     have t7:=(L2.bch HB2.out hI.out.2).cell (p:=⟨sb,so+q*9+7,none⟩) (by exact hsb) |>.trans (hx 7 _ rfl)
     have lt7:=World.block_lt_of_cell? _ _ t7
     simp only at lt7
     obtain⟨p0,p1⟩:=L10.cells2p (L8.row_up K2.out hI.out.2)
     have lp:=World.block_lt_of_cell? _ _ p0
     simp only at lp
     have hjI:(q:Int)<(j:Int):=by omega
     have HGq:=Lib.hid (HG0.out _ (List.getElem_mem hql))
     have hds:=ds_in p q p.stmts[q] (by rw [HN.out];omega)
     have HSN:=Lib.hid (rsL_snoc p q hql)
     obtain⟨d,hd⟩:∃ d,dsI p q p.stmts[q]=d:=⟨_,rfl⟩
     have HRI:Hid (rsI p q p.stmts[q]=if jmI p.stmts[q].x then ⟨p.stmts[q].x.op,p.stmts[q].x.reg,p.stmts[q].x.dst,p.stmts[q].x.src,d,p.stmts[q].x.imm⟩ else p.stmts[q].x):=Lib.hid (by unfold rsI;rw [hd])
     rw [hd] at hds
     have HDV:Hid (d=(stN (cdL p.stmts) (lbK p.stmts p.stmts[q].tg p.stmts.length).toNat:Int)-(stN (cdL p.stmts) (q+1):Int)):=Lib.hid hd.symm
     have HTP:=Lib.hid (L2.bch HB2.out hI.out.2)
     obtain⟨xs,hxs⟩:∃ xs,rsI p q p.stmts[q]=xs:=⟨_,rfl⟩
     rw [hxs] at HSN HRI
     obtain⟨s,hs⟩:∃ s,p.stmts[q]=s:=⟨_,rfl⟩
     rw [hs] at y0 y1 y2 y3 y4 y5 t7 HGq HRI HDV
     have hown:=hI.out.1
     have HBl:=Lib.hid hI.out.2
     have hszW:=HBl.out.size
     clear hcx hc hst hx hd hxs hs hI
     obtain⟨labs,⟨op,reg,dst,src,off,imm⟩,tg,mp⟩:=s
     simp only at y0 y1 y2 y3 y4 y5 t7 HRI HDV
     go_upto_region 17 with (fail)
     have hX:=heap_alloc_last wr (.cells #[.int .i64 op,.bool reg,.int .i64 dst,.int .i64 src,.int .i64 off,.int .i64 imm] 92)
     have bn:=L8.bnew wr (.cells #[.int .i64 op,.bool reg,.int .i64 dst,.int .i64 src,.int .i64 off,.int .i64 imm] 92)
     have hown1:=L8.own_below hown bn
     have HB3:=Lib.hid (HBl.out.trans (bn.mono hszW))
     have t7:=cell_up bn t7
     have p0:=cell_up bn p0
     have p1:=cell_up bn p1
     have KP:=Lib.hid (L8.row_up (L8.row_up K2.out HBl.out) bn)
     obtain⟨kx,hkx⟩:∃ k,k=wr.heap.size:=⟨_,rfl⟩
     have HKX:=Lib.hid (show w2.heap.size≤kx by omega)
     have hoffx:∀ g,ov.ownBlock=some g→g<kx:=fun g hg=>by have:=(hown.lt g hg).2;omega
     have HOX:=Lib.hid hoffx
     rw [← hkx] at hX ⊢
     clear y0 y1 y2 y3 y4 y5 ly hown hkx hoffx lp lt7
     generalize wr.alloc (.cells _ 92)=W1 at hX bn hown1 HB3 t7 p0 p1 KP ⊢
     clear bn
     have lt7:=World.block_lt_of_cell? _ _ t7
     have lp:=World.block_lt_of_cell? _ _ p0
     simp only at lt7 lp
     obtain⟨jb,hjb⟩:∃ jb,jmI (⟨op,reg,dst,src,off,imm⟩:L9.Ins)=jb:=⟨_,rfl⟩
     have hte:=HGq.out.jmp
     simp only at hte
     rw [hjb] at hte HRI
     cases jb
     ·have hte2:tg.toList.isEmpty=true:=by simpa using hte.symm
      have hxs:=HRI.out
      rw [if_neg (by simp)] at hxs
      obtain⟨z0,z1,z2,z3,z4,z5⟩:=L4.cells6 hX
      have lz:=lt_of_block hX
      have hs1:=HB3.out.size
      clear hX hte hjb
      go_wp2_with (at_builtin;refine wpList_append_own _ rfl _ _ 95 rfl w2.heap.size 92 i0 (.agg #[.int .i64 0,.bool false,.int .i64 0,.int .i64 0,.int .i64 0,.int .i64 0]) 6 48 Tryz.underlying95 hi hz0 hz1 hz2 rfl (by decide) _ q _ rfl (hown1.alloc _) ⟨W1.heap.size,0,none⟩ 1 1 [.int .i64 op,.bool reg,.int .i64 dst,.int .i64 src,.int .i64 off,.int .i64 imm] rfl rfl (World.news_of_block (cs:=#[.int .i64 op,.bool reg,.int .i64 dst,.int .i64 src,.int .i64 off,.int .i64 imm]) (t:=92) (fr:=(0,0)) (heap_alloc_last W1 _)) (by simp [Value.oneCell']) (by unfold maxLen;omega) (by omega) (by simp;omega) ?_;intro v' w5 hown3 hgrow3 _)
      go_roundw
      case rel =>
       refine⟨q+1,_,by omega,rfl,by go_num,Lib.hid ⟨?_,?_⟩⟩
       ·rw [HSN.out,inC_snoc,hxs];exact hown3
       ·exact (HB3.out.alloc hs1 _).grown hgrow3 (by simp;omega) (L8.own_base hown1)
      case measure=>simp [intOf];omega
     ·have hte2:tg.toList.isEmpty=false:=by simpa using hte.symm
      have hxs:=HRI.out
      rw [if_pos rfl] at hxs
      have hlab:=HGq.out.lab (by simpa using hjb)
      try simp only at hlab
      obtain⟨R,hR⟩:∃ R:Nat,lbK p.stmts tg p.stmts.length=(R:Int):=⟨(lbK p.stmts tg p.stmts.length).toNat,by omega⟩
      have hRn:=(L10.lbK_lt p.stmts tg p.stmts.length).2
      rw [hR,HN.out] at hRn
      have hdv:=HDV.out
      rw [hR,Int.toNat_natCast] at hdv
      obtain⟨A,hA⟩:∃ A,stN (cdL p.stmts) R=A:=⟨_,rfl⟩
      obtain⟨B,hB⟩:∃ B,stN (cdL p.stmts) (q+1)=B:=⟨_,rfl⟩
      rw [hA,hB] at hdv
      have hBle:=stN_le (cdL p.stmts) (q+1)
      have hAle:=stN_le (cdL p.stmts) R
      rw [cdL_len,HN.out,hB] at hBle
      rw [cdL_len,HN.out,hA] at hAle
      have hwd:IntKind.i64.wrap ((A:Int)-(B:Int))=d:=by rw [hdv];exact IntWalk.i64_in _ (by omega)
      clear hdv
      have hwq:IntKind.i64.wrap ((q:Int)+1)=((q+1:Nat):Int):=by rw [IntWalk.i64_in _ (by omega)];omega
      have HLB:=Lib.hid (fun (X:World) (hX:Below w2.heap.size w2 X)=>by have:=HLb.out X (L2.bch HB2.out hX) tg;rw [hR] at this;exact this)
      have HS1:=Lib.hid (fun (X:World) (hX:Below w2.heap.size w2 X)=>rstart_at (.slice (some ⟨lb,lo,none⟩) j lc) (cdL p.stmts) R A X (HLI.out.below hX) (by rw [cdL_len,HN.out];omega) (by rw [cdL_len,HN.out];omega) hA)
      have HS2:=Lib.hid (fun (X:World) (hX:Below w2.heap.size w2 X)=>rstart_at (.slice (some ⟨lb,lo,none⟩) j lc) (cdL p.stmts) (q+1) B X (HLI.out.below hX) (by rw [cdL_len,HN.out];omega) (by rw [cdL_len,HN.out];omega) hB)
      have HX0:Hid (SR w2.heap.size w2 kp kx (.slice a1 n1 c1) (.slice (some ⟨sb,so,none⟩) j c2) ⟨op,reg,dst,src,off,imm⟩ W1):=Lib.hid ⟨HB3.out,KP.out,off,hX⟩
      clear hX hte hjb hlab hR hA hB hBle hAle HDV HGq HRI
      go_upto_region 18 with (fail)
      refine wp_region_held_drew (S:=fun X=>SR w2.heap.size w2 kp kx (.slice a1 n1 c1) (.slice (some ⟨sb,so,none⟩) j c2) ⟨op,reg,dst,src,off,imm⟩ X∧X.cell? ⟨sb,so+q*9+7,none⟩=some (.string tg)) (by kernel_rfl) ⟨HX0.out.below (Nat.le_refl _) (L8.bdN (Below.refl _ _) 1),t7⟩ (fun hH=>?_)
      refine wpAnyH_take (i:=0) (oi:=⟨some 58,.move (.tmp 7),_,_,_,none⟩) (v:=.slice (some ⟨lb,lo,none⟩) j lc) rfl (by kernel_rfl) (by kernel_rfl) (by kernel_rfl) (fun _ _ _ h=>h) (Or.inl ⟨by rfl,fun wS hS=>(by rfl)⟩) hH ?_
      simp only [Act.put,zA,zB,zC]
      refine wpAnyH_take (i:=1) (oi:=⟨some 59,.load 50 (.tmp 1),_,_,_,none⟩) (v:=.agg #[.slice a1 n1 c1,.slice (some ⟨sb,so,none⟩) j c2]) rfl (by kernel_rfl) (by kernel_rfl) (by kernel_rfl) (fun _ _ _ h=>h) (Or.inl ⟨by rfl,fun wS hS=>(by obtain⟨d0,d1⟩:=L10.cells2p hS.1.2.1;go_simp)⟩) hH ?_
      simp only [Act.put,zA,zB,zC]
      refine wpAnyH_take (i:=2) (oi:=⟨some 60,.fieldAddr 50 (.tmp 1) 1,_,_,_,none⟩) (v:=.pointer (some ⟨kp,1,none⟩)) rfl (by kernel_rfl) (by kernel_rfl) (by kernel_rfl) (fun _ _ _ h=>h) (Or.inl ⟨by rfl,fun wS hS=>(by go_simp)⟩) hH ?_
      simp only [Act.put,zA,zB,zC]
      refine wpAnyH_take (i:=3) (oi:=⟨some 61,.load 48 (.tmp 60),_,_,_,none⟩) (v:=.slice (some ⟨sb,so,none⟩) j c2) rfl (by kernel_rfl) (by kernel_rfl) (by kernel_rfl) (fun _ _ _ h=>h) (Or.inl ⟨by rfl,fun wS hS=>(by obtain⟨d0,d1⟩:=L10.cells2p hS.1.2.1;go_simp)⟩) hH ?_
      simp only [Act.put,zA,zB,zC]
      refine wpAnyH_take (i:=4) (oi:=⟨some 62,.move (.tmp 11),_,_,_,none⟩) (v:=.int .i64 (q:Int)) rfl (by kernel_rfl) (by kernel_rfl) (by kernel_rfl) (fun _ _ _ h=>h) (Or.inl ⟨by rfl,fun wS hS=>(by rfl)⟩) hH ?_
      simp only [Act.put,zA,zB,zC]
      refine wpAnyH_take (i:=5) (oi:=⟨some 63,.indexAddr 48 (.tmp 61) (.tmp 62),_,_,_,none⟩) (v:=.pointer (some ⟨sb,so+q*9,none⟩)) rfl (by kernel_rfl) (by kernel_rfl) (by kernel_rfl) (fun _ _ _ h=>h) (Or.inl ⟨by rfl,fun wS hS=>(by go_simp)⟩) hH ?_
      simp only [Act.put,zA,zB,zC]
      refine wpAnyH_take (i:=6) (oi:=⟨some 64,.fieldAddr 94 (.tmp 63) 2,_,_,_,none⟩) (v:=.pointer (some ⟨sb,so+q*9+7,none⟩)) rfl (by kernel_rfl) (by kernel_rfl) (by kernel_rfl) (fun _ _ _ h=>h) (Or.inl ⟨by rfl,fun wS hS=>(by go_simp)⟩) hH ?_
      simp only [Act.put,zA,zB,zC]
      refine wpAnyH_take (i:=7) (oi:=⟨some 65,.load 9 (.tmp 64),_,_,_,none⟩) (v:=.string tg) rfl (by kernel_rfl) (by kernel_rfl) (by kernel_rfl) (fun _ _ _ h=>h) (Or.inl ⟨by rfl,fun wS hS=>(by have d0:=hS.2;go_simp)⟩) hH ?_
      simp only [Act.put,zA,zB,zC]
      refine wpAnyH_take (i:=10) (oi:=⟨some 68,.move (.tmp 7),_,_,_,none⟩) (v:=.slice (some ⟨lb,lo,none⟩) j lc) rfl (by kernel_rfl) (by kernel_rfl) (by kernel_rfl) (fun _ _ _ h=>h) (Or.inl ⟨by rfl,fun wS hS=>(by rfl)⟩) hH ?_
      simp only [Act.put,zA,zB,zC]
      refine wpAnyH_take (i:=11) (oi:=⟨some 69,.move (.tmp 11),_,_,_,none⟩) (v:=.int .i64 (q:Int)) rfl (by kernel_rfl) (by kernel_rfl) (by kernel_rfl) (fun _ _ _ h=>h) (Or.inl ⟨by rfl,fun wS hS=>(by rfl)⟩) hH ?_
      simp only [Act.put,zA,zB,zC]
      refine wpAnyH_take (i:=12) (oi:=⟨some 70,.binOp .add 3 (.tmp 69) (.const (.int .i64 1)) 3,_,_,_,none⟩) (v:=.int .i64 ((q+1:Nat):Int)) rfl (by kernel_rfl) (by kernel_rfl) (by kernel_rfl) (fun _ _ _ h=>h) (Or.inl ⟨by rfl,fun wS hS=>(by go_simp)⟩) hH ?_
      simp only [Act.put,zA,zB,zC]
      refine wpAnyH_ready (rs:=[8]) (by kernel_rfl) (by simp) ?_
      refine AllReadyH.cons (o:=⟨some 66,.call ⟨.value (.func 83),#[.tmp 59,.tmp 65],#[50,9]⟩,_,_,_,none⟩) rfl (fun K hK=>?_) AllReadyH.nil
      go_simp
      refine (HLB.out _ hH.1.1).mono ?_
      rintro e w3 ⟨rfl,b3⟩
      refine hK.out _ _ ⟨hH.1.below (Nat.le_refl _) b3,cell_up b3 hH.2⟩ (fun hH3=>?_)
      have HO3:=Lib.hid (L8.own_below hown1 (L2.bch (L8.bdN (Below.refl _ _) 1) b3))
      clear hK K hH b3
      (try simp only [Act.put,zA,zB,zC])
      refine wpAnyH_ready (rs:=[9]) (by kernel_rfl) (by simp) ?_
      refine AllReadyH.cons (o:=⟨some 67,.call ⟨.value (.func 82),#[.tmp 58,.tmp 66],#[95,3]⟩,_,_,_,none⟩) rfl (fun K hK=>?_) AllReadyH.nil
      go_simp
      refine (HS1.out _ hH3.1.1).mono ?_
      rintro e w4 ⟨rfl,rfl⟩
      refine hK.out _ _ hH3 (fun hH4=>?_)
      clear hK K hH3
      (try simp only [Act.put,zA,zB,zC])
      refine wpAnyH_ready (rs:=[13]) (by kernel_rfl) (by simp) ?_
      refine AllReadyH.cons (o:=⟨some 71,.call ⟨.value (.func 82),#[.tmp 68,.tmp 70],#[95,3]⟩,_,_,_,none⟩) rfl (fun K hK=>?_) AllReadyH.nil
      go_simp
      refine (HS2.out _ hH4.1.1).mono ?_
      rintro e w5 ⟨rfl,rfl⟩
      refine hK.out _ _ hH4 (fun hH5=>?_)
      clear hK K hH4
      (try simp only [Act.put,zA,zB,zC])
      refine wpAnyH_take (i:=14) (oi:=⟨some 72,.binOp .sub 3 (.tmp 67) (.tmp 71) 3,_,_,_,none⟩) (v:=.int .i64 d) rfl (by kernel_rfl) (by kernel_rfl) (by kernel_rfl) (fun _ _ _ h=>h) (Or.inl ⟨by rfl,fun wS hS=>(by go_simp)⟩) hH5 ?_
      simp only [Act.put,zA,zB,zC]
      refine wpAnyH_take (i:=15) (oi:=⟨some 73,.fieldAddr 92 (.tmp 12) 4,_,_,_,none⟩) (v:=.pointer (some ⟨kx,4,none⟩)) rfl (by kernel_rfl) (by kernel_rfl) (by kernel_rfl) (fun _ _ _ h=>h) (Or.inl ⟨by rfl,fun wS hS=>(by go_simp)⟩) hH5 ?_
      simp only [Act.put,zA,zB,zC]
      obtain⟨q1,q2,o9,q3⟩:=hH5.1
      have q4:=hH5.2
      obtain⟨z0,z1,z2,z3,z4,z5⟩:=L4.cells6 q3
      have fz:=L5.frozen_all q3 4
      have hne7:(⟨kx,4,none⟩:Addr)≠⟨sb,so+q*9+7,none⟩:=by
       intro e
       rw [e] at z4
       rw [z4] at q4
       cases q4
      have hset:=L5.cells_set (k:=4) (v:=.int .i64 d) q3
      have hgr:=L10.gr_setCell w3 kx 4 (.int .i64 d)
      have HS9:Hid (SR w2.heap.size w2 kp kx (.slice a1 n1 c1) (.slice (some ⟨sb,so,none⟩) j c2) ⟨op,reg,dst,src,off,imm⟩ (w3.setCell ⟨kx,4,none⟩ (.int .i64 d))∧(w3.setCell ⟨kx,4,none⟩ (.int .i64 d)).cell? ⟨sb,so+q*9+7,none⟩=some (.string tg)):=Lib.hid ⟨⟨L10.bel_set q1 HKX.out _ _,(hgr.block _ (lt_of_block q2) (L10.ty_ne q2 q3 (by decide))).trans q2,d,hset⟩,(World.cell?_setCell_other _ _ _ _ hne7).trans q4⟩
      have HO9:=Lib.hid (L10.own_kept HO3.out hgr (fun g hg e=>by have:=HOX.out g hg;cases e;omega))
      have HSET:=Lib.hid hset
      refine wpAnyH_ready (rs:=[16]) (by kernel_rfl) (by simp) ?_
      refine AllReadyH.cons (o:=⟨none,.store 3 (.tmp 73) (.tmp 72),_,_,_,none⟩) rfl (fun K hK=>?_) AllReadyH.nil
      clear q1 q2 q4 hgr hset hne7 hH5
      go_simp
      refine hK.out _ _ HS9.out (fun hH9=>?_)
      clear hK K hH9
      (try simp only [Act.put])
      refine wpAnyH_done (by kernel_rfl) ?_ _
      clear z0 z1 z2 z3 z4 z5 fz q3 p0 p1 t7 lt7 lp
      generalize w3.setCell ⟨kx,4,none⟩ (.int .i64 d)=W9 at HS9 HO9 HSET ⊢
      have hrow9:W9.heap[kx]?=some (.cells #[.int .i64 op,.bool reg,.int .i64 dst,.int .i64 src,.int .i64 d,.int .i64 imm] 92):=HSET.out
      obtain⟨z0,z1,z2,z3,z4,z5⟩:=L4.cells6 hrow9
      have lz:=lt_of_block hrow9
      have hB9:=HS9.out.1.1
      have hs1:=hB9.size
      have hown9:=HO9.out
      have hd0:=hds.1
      have hd1:=hds.2
      have hd2:¬ d < -32768:=by omega
      have hd3:¬ 32767<d:=by omega
      clear hrow9
      go_wp2_with (at_builtin;refine wpList_append_own _ rfl _ _ 95 rfl w2.heap.size 92 i0 (.agg #[.int .i64 0,.bool false,.int .i64 0,.int .i64 0,.int .i64 0,.int .i64 0]) 6 48 Tryz.underlying95 hi hz0 hz1 hz2 rfl (by decide) _ q _ rfl (hown9.alloc _) ⟨W9.heap.size,0,none⟩ 1 1 [.int .i64 op,.bool reg,.int .i64 dst,.int .i64 src,.int .i64 d,.int .i64 imm] rfl rfl (World.news_of_block (cs:=#[.int .i64 op,.bool reg,.int .i64 dst,.int .i64 src,.int .i64 d,.int .i64 imm]) (t:=92) (fr:=(0,0)) (heap_alloc_last W9 _)) (by simp [Value.oneCell']) (by unfold maxLen;omega) (by omega) (by simp;omega) ?_;intro v' w6 hown3 hgrow3 _)
      go_roundw
      case rel =>
       refine⟨q+1,_,by omega,rfl,by go_num,Lib.hid ⟨?_,?_⟩⟩
       ·rw [HSN.out,inC_snoc,hxs];exact hown3
       ·exact (hB9.alloc hs1 _).grown hgrow3 (by simp;omega) (L8.own_base hown9)
      case measure=>simp [intOf];omega
    ·obtain rfl:q=j:=by omega
     have hJ:=hI.out
     rw [List.take_of_length_le (by rw [rsL_len,HN.out];exact Nat.le_refl _)] at hJ
     obtain⟨va,vc,rfl⟩:=owns_slice hJ.1
     have HJ2:=Lib.hid hJ
     clear hI hJ
     go_wp2
     go_ret3
     exact⟨.inr ⟨rfl,_,_,rfl,own_ins (by rw [rsL_len,HN.out]) HJ2.out.1⟩,L2.bch HB2.out HJ2.out.2⟩
end Go.Proofs.YtohkgdfkklfgmaaGreatDoor.L13
end
section
set_option maxRecDepth 100000
set_option maxHeartbeats 2000000
namespace Go.Proofs.YtohkgdfkklfgmaaGreatDoor.L3
open Go.RowKit
theorem rcode_at (op:Int) (reg:Bool) (v:Int) (ok:Bool) (w:World) (hv:cdV (ix op) reg=v) (hk:cdB (ix op) reg=ok):Calls Tryz.prog 102 #[.int .i64 op,.bool reg] w fun e w'=>e=.returned (.tuple #[.int .u8 v,.bool ok])∧Below w.heap.size w w':=by
 subst hv hk
 by_cases h:0≤op∧op<86
 ·obtain⟨k,hk,rfl⟩:∃ k:Nat,k<86∧op=(k:Int):=⟨ix op,ix_lt h,(ix_in h).symm⟩
  rw [ix_nat hk]
  obtain⟨c,hc⟩:∃ c,cd k=c:=⟨_,rfl⟩
  obtain⟨f,hf⟩:∃ f,frm k=f:=⟨_,rfl⟩
  have HF:Hid (frm (ix (k:Int))=f):=Lib.hid (by rw [ix_nat hk];exact hf)
  have HK:Hid (decide (ix (k:Int)<86)=true):=Lib.hid (by rw [ix_nat hk];exact decide_eq_true hk)
  have hcell:codesC[k]?=some (.int .u8 c):=by rw [codes_at k hk,hc]
  have hB:cdB k reg=(!reg || isR f):=by rw [cdB,decide_eq_true hk,Bool.true_and,← hf,frm,if_pos hk]
  have hV:cdV k reg=if (!reg || isR f) then (if reg then IntKind.u8.wrap (c+8) else c) else 0:=by rw [cdV,hB,cd8,hc]
  rw [hB,hV,isR]
  clear hB hV hf hc
  cases reg
  ·go_enter Tryz.func102,Tryz.ntmps102
   go_wp2_with (first|(go_at_call 105;((with_reducible refine (right_at _ _ _ HK.out).mono ?_);rintro e w1 ⟨rfl,rfl⟩))|(go_at_call 86;((with_reducible refine (rform_at _ _ _ HF.out).mono ?_);rintro e w1 ⟨rfl,rfl⟩))|(go_at_call 145;((with_reducible refine (codes_any _).mono ?_);rintro e w1 ⟨rfl,rfl⟩)))
   go_ret2
   exact⟨rfl,bnew w _⟩
  ·cases h0:f==0
   ·cases h4:f==4
    ·have n0:(f != 0)=true:=by rw [bne,h0];rfl
     have n4:(f != 4)=true:=by rw [bne,h4];rfl
     go_enter Tryz.func102,Tryz.ntmps102
     go_wp2_with (first|(go_at_call 105;((with_reducible refine (right_at _ _ _ HK.out).mono ?_);rintro e w1 ⟨rfl,rfl⟩))|(go_at_call 86;((with_reducible refine (rform_at _ _ _ HF.out).mono ?_);rintro e w1 ⟨rfl,rfl⟩))|(go_at_call 145;((with_reducible refine (codes_any _).mono ?_);rintro e w1 ⟨rfl,rfl⟩)))
     go_ret2
     exact⟨rfl,Below.refl _ _⟩
    ·obtain rfl:f=4:=by simpa using h4
     clear h0 h4
     go_enter Tryz.func102,Tryz.ntmps102
     go_wp2_with (first|(go_at_call 105;((with_reducible refine (right_at _ _ _ HK.out).mono ?_);rintro e w1 ⟨rfl,rfl⟩))|(go_at_call 86;((with_reducible refine (rform_at _ _ _ HF.out).mono ?_);rintro e w1 ⟨rfl,rfl⟩))|(go_at_call 145;((with_reducible refine (codes_any _).mono ?_);rintro e w1 ⟨rfl,rfl⟩)))
     go_ret2
     exact⟨rfl,bnew w _⟩
   ·obtain rfl:f=0:=by simpa using h0
    clear h0
    go_enter Tryz.func102,Tryz.ntmps102
    go_wp2_with (first|(go_at_call 105;((with_reducible refine (right_at _ _ _ HK.out).mono ?_);rintro e w1 ⟨rfl,rfl⟩))|(go_at_call 86;((with_reducible refine (rform_at _ _ _ HF.out).mono ?_);rintro e w1 ⟨rfl,rfl⟩))|(go_at_call 145;((with_reducible refine (codes_any _).mono ?_);rintro e w1 ⟨rfl,rfl⟩)))
    go_ret2
    exact⟨rfl,bnew w _⟩
 ·have HK:Hid (decide (ix op<86)=false):=Lib.hid (by rw [ix_out h];rfl)
  rw [ix_out h]
  clear h
  go_enter Tryz.func102,Tryz.ntmps102
  go_wp2_with (first|(go_at_call 105;((with_reducible refine (right_at _ false _ HK.out).mono ?_);rintro e w1 ⟨rfl,rfl⟩)))
  go_ret2
  exact⟨rfl,Below.refl _ _⟩
end Go.Proofs.YtohkgdfkklfgmaaGreatDoor.L3
end
section
set_option maxRecDepth 100000
set_option maxHeartbeats 4000000
namespace Go.Proofs.YtohkgdfkklfgmaaGreatDoor.L3
open Go.RowKit
theorem rfix_a (k:Nat) (h:0≤k∧k≤11) (w:World):Calls Tryz.prog 103 #[.int .i64 (k:Int)] w fun e w'=>e=.returned (.tuple #[.int .i64 0,.int .i64 0,.int .i64 0])∧Below w.heap.size w w':=by
 have g0:decide ((30:Int)≤(k:Int))=false:=by rw [decide_eq_false_iff_not];omega
 have g1:decide ((35:Int)≤(k:Int))=false:=by rw [decide_eq_false_iff_not];omega
 have g2:decide ((k:Int)≤34)=true:=by rw [decide_eq_true_iff];omega
 have g3:decide ((k:Int)≤43)=true:=by rw [decide_eq_true_iff];omega
 have g4:((k:Int)==12)=false:=by rw [beq_eq_false_iff_ne];omega
 have g5:((k:Int)==13)=false:=by rw [beq_eq_false_iff_ne];omega
 have g6:((k:Int)==26)=false:=by rw [beq_eq_false_iff_ne];omega
 have g7:((k:Int)==27)=false:=by rw [beq_eq_false_iff_ne];omega
 have g8:((k:Int)==85)=false:=by rw [beq_eq_false_iff_ne];omega
 clear h
 go_enter Tryz.func103,Tryz.ntmps103
 go_wp2
 go_ret3
 exact⟨rfl,Below.refl _ _⟩
theorem rfix_b (k:Nat) (h:14≤k∧k≤25) (w:World):Calls Tryz.prog 103 #[.int .i64 (k:Int)] w fun e w'=>e=.returned (.tuple #[.int .i64 0,.int .i64 0,.int .i64 0])∧Below w.heap.size w w':=by
 have g0:decide ((30:Int)≤(k:Int))=false:=by rw [decide_eq_false_iff_not];omega
 have g1:decide ((35:Int)≤(k:Int))=false:=by rw [decide_eq_false_iff_not];omega
 have g2:decide ((k:Int)≤34)=true:=by rw [decide_eq_true_iff];omega
 have g3:decide ((k:Int)≤43)=true:=by rw [decide_eq_true_iff];omega
 have g4:((k:Int)==12)=false:=by rw [beq_eq_false_iff_ne];omega
 have g5:((k:Int)==13)=false:=by rw [beq_eq_false_iff_ne];omega
 have g6:((k:Int)==26)=false:=by rw [beq_eq_false_iff_ne];omega
 have g7:((k:Int)==27)=false:=by rw [beq_eq_false_iff_ne];omega
 have g8:((k:Int)==85)=false:=by rw [beq_eq_false_iff_ne];omega
 clear h
 go_enter Tryz.func103,Tryz.ntmps103
 go_wp2
 go_ret3
 exact⟨rfl,Below.refl _ _⟩
theorem rfix_c (k:Nat) (h:28≤k∧k≤29) (w:World):Calls Tryz.prog 103 #[.int .i64 (k:Int)] w fun e w'=>e=.returned (.tuple #[.int .i64 0,.int .i64 0,.int .i64 0])∧Below w.heap.size w w':=by
 have g0:decide ((30:Int)≤(k:Int))=false:=by rw [decide_eq_false_iff_not];omega
 have g1:decide ((35:Int)≤(k:Int))=false:=by rw [decide_eq_false_iff_not];omega
 have g2:decide ((k:Int)≤34)=true:=by rw [decide_eq_true_iff];omega
 have g3:decide ((k:Int)≤43)=true:=by rw [decide_eq_true_iff];omega
 have g4:((k:Int)==12)=false:=by rw [beq_eq_false_iff_ne];omega
 have g5:((k:Int)==13)=false:=by rw [beq_eq_false_iff_ne];omega
 have g6:((k:Int)==26)=false:=by rw [beq_eq_false_iff_ne];omega
 have g7:((k:Int)==27)=false:=by rw [beq_eq_false_iff_ne];omega
 have g8:((k:Int)==85)=false:=by rw [beq_eq_false_iff_ne];omega
 clear h
 go_enter Tryz.func103,Tryz.ntmps103
 go_wp2
 go_ret3
 exact⟨rfl,Below.refl _ _⟩
theorem rfix_d (k:Nat) (h:44≤k∧k≤84) (w:World):Calls Tryz.prog 103 #[.int .i64 (k:Int)] w fun e w'=>e=.returned (.tuple #[.int .i64 0,.int .i64 0,.int .i64 0])∧Below w.heap.size w w':=by
 have g0:decide ((30:Int)≤(k:Int))=true:=by rw [decide_eq_true_iff];omega
 have g1:decide ((35:Int)≤(k:Int))=true:=by rw [decide_eq_true_iff];omega
 have g2:decide ((k:Int)≤34)=false:=by rw [decide_eq_false_iff_not];omega
 have g3:decide ((k:Int)≤43)=false:=by rw [decide_eq_false_iff_not];omega
 have g4:((k:Int)==12)=false:=by rw [beq_eq_false_iff_ne];omega
 have g5:((k:Int)==13)=false:=by rw [beq_eq_false_iff_ne];omega
 have g6:((k:Int)==26)=false:=by rw [beq_eq_false_iff_ne];omega
 have g7:((k:Int)==27)=false:=by rw [beq_eq_false_iff_ne];omega
 have g8:((k:Int)==85)=false:=by rw [beq_eq_false_iff_ne];omega
 clear h
 go_enter Tryz.func103,Tryz.ntmps103
 go_wp2
 go_ret3
 exact⟨rfl,Below.refl _ _⟩
theorem rfix_e (k:Nat) (h:35≤k∧k≤43) (w:World):Calls Tryz.prog 103 #[.int .i64 (k:Int)] w fun e w'=>e=.returned (.tuple #[.int .i64 0,.int .i64 0,.int .i64 (bt k)])∧Below w.heap.size w w':=by
 obtain⟨v,hv⟩:∃ v,bt k=v:=⟨_,rfl⟩
 have HB:Hid (bt (ix (k:Int))=v):=Lib.hid (by rw [ix_nat (by omega)];exact hv)
 rw [hv]
 clear hv
 have g0:decide ((30:Int)≤(k:Int))=true:=by rw [decide_eq_true_iff];omega
 have g1:decide ((35:Int)≤(k:Int))=true:=by rw [decide_eq_true_iff];omega
 have g2:decide ((k:Int)≤34)=false:=by rw [decide_eq_false_iff_not];omega
 have g3:decide ((k:Int)≤43)=true:=by rw [decide_eq_true_iff];omega
 have g4:((k:Int)==12)=false:=by rw [beq_eq_false_iff_ne];omega
 have g5:((k:Int)==13)=false:=by rw [beq_eq_false_iff_ne];omega
 have g6:((k:Int)==26)=false:=by rw [beq_eq_false_iff_ne];omega
 have g7:((k:Int)==27)=false:=by rw [beq_eq_false_iff_ne];omega
 have g8:((k:Int)==85)=false:=by rw [beq_eq_false_iff_ne];omega
 clear h
 go_enter Tryz.func103,Tryz.ntmps103
 go_wp2_with (first|(go_at_call 146;((with_reducible refine (rbits_at _ _ _ HB.out).mono ?_);rintro e w1 ⟨rfl,hb1⟩)))
 go_ret3
 exact⟨rfl,hb1⟩
theorem rfix_f (k:Nat) (h:30≤k∧k≤34) (w:World):Calls Tryz.prog 103 #[.int .i64 (k:Int)] w fun e w'=>e=.returned (.tuple #[.int .i64 (sr k),.int .i64 (of k),.int .i64 (im k)])∧Below w.heap.size w w':=by
 rcases (by omega:k=30∨k=31∨k=32∨k=33∨k=34) with rfl|rfl|rfl|rfl|rfl
 all_goals
  clear h
  go_enter Tryz.func103,Tryz.ntmps103
  go_wp2
  go_region
  go_wp2
  go_ret3
  exact⟨rfl,(bnew w _).drew⟩
theorem fix_vals:∀ k,k<86→((0≤k∧k≤11)∨(14≤k∧k≤25)∨(28≤k∧k≤29)∨(44≤k∧k≤84)→sr k=0∧of k=0∧im k=0)∧(35≤k∧k≤43→sr k=0∧of k=0∧im k=bt k):=by decide +kernel
theorem fix_split {k:Nat} (h:k<86):((0≤k∧k≤11)∨(14≤k∧k≤25)∨(28≤k∧k≤29)∨(44≤k∧k≤84)∨(35≤k∧k≤43)∨(30≤k∧k≤34))∨k=12∨k=13∨k=26∨k=27∨k=85:=by omega
theorem rfixed_in (k:Nat) (hk:k<86) (w:World):Calls Tryz.prog 103 #[.int .i64 (k:Int)] w fun e w'=>e=.returned (.tuple #[.int .i64 (sr k),.int .i64 (of k),.int .i64 (im k)])∧Below w.heap.size w w':=by
 rcases fix_split hk with (h|h|h|h|h|h)|rfl|rfl|rfl|rfl|rfl
 ·obtain⟨e1,e2,e3⟩:=(fix_vals k hk).1 (by omega);rw [e1,e2,e3];exact rfix_a k h w
 ·obtain⟨e1,e2,e3⟩:=(fix_vals k hk).1 (by omega);rw [e1,e2,e3];exact rfix_b k h w
 ·obtain⟨e1,e2,e3⟩:=(fix_vals k hk).1 (by omega);rw [e1,e2,e3];exact rfix_c k h w
 ·obtain⟨e1,e2,e3⟩:=(fix_vals k hk).1 (by omega);rw [e1,e2,e3];exact rfix_d k h w
 ·obtain⟨e1,e2,e3⟩:=(fix_vals k hk).2 h;rw [e1,e2,e3];exact rfix_e k h w
 ·exact rfix_f k h w
 all_goals
  clear hk
  go_enter Tryz.func103,Tryz.ntmps103
  go_wp2
  go_ret3
  exact⟨rfl,Below.refl _ _⟩
theorem rfixed_out (op:Int) (h:op<0∨86≤op) (w:World):Calls Tryz.prog 103 #[.int .i64 op] w fun e w'=>e=.returned (.tuple #[.int .i64 0,.int .i64 0,.int .i64 0])∧Below w.heap.size w w':=by
 have e1:(op==12)=false:=by rw [beq_eq_false_iff_ne];omega
 have e2:(op==13)=false:=by rw [beq_eq_false_iff_ne];omega
 have e3:(op==26)=false:=by rw [beq_eq_false_iff_ne];omega
 have e4:(op==27)=false:=by rw [beq_eq_false_iff_ne];omega
 have e5:(op==85)=false:=by rw [beq_eq_false_iff_ne];omega
 rcases h with h|h
 ·have f1:decide ((30:Int)≤op)=false:=by rw [decide_eq_false_iff_not];omega
  have f2:decide ((35:Int)≤op)=false:=by rw [decide_eq_false_iff_not];omega
  clear h
  go_enter Tryz.func103,Tryz.ntmps103
  go_wp2
  go_ret3
  exact⟨rfl,Below.refl _ _⟩
 ·have f1:decide ((30:Int)≤op)=true:=by rw [decide_eq_true_iff];omega
  have f2:decide ((35:Int)≤op)=true:=by rw [decide_eq_true_iff];omega
  have f3:decide (op≤34)=false:=by rw [decide_eq_false_iff_not];omega
  have f4:decide (op≤43)=false:=by rw [decide_eq_false_iff_not];omega
  clear h
  go_enter Tryz.func103,Tryz.ntmps103
  go_wp2
  go_ret3
  exact⟨rfl,Below.refl _ _⟩
theorem rfixed_at (op r o i:Int) (w:World) (hr:sr (ix op)=r) (ho:of (ix op)=o) (hi:im (ix op)=i):Calls Tryz.prog 103 #[.int .i64 op] w fun e w'=>e=.returned (.tuple #[.int .i64 r,.int .i64 o,.int .i64 i])∧Below w.heap.size w w':=by
 subst hr ho hi
 by_cases h:0≤op∧op<86
 ·have:=rfixed_in (ix op) (ix_lt h) w
  rwa [ix_in h] at this
 ·rw [ix_out h]
  exact rfixed_out op (by omega) w
end Go.Proofs.YtohkgdfkklfgmaaGreatDoor.L3
end
