/- Lemmas and walks of L16Rn, L16Rk: what each theorem states; conditions stand in each theorem. -/
import Derived.Test.YtohkgdfkklfgmaaGreatDoorM49
import Derived.Test.YtohkgdfkklfgmaaGreatDoorM50
import Derived.Test.YtohkgdfkklfgmaaGreatDoorM45
import Derived.Maps.AppendAt
section
set_option maxHeartbeats 4000000
namespace Go.Proofs.YtohkgdfkklfgmaaGreatDoor.L16
set_option maxRecDepth 100000
open Go.RowKit L14 L15
open L13 (Ob)
attribute [local go_sem] Oper.semAt_some
def NmP (l:List L9.Df) (n:Nat) (w:World) (e:Ending) (w':World):Prop:=(∃ a c,e=.returned (.slice a n c)∧w'.ownsRow w.heap.size 9 1 (.slice a n c) n ((nmL l).map eT))∧Below w.heap.size w w'
theorem st_of {w:World} {B n:Nat} {v:Value} {l:List L9.Df} (h:w.ownsRow B 9 1 v n ((nmL l).map eT)) (hn:l.length=n):L8.StAt w v (l.map (·.nm)):=by
 have hr:Rw eT w v (nmL l):=Rw.own (by rw [nmL_len,hn];exact h)
 obtain⟨a,c,rfl,-,-,h3⟩:=hr.form (show (nmL l).length=n by rw [nmL_len,hn])
 by_cases h0:n=0
 ·have hl:l=[]:=List.eq_nil_of_length_eq_zero (by omega)
  subst hl
  subst h0
  exact .inr ⟨rfl,a,c,rfl⟩
 ·obtain⟨b,o,rfl,hb,hc⟩:=h3 (by omega)
  refine .inl ⟨b,o,c,by rw [List.length_map,hn],hb,fun j hj=>?_⟩
  rw [List.length_map] at hj
  rw [hc j (by rw [nmL_len];exact hj)]
  simp [nmL,eT,mkB_of,List.getD,hj]
theorem rnames_at (vm vc vr:Value) (o:Ob) (n1:Nat) (w:World) (ho:OA w vm vc vr o) (hs:OS o) (hn1:o.maps.length=n1) :
  Calls Tryz.prog 28 #[.agg #[vm,vc,vr]] w (NmP o.maps n1 w):=by
 obtain⟨i0,hi,hz0,hz1,hz2⟩:=info_parts infoText
 obtain⟨n2,hn2⟩:∃ n,o.code.length=n:=⟨_,rfl⟩
 obtain⟨n3,hn3⟩:∃ n,o.rels.length=n:=⟨_,rfl⟩
 have hnl:(nmL o.maps).length=n1:=by rw [nmL_len,hn1]
 have hq1:=hs.m
 rw [hn1] at hq1
 obtain⟨a1,c1,rfl,hd⟩:=L10.df_form4 hn1 ho.m
 obtain⟨a2,c2,rfl,-⟩:=ho.c.form hn2
 obtain⟨a3,c3,rfl,-⟩:=L13.ro_form hn3 ho.r
 have HM:=Lib.hid hd
 have HN:=Lib.hid (And.intro hn1 hnl)
 have K0:=Lib.hid (heap_alloc_last w (.cells #[.slice a1 n1 c1,.slice a2 n2 c2,.slice a3 n3 c3] 26))
 have HB:=Lib.hid (bnew w (.cells #[.slice a1 n1 c1,.slice a2 n2 c2,.slice a3 n3 c3] 26))
 clear ho hs hn1 hn2 hn3 hd hnl
 go_enter Tryz.func28,Tryz.ntmps28
 go_upto_region 1 with (fail)
 obtain⟨k0,hk0⟩:∃ k,w.heap.size=k:=⟨_,rfl⟩
 rw [hk0] at K0 ⊢
 have HK0:=Lib.hid hk0
 generalize w.alloc (.cells #[.slice a1 n1 c1,.slice a2 n2 c2,.slice a3 n3 c3] 26)=W0 at K0 HB ⊢
 clear hk0
 go_wp2
 have HI:Hid (W0.ownsRow W0.heap.size 9 1 (.slice none 0 0) 0 (((nmL o.maps).take 0).map eT)∧Below W0.heap.size W0 W0):=Lib.hid ⟨World.ownsRow_nil _ _ _ _,Below.refl _ _⟩
 go_loopw [3,4] (fun nv q wr=>∃ j:Nat,j≤n1∧q=.int .i64 (j:Int)∧Hid (wr.ownsRow W0.heap.size 9 1 nv j (((nmL o.maps).take j).map eT)∧Below W0.heap.size W0 wr)) (fun _ q _=>n1-(intOf q).toNat)
 case atStart=>exact⟨0,Nat.zero_le _,rfl,HI⟩
 case round =>
  obtain⟨j,hj,rfl,hI⟩:=hrel
  clear HI
  obtain⟨va,vc,rfl⟩:=owns_slice hI.out.1
  obtain⟨x0,x1,x2⟩:=L13.cells3 (L8.row_up K0.out hI.out.2)
  have lx:=World.block_lt_of_cell? _ _ x0
  simp only at lx
  by_cases hlt:j<n1
  ·have hjl:j<o.maps.length:=by rw [HN.out.1];exact hlt
   have hjn:j<(nmL o.maps).length:=by rw [HN.out.2];exact hlt
   obtain⟨bb,of,rfl,hbl,hcc⟩:=HM.out (by omega)
   have hBB:=bch HB.out hI.out.2
   have y0:=(hBB.cell (p:=⟨bb,of+j*4,none⟩) (by exact hbl)).trans (hcc j hjl).1
   have ly:=World.block_lt_of_cell? _ _ y0
   simp only at ly
   have hap:((nmL o.maps).take j).map eT++[.string o.maps[j].nm]=((nmL o.maps).take (j+1)).map eT:=by
    rw [take_snoc _ j hjn,List.map_append]
    simp [nmL,eT,mkB_of]
   have HAP:=Lib.hid hap
   obtain⟨nm,hd⟩:∃ d,o.maps[j].nm=d:=⟨_,rfl⟩
   rw [hd] at y0 HAP
   have hown:=hI.out.1
   have HBW:=Lib.hid hI.out.2
   have hsz:=HBW.out.size
   clear hcc hBB hap hd hI hjn
   go_wp2_with (at_builtin;refine wpList_append_own _ rfl _ _ 65 rfl W0.heap.size 9 i0 (.string ⟨#[]⟩) 1 16 Tryz.underlying65 hi hz0 hz1 hz2 rfl (by decide) _ j _ rfl (hown.alloc _) ⟨wr.heap.size,0,none⟩ 1 1 [.string nm] rfl rfl (World.news_of_block (cs:=#[.string nm]) (t:=9) (fr:=(0,0)) (heap_alloc_last wr _)) (by simp [Value.oneCell']) (by unfold maxLen;omega) (by omega) (by simp;omega) ?_;intro v' w3 hown3 hgrow3 _;have B3:=(HBW.out.alloc hsz (.cells #[.string nm] 9)).grown hgrow3 (by simp;omega) (own_base hown))
   go_roundw
   case rel=>exact⟨j+1,hlt,by go_num,Lib.hid ⟨by rw [← HAP.out];exact hown3,B3⟩⟩
   case measure=>simp [intOf];omega
  ·obtain rfl:j=n1:=by omega
   have h1:=hI.out
   rw [List.take_of_length_le (by rw [HN.out.2];exact Nat.le_refl _)] at h1
   have HF:=Lib.hid (And.intro (own_weak h1.1 HB.out.size) (bch HB.out h1.2))
   clear hI h1
   go_wp2
   go_ret
   exact⟨⟨_,_,rfl,HF.out.1⟩,HF.out.2⟩
def At (w:World) (v ov:Value):Prop:=ov.ownBlock=v.ownBlock∨∃ k,ov.ownBlock=some k∧w.heap.size≤k
theorem gr_al (w:World) (x:Obj) (o:Option Nat):w.grownBy (w.alloc x) o:=L10.gr_of (bnew w x) o
theorem gr_at {w W W':World} {v ov:Value} (h:w.grownBy W v.ownBlock) (ha:At w v ov) (hg:W.grownBy W' ov.ownBlock):w.grownBy W' v.ownBlock:=by
 refine⟨hg.os.trans h.os,hg.tape.trans h.tape,hg.output.trans h.output,Nat.le_trans h.size hg.size,fun k hk hn=>?_⟩
 refine (hg.block k (Nat.lt_of_lt_of_le hk h.size) fun e=>?_).trans (h.block k hk hn)
 rcases ha with ha|⟨x,hx,hl⟩
 ·exact hn (by rw [e,ha])
 ·rw [hx] at e
  cases e
  omega
theorem At.step {w W:World} {v ov v':Value} (hs:w.heap.size≤W.heap.size) (ha:At w v ov) (h:v'.ownBlock=ov.ownBlock∨v'.ownBlock=some W.heap.size):At w v v':=by
 rcases h with h|h
 ·rcases ha with ha|⟨k,hk,hl⟩
  ·exact .inl (by rw [h,ha])
  ·exact .inr ⟨k,by rw [h,hk],hl⟩
 ·exact .inr ⟨_,h,hs⟩
def FoP (B M:Nat) (ys:List UInt8) (v:Value) (w:World) (e:Ending) (w':World):Prop :=
 (∃ a c,e=.returned (.slice a M c)∧w'.ownsRow B 5 1 (.slice a M c) M (ys.map eB)∧At w v (.slice a M c))∧Below B w w'∧w.grownBy w' v.ownBlock
theorem four_at (v:Value) (xs:List UInt8) (B N x:Nat) (w:World) (hB:B≤w.heap.size) (hv:w.ownsRow B 5 1 v N (xs.map eB)) (hN:N≤1000000000) (hx:x<4294967296) :
  Calls Tryz.prog 33 #[v,.int .i64 (x:Int)] w (FoP B (N+4) (xs++le 4 x) v w):=by
 obtain⟨ib,ki,kz0,kz1,kz2⟩:=info_parts infoByte
 obtain⟨a,c,rfl⟩:=owns_slice hv
 have HV:=Lib.hid hv
 clear hv
 go_enter Tryz.func33,Tryz.ntmps33
 go_wp2
 go_loopw [0,1,5] (fun ov y q wr=>∃ j:Nat,j≤4∧q=.int .i64 (j:Int)∧y=.int .i64 ((x / 256 ^ j:Nat):Int)∧Hid (wr.ownsRow B 5 1 ov (N+j) ((xs++le j x).map eB)∧Below B w wr∧w.grownBy wr (Value.slice a N c).ownBlock∧At w (.slice a N c) ov)) (fun _ _ q _=>4-(intOf q).toNat)
 case atStart=>exact⟨0,Nat.zero_le _,rfl,by simp,Lib.hid ⟨by simpa [le] using HV.out,Below.refl _ _,⟨rfl,rfl,rfl,Nat.le_refl _,fun _ _ _=>rfl⟩,.inl rfl⟩⟩
 case round =>
  obtain⟨j,hj,rfl,rfl,hI⟩:=hrel
  obtain⟨oa,oc,rfl⟩:=owns_slice hI.out.1
  by_cases hlt:j<4
  ·have hdv:x / 256 ^ j≤x:=Nat.div_le_self _ _
   have hnext:x / 256 ^ (j+1)=x / 256 ^ j / 256:=by rw [Nat.div_div_eq_div_mul,Nat.pow_succ]
   have hcs:(xs++le j x).map eB++[.int .u8 ((x / 256 ^ j % 256:Nat):Int)]=(xs++le (j+1) x).map eB:=by
    rw [le_snoc,← List.append_assoc,List.map_append (l₁:=xs++le j x),← byte_val];rfl
   obtain⟨y,hy⟩:∃ y,x / 256 ^ j=y:=⟨_,rfl⟩
   rw [hy] at hdv hnext hcs ⊢
   have HC:=Lib.hid hcs
   have HY:=Lib.hid hnext
   have hy4:y<4294967296:=by omega
   have e1:((y % 256:Nat):Int)=(y:Int) % 256:=by omega
   rw [e1] at HC
   obtain⟨hown,hBe,hgr,hat⟩:=hI.out
   have hwr:w.heap.size≤wr.heap.size:=hgr.size
   have HG:=Lib.hid (And.intro hBe (And.intro hgr hat))
   clear hdv hnext hcs hy e1 hI hBe hgr hat
   go_wp2_with (at_builtin;refine wpList_append_own_at _ rfl _ _ 23 rfl B 5 ib (.int .u8 0) 1 1 Tryz.underlying23 ki kz0 kz1 kz2 rfl (by decide) _ (N+j) _ rfl (hown.alloc _) ⟨wr.heap.size,0,none⟩ 1 1 [.int .u8 ((y:Int) % 256)] rfl rfl (World.news_of_block (cs:=#[.int .u8 ((y:Int) % 256)]) (t:=5) (fr:=(0,0)) (heap_alloc_last wr _)) (by simp [Value.oneCell']) (by unfold maxLen;omega) (by omega) (by simp;omega) ?_;intro v' w5 hown6 hgrow6 _ hat6;obtain⟨na,nc,hvn⟩:=owns_slice hown6;subst hvn;have HF:=Lib.hid (And.intro ((HG.out.1.alloc (by omega) _).grown hgrow6 (by simp;omega) (own_base hown)) (And.intro (gr_at (gr_at HG.out.2.1 HG.out.2.2 (gr_al wr _ _)) HG.out.2.2 hgrow6) (HG.out.2.2.step (by simp;omega) hat6))))
   go_roundw
   case rel=>exact⟨j+1,hlt,by go_num,by rw [HY.out];go_num,Lib.hid ⟨by rw [← HC.out];exact hown6,HF.out⟩⟩
   case measure=>simp [intOf];omega
  ·obtain rfl:j=4:=by omega
   have HO:=Lib.hid hI.out
   clear hI
   go_wp2
   go_ret
   exact⟨⟨_,_,rfl,HO.out.1,HO.out.2.2.2⟩,HO.out.2.1,HO.out.2.2.1⟩
end Go.Proofs.YtohkgdfkklfgmaaGreatDoor.L16
end
section
set_option maxHeartbeats 16000000
namespace Go.Proofs.YtohkgdfkklfgmaaGreatDoor.L16
set_option maxRecDepth 100000
open Go.RowKit L14 L15
open L13 (Ob)
attribute [local go_sem] Oper.semAt_some
theorem rcheck16_at (vm vc vr:Value) (o:Ob) (R:Int) (w:World) (ho:OA w vm vc vr o) (hs:OS o) (hR:chE o=R) :
  Calls Tryz.prog 11 #[.agg #[vm,vc,vr]] w fun e w'=>e=.returned (.int .i64 R)∧Below w.heap.size w w':=by
 obtain⟨n1,hn1⟩:∃ n,o.maps.length=n:=⟨_,rfl⟩
 obtain⟨n2,hn2⟩:∃ n,o.code.length=n:=⟨_,rfl⟩
 obtain⟨n3,hn3⟩:∃ n,o.rels.length=n:=⟨_,rfl⟩
 have HOA:=Lib.hid ho
 have HOS:=Lib.hid hs
 have hb1:=hs.m
 have hb2:=hs.c
 have hb3:=hs.r
 rw [hn1] at hb1
 rw [hn2] at hb2
 rw [hn3] at hb3
 obtain⟨a1,c1,rfl,hd⟩:=L10.df_form4 hn1 ho.m
 obtain⟨a2,c2,rfl,-⟩:=ho.c.form hn2
 obtain⟨a3,c3,rfl,hr⟩:=L13.ro_form hn3 ho.r
 have HNm:=Lib.hid (fun X (hX:Below w.heap.size w X)=>rnames_at _ _ _ o n1 X (HOA.out.below hX) hs hn1)
 have HM:=Lib.hid hd
 have HRl:=Lib.hid hr
 have HN:=Lib.hid (And.intro hn1 (And.intro hn2 hn3))
 have HRR:=Lib.hid hR
 have HMS:=Lib.hid hs.z
 have K0:=Lib.hid (heap_alloc_last w (.cells #[.slice a1 n1 c1,.slice a2 n2 c2,.slice a3 n3 c3] 26))
 have HB:=Lib.hid (bnew w (.cells #[.slice a1 n1 c1,.slice a2 n2 c2,.slice a3 n3 c3] 26))
 clear ho hs hR hn1 hn2 hn3 hd hr
 go_enter Tryz.func11,Tryz.ntmps11
 go_upto_region 1 with (fail)
 obtain⟨k0,hk0⟩:∃ k,w.heap.size=k:=⟨_,rfl⟩
 rw [hk0] at K0 ⊢
 generalize w.alloc (.cells #[.slice a1 n1 c1,.slice a2 n2 c2,.slice a3 n3 c3] 26)=W0 at K0 HB ⊢
 clear hk0
 go_wp2
 have HI:Hid (Below W0.heap.size W0 W0∧L10.feF 0 ((o.maps.map L10.deE).drop 0)=L10.fe (o.maps.map L10.deE)):=Lib.hid ⟨Below.refl _ _,rfl⟩
 go_loopw [3] (fun q wr=>∃ j:Nat,j≤n1∧q=.int .i64 (j:Int)∧Hid (Below W0.heap.size W0 wr∧L10.feF j ((o.maps.map L10.deE).drop j)=L10.fe (o.maps.map L10.deE))) (fun q _=>n1-(intOf q).toNat)
 case atStart=>exact⟨0,Nat.zero_le _,rfl,HI⟩
 case round =>
  obtain⟨j,hj,rfl,hI⟩:=hrel
  clear HI
  have hB0:=bch HB.out hI.out.1
  obtain⟨x0,x1,x2⟩:=L13.cells3 (L8.row_up K0.out hI.out.1)
  have lx:=World.block_lt_of_cell? _ _ x0
  simp only at lx
  by_cases hlt:j<n1
  ·have hjl:j<o.maps.length:=by rw [HN.out.1];exact hlt
   obtain⟨bb,of,rfl,hbl,hcc⟩:=HM.out (by omega)
   obtain⟨q0,q1,q2,q3⟩:=hcc j hjl
   have y0:=(hB0.cell (p:=⟨bb,of+j*4,none⟩) (by exact hbl)).trans q0
   have y1:=(hB0.cell (p:=⟨bb,of+j*4+1,none⟩) (by exact hbl)).trans q1
   have y2:=(hB0.cell (p:=⟨bb,of+j*4+2,none⟩) (by exact hbl)).trans q2
   have y3:=(hB0.cell (p:=⟨bb,of+j*4+3,none⟩) (by exact hbl)).trans q3
   have ly:=World.block_lt_of_cell? _ _ y0
   simp only at ly
   have hz:=HMS.out _ (List.getElem_mem hjl)
   have hst:=L10.feM o.maps L10.deE j hjl
   rw [hI.out.2,L10.deE_siz] at hst
   obtain⟨d,hd⟩:∃ d,o.maps[j]=d:=⟨_,rfl⟩
   rw [hd] at y0 y1 y2 y3 hst hz
   obtain⟨v,hv⟩:∃ v,L2.vd d.nm=v:=⟨_,rfl⟩
   obtain⟨s,hss⟩:∃ s,L9.sizV d=s:=⟨_,rfl⟩
   have HV:=Lib.hid (fun W=>L2.rvalid_at d.nm v W (Nat.le_trans hz (by decide)) hv)
   have HSZ:=Lib.hid (fun W=>L9.rsizes_at d s W hss)
   rw [hv,hss] at hst
   have HST:=Lib.hid hst
   have HBW:=Lib.hid hI.out.1
   have HB0:=Lib.hid hB0
   clear hcc q0 q1 q2 q3 hst hd hv hss hI hz hB0
   cases v
   ·have hr7:R=7:=by
     rw [← HRR.out]
     unfold chE mE
     rw [HST.out];rfl
    subst hr7
    go_wp2_with (go_at_call 25;((with_reducible refine (HV.out _).mono ?_);rintro e w4 ⟨rfl,rfl⟩))
    go_ret
    exact⟨rfl,HB0.out⟩
   cases s
   ·have hr9:R=9:=by
     rw [← HRR.out]
     unfold chE mE
     rw [HST.out];rfl
    subst hr9
    go_wp2_with (first
     | (go_at_call 25;((with_reducible refine (HV.out _).mono ?_);rintro e w4 ⟨rfl,rfl⟩))
     | (go_at_call 26;((with_reducible refine (HSZ.out _).mono ?_);rintro e w5 ⟨rfl,b5⟩)))
    go_ret
    exact⟨rfl,bch HB0.out b5⟩
   ·go_wp2_with (first
     | (go_at_call 25;((with_reducible refine (HV.out _).mono ?_);rintro e w4 ⟨rfl,rfl⟩))
     | (go_at_call 26;((with_reducible refine (HSZ.out _).mono ?_);rintro e w5 ⟨rfl,b5⟩)))
    go_roundw
    case rel=>exact⟨j+1,hlt,by go_num,Lib.hid ⟨bch HBW.out b5,HST.out.symm⟩⟩
    case measure=>simp [intOf];omega
  ·obtain rfl:j=n1:=by omega
   have hm0:mE o.maps=0:=by
    unfold mE
    rw [← hI.out.2,L10.feF_end _ _ (by rw [List.length_map,HN.out.1];exact Nat.le_refl _)]
   have hRR:=HRR.out
   unfold chE at hRR
   rw [if_neg (by simpa using hm0),HN.out.1,HN.out.2.1] at hRR
   have HB0:=Lib.hid hB0
   have HK1:=Lib.hid (L8.row_up K0.out hI.out.1)
   clear hI hB0 hm0 HRR
   by_cases h255:255<j
   ·rw [if_pos h255] at hRR
    subst hRR
    go_wp2
    go_ret
    exact⟨rfl,HB0.out⟩
   rw [if_neg h255] at hRR
   have HRp:=Lib.hid (fun (X:World) (v:Value) (h:L8.StAt X v (o.maps.map (·.nm)))=>L10.rrep10 X v (o.maps.map (·.nm)) (by rw [List.length_map,HN.out.1];omega) h)
   rcases L10.dp_maps o.maps with ⟨hrp,-⟩|⟨m,hrp,-⟩
   case inr =>
    rw [hrp] at hRR HRp
    rw [if_pos (by omega)] at hRR
    subst hRR
    have hm0:(0:Int)≤(m:Int):=by omega
    clear hrp
    go_wp2_with (first
     | (go_at_call 28;((with_reducible refine (HNm.out _ HB0.out).mono ?_);rintro e w4 ⟨⟨na,nc,rfl,no⟩,b4⟩;have B4:=bch HB0.out b4))
     | (go_at_call 27;((with_reducible refine (HRp.out _ _ (st_of no HN.out.1)).mono ?_);rintro e w5 ⟨rfl,b5⟩)))
    go_ret
    exact⟨rfl,bch B4 b5⟩
   rw [hrp] at hRR HRp
   rw [if_neg (by simp)] at hRR
   clear hrp
   obtain⟨S,hS⟩:∃ S,n2 / 8=S:=⟨_,rfl⟩
   have e8:(n2:Int) / 8=(S:Int):=by omega
   have ecap:¬ (524280:Int)<(n2:Int):=by omega
   rw [hS] at hRR
   by_cases h0:n2=0∨n2 % 8≠0
   ·rw [if_pos (by omega)] at hRR
    subst hRR
    have h17:((n2:Int)==0)=true∨((n2:Int)==0)=false∧((n2:Int) % 8 != 0)=true:=by
     rcases h0 with h0|h0
     ·exact .inl (by rw [beq_iff_eq];omega)
     ·by_cases h00:n2=0
      ·exact .inl (by rw [beq_iff_eq];omega)
      ·exact .inr ⟨by rw [beq_eq_false_iff_ne];omega,by rw [bne_iff_ne];omega⟩
    clear h0
    rcases h17 with h17|⟨h17,h18⟩
    all_goals
     go_wp2_with (first
      | (go_at_call 28;((with_reducible refine (HNm.out _ HB0.out).mono ?_);rintro e w4 ⟨⟨na,nc,rfl,no⟩,b4⟩;have B4:=bch HB0.out b4))
      | (go_at_call 27;((with_reducible refine (HRp.out _ _ (st_of no HN.out.1)).mono ?_);rintro e w5 ⟨rfl,b5⟩;obtain⟨y0,y1,y2⟩:=L13.cells3 (L8.row_up (L8.row_up HK1.out b4) b5);have ly:=World.block_lt_of_cell? _ _ y0;simp only at ly)))
     go_ret
     exact⟨rfl,bch B4 b5⟩
   rw [if_neg (by omega),if_neg (by omega)] at hRR
   have h17:((n2:Int)==0)=false:=by rw [beq_eq_false_iff_ne];omega
   have h18:((n2:Int) % 8 != 0)=false:=by rw [bne_eq_false_iff_eq];omega
   have HS8:=Lib.hid (And.intro hS h0)
   have hS9:S≤20000:=by omega
   have hws:IntKind.i64.wrap (S:Int)=(S:Int):=by simp [IntKind.wrap,IntKind.bits,IntKind.signed];omega
   obtain⟨B,hB⟩:∃ B,rlF (-1) S j o.rels=B:=⟨_,rfl⟩
   rw [hB] at hRR
   have HI:=Lib.hid (show rlF (-1) S j (o.rels.drop 0)=B by rw [List.drop_zero];exact hB)
   have HRR:=Lib.hid hRR
   clear hS h0 hB hRR
   go_wp2_with (first
    | (go_at_call 28;((with_reducible refine (HNm.out _ HB0.out).mono ?_);rintro e w4 ⟨⟨na,nc,rfl,no⟩,b4⟩;have B4:=bch HB0.out b4))
    | (go_at_call 27;((with_reducible refine (HRp.out _ _ (st_of no HN.out.1)).mono ?_);rintro e w5 ⟨rfl,b5⟩;have r5:=L8.row_up (L8.row_up HK1.out b4) b5;obtain⟨y0,y1,y2⟩:=L13.cells3 r5;have ly:=World.block_lt_of_cell? _ _ y0;simp only at ly)))
   have HJ:=Lib.hid (And.intro r5 (bch B4 b5))
   clear r5 y0 y1 y2 ly no b4 b5 B4 x0 x1 x2 lx HNm HRp HK1 h17 h18 HB0
   go_loopw [4] (fun q wr=>∃ (i:Nat) (la:Int),i≤n3∧q=.int .i64 (i:Int)∧Hid (rlF la S j (o.rels.drop i)=B∧Below w5.heap.size w5 wr)∧Hid ((i=0∧la=-1)∨∃ I,i=I+1∧0≤la∧(o.rels.getD I (0,0)).1=la)) (fun q _=>n3-(intOf q).toNat)
   case atStart=>exact⟨0,-1,Nat.zero_le _,rfl,Lib.hid ⟨HI.out,Below.refl _ _⟩,Lib.hid (.inl ⟨rfl,rfl⟩)⟩
   case round =>
    clear HI
    obtain⟨i,la,hi,rfl,hI,hLa⟩:=hrel
    have hB:=bch HJ.out.2 hI.out.2
    have hrow:=L8.row_up HJ.out.1 hI.out.2
    obtain⟨x0,x1,x2⟩:=L13.cells3 hrow
    have lx:=World.block_lt_of_cell? _ _ x0
    simp only at lx
    by_cases hlt2:i<n3
    ·have hil:i<o.rels.length:=by rw [HN.out.2.2];exact hlt2
     obtain⟨bb,of,rfl,hbl,hcc⟩:=HRl.out (by omega)
     obtain⟨q0,q1⟩:=hcc i hil
     have y0:=(hB.cell (p:=⟨bb,of+i*2,none⟩) (by exact hbl)).trans q0
     have y1:=(hB.cell (p:=⟨bb,of+i*2+1,none⟩) (by exact hbl)).trans q1
     have hprev:(i=0∧la=-1)∨∃ I,i=I+1∧0≤la∧wr.cell? ⟨bb,of+I*2,none⟩=some (.int .i64 la):=by
      rcases hLa.out with h|⟨I,h1,h2,h3⟩
      ·exact .inl h
      ·have hIl:I<o.rels.length:=by omega
       refine .inr ⟨I,h1,h2,?_⟩
       have e:(o.rels.getD I (0,0))=o.rels[I]:=by simp [List.getD,hIl]
       rw [e] at h3
       rw [← h3]
       exact (hB.cell (p:=⟨bb,of+I*2,none⟩) (by exact hbl)).trans (hcc I hIl).1
     have hst:=rl_step la S j o.rels i hil
     rw [hI.out.1] at hst
     have hgd:(o.rels.getD i (0,0)).1=o.rels[i].1:=by simp [List.getD,hil]
     obtain⟨s1,hs1⟩:∃ z,o.rels[i].1=z:=⟨_,rfl⟩
     obtain⟨s2,hs2⟩:∃ z,o.rels[i].2=z:=⟨_,rfl⟩
     rw [hs1] at y0 hst hgd
     rw [hs2] at y1 hst
     have HST:=Lib.hid hst
     have HGD:=Lib.hid hgd
     have HB1:=Lib.hid hI.out.2
     have HB0:=Lib.hid hB
     have hwl:=hB.size
     have hbw:bb<wr.heap.size:=by
      have:=World.block_lt_of_cell? _ _ y0
      exact this
     have HRow:=Lib.hid hrow
     clear hcc q0 q1 hst hs1 hs2 hI hB hLa hgd hil hrow
     have bad:¬ (la<s1∧s1<(S:Int)∧0≤s2∧s2<(j:Int))→R=18:=fun h=>by
      have hf:B=false:=by
       rw [HST.out]
       by_cases a1:la<s1 <;> by_cases a2:s1<(S:Int) <;> by_cases a3:0≤s2 <;> by_cases a4:s2<(j:Int) <;> simp [a1,a2,a3,a4] <;> omega
      have:=HRR.out
      rw [hf] at this
      rw [← this];rfl
     have HBAD:=Lib.hid bad
     clear bad
     go_upto_region 20 with (fail)
     obtain⟨kx,hkx⟩:∃ k,wr.heap.size=k:=⟨_,rfl⟩
     have R1:=L8.row_up HRow.out (bnew wr (.cells #[.int .i64 s1,.int .i64 s2] 59))
     have R2:=heap_alloc_last wr (.cells #[.int .i64 s1,.int .i64 s2] 59)
     have HBN:=Lib.hid (bnew wr (.cells #[.int .i64 s1,.int .i64 s2] 59))
     have hpv:(i=0∧la=-1)∨∃ I,i=I+1∧0≤la∧(wr.alloc (.cells #[.int .i64 s1,.int .i64 s2] 59)).cell? ⟨bb,of+I*2,none⟩=some (.int .i64 la):=by
      rcases hprev with h|⟨I,h1,h2,h3⟩
      ·exact .inl h
      ·exact .inr ⟨I,h1,h2,(HBN.out.cell (p:=⟨bb,of+I*2,none⟩) (by exact hbw)).trans h3⟩
     rw [hkx] at R2 ⊢
     generalize wr.alloc (.cells #[.int .i64 s1,.int .i64 s2] 59)=W at R1 R2 HBN hpv ⊢
     clear x0 x1 x2 lx hprev y0 y1 HRow hkx
     obtain⟨x0,x1,x2⟩:=L13.cells3 R1
     obtain⟨r0,r1⟩:=L10.cells2p R2
     clear R1 R2
     refine wp_region_held_drew (S:=fun X=>X=W.drew) (by kernel_rfl) rfl (fun hH=>?_)
     refine wpAnyH_take (i:=0) (oi:=⟨some 63,.fieldAddr 59 (.tmp 5) 0,_,_,_,none⟩) (v:=.pointer (some ⟨kx,0,none⟩)) rfl (by kernel_rfl) (by kernel_rfl) (by kernel_rfl) (fun _ _ _ h=>h) (Or.inl ⟨by rfl,fun wS hS=>(by subst hS;go_simp)⟩) hH ?_
     simp only [Act.put,zA,zB,zC]
     refine wpAnyH_take (i:=1) (oi:=⟨some 64,.load 3 (.tmp 63),_,_,_,none⟩) (v:=.int .i64 s1) rfl (by kernel_rfl) (by kernel_rfl) (by kernel_rfl) (fun _ _ _ h=>h) (Or.inl ⟨by rfl,fun wS hS=>(by subst hS;go_simp)⟩) hH ?_
     simp only [Act.put,zA,zB,zC]
     by_cases g1:s1<0
     ·obtain rfl:=HBAD.out (by omega)
      refine wpAnyH_take (i:=2) (oi:=⟨some 65,.binOp .lss 3 (.tmp 64) (.const (.int .i64 0)) 3,_,_,_,none⟩) (v:=.bool true) rfl (by kernel_rfl) (by kernel_rfl) (by kernel_rfl) (fun _ _ _ h=>h) (Or.inl ⟨by rfl,fun wS hS=>(by subst hS;go_simp)⟩) hH ?_
      simp only [Act.put,zA,zB,zC]
      refine wpAnyH_take (i:=3) (oi:=⟨some 66,.move (.tmp 65),_,_,_,none⟩) (v:=.bool true) rfl (by kernel_rfl) (by kernel_rfl) (by kernel_rfl) (fun _ _ _ h=>h) (Or.inl ⟨by rfl,fun wS hS=>by rfl⟩) hH ?_
      simp only [Act.put,zA,zB,zC]
      refine wpAnyH_take (i:=4) (oi:=⟨some 67,.fieldAddr 59 (.tmp 5) 0,_,_,_,some (3,false)⟩) (v:=undef) rfl (by kernel_rfl) (by kernel_rfl) (by kernel_rfl) (fun _ _ _ h=>h) (Or.inr ⟨by rfl,rfl⟩) hH ?_
      simp only [Act.put,zA,zB,zC]
      refine wpAnyH_take (i:=5) (oi:=⟨some 68,.load 3 (.tmp 67),_,_,_,some (3,false)⟩) (v:=undef) rfl (by kernel_rfl) (by kernel_rfl) (by kernel_rfl) (fun _ _ _ h=>h) (Or.inr ⟨by rfl,rfl⟩) hH ?_
      simp only [Act.put,zA,zB,zC]
      refine wpAnyH_take (i:=6) (oi:=⟨some 69,.fieldAddr 26 (.tmp 1) 1,_,_,_,some (3,false)⟩) (v:=undef) rfl (by kernel_rfl) (by kernel_rfl) (by kernel_rfl) (fun _ _ _ h=>h) (Or.inr ⟨by rfl,rfl⟩) hH ?_
      simp only [Act.put,zA,zB,zC]
      refine wpAnyH_take (i:=7) (oi:=⟨some 70,.load 23 (.tmp 69),_,_,_,some (3,false)⟩) (v:=undef) rfl (by kernel_rfl) (by kernel_rfl) (by kernel_rfl) (fun _ _ _ h=>h) (Or.inr ⟨by rfl,rfl⟩) hH ?_
      simp only [Act.put,zA,zB,zC]
      refine wpAnyH_take (i:=8) (oi:=⟨some 71,.call ⟨.builtin .len,#[.tmp 70],#[23]⟩,_,_,_,some (3,false)⟩) (v:=undef) rfl (by kernel_rfl) (by kernel_rfl) (by kernel_rfl) (fun _ _ _ h=>h) (Or.inr ⟨by rfl,rfl⟩) hH ?_
      simp only [Act.put,zA,zB,zC]
      refine wpAnyH_take (i:=9) (oi:=⟨some 72,.binOp .quo 3 (.tmp 71) (.const (.int .i64 8)) 3,_,_,_,some (3,false)⟩) (v:=undef) rfl (by kernel_rfl) (by kernel_rfl) (by kernel_rfl) (fun _ _ _ h=>h) (Or.inr ⟨by rfl,rfl⟩) hH ?_
      simp only [Act.put,zA,zB,zC]
      refine wpAnyH_take (i:=10) (oi:=⟨some 73,.binOp .geq 3 (.tmp 68) (.tmp 72) 3,_,_,_,some (3,false)⟩) (v:=undef) rfl (by kernel_rfl) (by kernel_rfl) (by kernel_rfl) (fun _ _ _ h=>h) (Or.inr ⟨by rfl,rfl⟩) hH ?_
      simp only [Act.put,zA,zB,zC]
      refine wpAnyH_take (i:=11) (oi:=⟨some 74,.pick (.tmp 66) (.const (.bool true)) (.tmp 73),_,_,_,none⟩) (v:=.bool true) rfl (by kernel_rfl) (by kernel_rfl) (by kernel_rfl) (fun _ _ _ h=>h) (Or.inl ⟨by rfl,fun wS hS=>by rfl⟩) hH ?_
      simp only [Act.put,zA,zB,zC]
      refine wpAnyH_take (i:=12) (oi:=⟨some 75,.move (.tmp 74),_,_,_,none⟩) (v:=.bool true) rfl (by kernel_rfl) (by kernel_rfl) (by kernel_rfl) (fun _ _ _ h=>h) (Or.inl ⟨by rfl,fun wS hS=>by rfl⟩) hH ?_
      simp only [Act.put,zA,zB,zC]
      refine wpAnyH_take (i:=13) (oi:=⟨some 76,.move (.tmp 4),_,_,_,some (12,false)⟩) (v:=undef) rfl (by kernel_rfl) (by kernel_rfl) (by kernel_rfl) (fun _ _ _ h=>h) (Or.inr ⟨by rfl,rfl⟩) hH ?_
      simp only [Act.put,zA,zB,zC]
      refine wpAnyH_take (i:=14) (oi:=⟨some 77,.binOp .gtr 3 (.tmp 76) (.const (.int .i64 0)) 3,_,_,_,some (12,false)⟩) (v:=undef) rfl (by kernel_rfl) (by kernel_rfl) (by kernel_rfl) (fun _ _ _ h=>h) (Or.inr ⟨by rfl,rfl⟩) hH ?_
      simp only [Act.put,zA,zB,zC]
      refine wpAnyH_take (i:=15) (oi:=⟨some 78,.move (.tmp 77),_,_,_,some (12,false)⟩) (v:=undef) rfl (by kernel_rfl) (by kernel_rfl) (by kernel_rfl) (fun _ _ _ h=>h) (Or.inr ⟨by rfl,rfl⟩) hH ?_
      simp only [Act.put,zA,zB,zC]
      refine wpAnyH_take (i:=16) (oi:=⟨some 79,.fieldAddr 59 (.tmp 5) 0,_,_,_,some (15,true)⟩) (v:=undef) rfl (by kernel_rfl) (by kernel_rfl) (by kernel_rfl) (fun _ _ _ h=>h) (Or.inr ⟨by rfl,rfl⟩) hH ?_
      simp only [Act.put,zA,zB,zC]
      refine wpAnyH_take (i:=17) (oi:=⟨some 80,.load 3 (.tmp 79),_,_,_,some (15,true)⟩) (v:=undef) rfl (by kernel_rfl) (by kernel_rfl) (by kernel_rfl) (fun _ _ _ h=>h) (Or.inr ⟨by rfl,rfl⟩) hH ?_
      simp only [Act.put,zA,zB,zC]
      refine wpAnyH_take (i:=18) (oi:=⟨some 81,.fieldAddr 26 (.tmp 1) 2,_,_,_,some (15,true)⟩) (v:=undef) rfl (by kernel_rfl) (by kernel_rfl) (by kernel_rfl) (fun _ _ _ h=>h) (Or.inr ⟨by rfl,rfl⟩) hH ?_
      simp only [Act.put,zA,zB,zC]
      refine wpAnyH_take (i:=19) (oi:=⟨some 82,.load 24 (.tmp 81),_,_,_,some (15,true)⟩) (v:=undef) rfl (by kernel_rfl) (by kernel_rfl) (by kernel_rfl) (fun _ _ _ h=>h) (Or.inr ⟨by rfl,rfl⟩) hH ?_
      simp only [Act.put,zA,zB,zC]
      refine wpAnyH_take (i:=20) (oi:=⟨some 83,.move (.tmp 4),_,_,_,some (15,true)⟩) (v:=undef) rfl (by kernel_rfl) (by kernel_rfl) (by kernel_rfl) (fun _ _ _ h=>h) (Or.inr ⟨by rfl,rfl⟩) hH ?_
      simp only [Act.put,zA,zB,zC]
      refine wpAnyH_take (i:=21) (oi:=⟨some 84,.binOp .sub 3 (.tmp 83) (.const (.int .i64 1)) 3,_,_,_,some (15,true)⟩) (v:=undef) rfl (by kernel_rfl) (by kernel_rfl) (by kernel_rfl) (fun _ _ _ h=>h) (Or.inr ⟨by rfl,rfl⟩) hH ?_
      simp only [Act.put,zA,zB,zC]
      refine wpAnyH_take (i:=22) (oi:=⟨some 85,.indexAddr 24 (.tmp 82) (.tmp 84),_,_,_,some (15,true)⟩) (v:=undef) rfl (by kernel_rfl) (by kernel_rfl) (by kernel_rfl) (fun _ _ _ h=>h) (Or.inr ⟨by rfl,rfl⟩) hH ?_
      simp only [Act.put,zA,zB,zC]
      refine wpAnyH_take (i:=23) (oi:=⟨some 86,.fieldAddr 59 (.tmp 85) 0,_,_,_,some (15,true)⟩) (v:=undef) rfl (by kernel_rfl) (by kernel_rfl) (by kernel_rfl) (fun _ _ _ h=>h) (Or.inr ⟨by rfl,rfl⟩) hH ?_
      simp only [Act.put,zA,zB,zC]
      refine wpAnyH_take (i:=24) (oi:=⟨some 87,.load 3 (.tmp 86),_,_,_,some (15,true)⟩) (v:=undef) rfl (by kernel_rfl) (by kernel_rfl) (by kernel_rfl) (fun _ _ _ h=>h) (Or.inr ⟨by rfl,rfl⟩) hH ?_
      simp only [Act.put,zA,zB,zC]
      refine wpAnyH_take (i:=25) (oi:=⟨some 88,.binOp .leq 3 (.tmp 80) (.tmp 87) 3,_,_,_,some (15,true)⟩) (v:=undef) rfl (by kernel_rfl) (by kernel_rfl) (by kernel_rfl) (fun _ _ _ h=>h) (Or.inr ⟨by rfl,rfl⟩) hH ?_
      simp only [Act.put,zA,zB,zC]
      refine wpAnyH_take (i:=26) (oi:=⟨some 89,.pick (.tmp 78) (.tmp 88) (.const (.bool false)),_,_,_,some (12,false)⟩) (v:=undef) rfl (by kernel_rfl) (by kernel_rfl) (by kernel_rfl) (fun _ _ _ h=>h) (Or.inr ⟨by rfl,rfl⟩) hH ?_
      simp only [Act.put,zA,zB,zC]
      refine wpAnyH_take (i:=27) (oi:=⟨some 90,.pick (.tmp 75) (.const (.bool true)) (.tmp 89),_,_,_,none⟩) (v:=.bool true) rfl (by kernel_rfl) (by kernel_rfl) (by kernel_rfl) (fun _ _ _ h=>h) (Or.inl ⟨by rfl,fun wS hS=>by rfl⟩) hH ?_
      simp only [Act.put,zA,zB,zC]
      refine wpAnyH_take (i:=28) (oi:=⟨some 91,.move (.tmp 90),_,_,_,none⟩) (v:=.bool true) rfl (by kernel_rfl) (by kernel_rfl) (by kernel_rfl) (fun _ _ _ h=>h) (Or.inl ⟨by rfl,fun wS hS=>by rfl⟩) hH ?_
      simp only [Act.put,zA,zB,zC]
      refine wpAnyH_take (i:=29) (oi:=⟨some 92,.fieldAddr 59 (.tmp 5) 1,_,_,_,some (28,false)⟩) (v:=undef) rfl (by kernel_rfl) (by kernel_rfl) (by kernel_rfl) (fun _ _ _ h=>h) (Or.inr ⟨by rfl,rfl⟩) hH ?_
      simp only [Act.put,zA,zB,zC]
      refine wpAnyH_take (i:=30) (oi:=⟨some 93,.load 3 (.tmp 92),_,_,_,some (28,false)⟩) (v:=undef) rfl (by kernel_rfl) (by kernel_rfl) (by kernel_rfl) (fun _ _ _ h=>h) (Or.inr ⟨by rfl,rfl⟩) hH ?_
      simp only [Act.put,zA,zB,zC]
      refine wpAnyH_take (i:=31) (oi:=⟨some 94,.binOp .lss 3 (.tmp 93) (.const (.int .i64 0)) 3,_,_,_,some (28,false)⟩) (v:=undef) rfl (by kernel_rfl) (by kernel_rfl) (by kernel_rfl) (fun _ _ _ h=>h) (Or.inr ⟨by rfl,rfl⟩) hH ?_
      simp only [Act.put,zA,zB,zC]
      refine wpAnyH_take (i:=32) (oi:=⟨some 95,.pick (.tmp 91) (.const (.bool true)) (.tmp 94),_,_,_,none⟩) (v:=.bool true) rfl (by kernel_rfl) (by kernel_rfl) (by kernel_rfl) (fun _ _ _ h=>h) (Or.inl ⟨by rfl,fun wS hS=>by rfl⟩) hH ?_
      simp only [Act.put,zA,zB,zC]
      refine wpAnyH_take (i:=33) (oi:=⟨some 96,.move (.tmp 95),_,_,_,none⟩) (v:=.bool true) rfl (by kernel_rfl) (by kernel_rfl) (by kernel_rfl) (fun _ _ _ h=>h) (Or.inl ⟨by rfl,fun wS hS=>by rfl⟩) hH ?_
      simp only [Act.put,zA,zB,zC]
      refine wpAnyH_take (i:=34) (oi:=⟨some 97,.fieldAddr 59 (.tmp 5) 1,_,_,_,some (33,false)⟩) (v:=undef) rfl (by kernel_rfl) (by kernel_rfl) (by kernel_rfl) (fun _ _ _ h=>h) (Or.inr ⟨by rfl,rfl⟩) hH ?_
      simp only [Act.put,zA,zB,zC]
      refine wpAnyH_take (i:=35) (oi:=⟨some 98,.load 3 (.tmp 97),_,_,_,some (33,false)⟩) (v:=undef) rfl (by kernel_rfl) (by kernel_rfl) (by kernel_rfl) (fun _ _ _ h=>h) (Or.inr ⟨by rfl,rfl⟩) hH ?_
      simp only [Act.put,zA,zB,zC]
      refine wpAnyH_take (i:=36) (oi:=⟨some 99,.fieldAddr 26 (.tmp 1) 0,_,_,_,some (33,false)⟩) (v:=undef) rfl (by kernel_rfl) (by kernel_rfl) (by kernel_rfl) (fun _ _ _ h=>h) (Or.inr ⟨by rfl,rfl⟩) hH ?_
      simp only [Act.put,zA,zB,zC]
      refine wpAnyH_take (i:=37) (oi:=⟨some 100,.load 22 (.tmp 99),_,_,_,some (33,false)⟩) (v:=undef) rfl (by kernel_rfl) (by kernel_rfl) (by kernel_rfl) (fun _ _ _ h=>h) (Or.inr ⟨by rfl,rfl⟩) hH ?_
      simp only [Act.put,zA,zB,zC]
      refine wpAnyH_take (i:=38) (oi:=⟨some 101,.call ⟨.builtin .len,#[.tmp 100],#[22]⟩,_,_,_,some (33,false)⟩) (v:=undef) rfl (by kernel_rfl) (by kernel_rfl) (by kernel_rfl) (fun _ _ _ h=>h) (Or.inr ⟨by rfl,rfl⟩) hH ?_
      simp only [Act.put,zA,zB,zC]
      refine wpAnyH_take (i:=39) (oi:=⟨some 102,.binOp .geq 3 (.tmp 98) (.tmp 101) 3,_,_,_,some (33,false)⟩) (v:=undef) rfl (by kernel_rfl) (by kernel_rfl) (by kernel_rfl) (fun _ _ _ h=>h) (Or.inr ⟨by rfl,rfl⟩) hH ?_
      simp only [Act.put,zA,zB,zC]
      refine wpAnyH_take (i:=40) (oi:=⟨some 103,.pick (.tmp 96) (.const (.bool true)) (.tmp 102),_,_,_,none⟩) (v:=.bool true) rfl (by kernel_rfl) (by kernel_rfl) (by kernel_rfl) (fun _ _ _ h=>h) (Or.inl ⟨by rfl,fun wS hS=>by rfl⟩) hH ?_
      simp only [Act.put,zA,zB,zC]
      refine wpAnyH_done (by kernel_rfl) ?_ _
      go_wp2
      go_ret
      exact⟨rfl,(bch HB0.out HBN.out).drew⟩
     refine wpAnyH_take (i:=2) (oi:=⟨some 65,.binOp .lss 3 (.tmp 64) (.const (.int .i64 0)) 3,_,_,_,none⟩) (v:=.bool false) rfl (by kernel_rfl) (by kernel_rfl) (by kernel_rfl) (fun _ _ _ h=>h) (Or.inl ⟨by rfl,fun wS hS=>(by subst hS;go_simp)⟩) hH ?_
     simp only [Act.put,zA,zB,zC]
     refine wpAnyH_take (i:=3) (oi:=⟨some 66,.move (.tmp 65),_,_,_,none⟩) (v:=.bool false) rfl (by kernel_rfl) (by kernel_rfl) (by kernel_rfl) (fun _ _ _ h=>h) (Or.inl ⟨by rfl,fun wS hS=>by rfl⟩) hH ?_
     simp only [Act.put,zA,zB,zC]
     refine wpAnyH_take (i:=4) (oi:=⟨some 67,.fieldAddr 59 (.tmp 5) 0,_,_,_,some (3,false)⟩) (v:=.pointer (some ⟨kx,0,none⟩)) rfl (by kernel_rfl) (by kernel_rfl) (by kernel_rfl) (fun _ _ _ h=>h) (Or.inl ⟨by rfl,fun wS hS=>(by subst hS;go_simp)⟩) hH ?_
     simp only [Act.put,zA,zB,zC]
     refine wpAnyH_take (i:=5) (oi:=⟨some 68,.load 3 (.tmp 67),_,_,_,some (3,false)⟩) (v:=.int .i64 s1) rfl (by kernel_rfl) (by kernel_rfl) (by kernel_rfl) (fun _ _ _ h=>h) (Or.inl ⟨by rfl,fun wS hS=>(by subst hS;go_simp)⟩) hH ?_
     simp only [Act.put,zA,zB,zC]
     refine wpAnyH_take (i:=6) (oi:=⟨some 69,.fieldAddr 26 (.tmp 1) 1,_,_,_,some (3,false)⟩) (v:=.pointer (some ⟨k0,1,none⟩)) rfl (by kernel_rfl) (by kernel_rfl) (by kernel_rfl) (fun _ _ _ h=>h) (Or.inl ⟨by rfl,fun wS hS=>(by subst hS;go_simp)⟩) hH ?_
     simp only [Act.put,zA,zB,zC]
     refine wpAnyH_take (i:=7) (oi:=⟨some 70,.load 23 (.tmp 69),_,_,_,some (3,false)⟩) (v:=.slice a2 n2 c2) rfl (by kernel_rfl) (by kernel_rfl) (by kernel_rfl) (fun _ _ _ h=>h) (Or.inl ⟨by rfl,fun wS hS=>(by subst hS;go_simp)⟩) hH ?_
     simp only [Act.put,zA,zB,zC]
     refine wpAnyH_take (i:=8) (oi:=⟨some 71,.call ⟨.builtin .len,#[.tmp 70],#[23]⟩,_,_,_,some (3,false)⟩) (v:=.int .i64 (n2:Int)) rfl (by kernel_rfl) (by kernel_rfl) (by kernel_rfl) (fun _ _ _ h=>h) (Or.inl ⟨by rfl,fun wS hS=>(by subst hS;go_simp)⟩) hH ?_
     simp only [Act.put,zA,zB,zC]
     refine wpAnyH_take (i:=9) (oi:=⟨some 72,.binOp .quo 3 (.tmp 71) (.const (.int .i64 8)) 3,_,_,_,some (3,false)⟩) (v:=.int .i64 (S:Int)) rfl (by kernel_rfl) (by kernel_rfl) (by kernel_rfl) (fun _ _ _ h=>h) (Or.inl ⟨by rfl,fun wS hS=>(by subst hS;go_simp)⟩) hH ?_
     simp only [Act.put,zA,zB,zC]
     by_cases g2:(S:Int)≤s1
     ·obtain rfl:=HBAD.out (by omega)
      refine wpAnyH_take (i:=10) (oi:=⟨some 73,.binOp .geq 3 (.tmp 68) (.tmp 72) 3,_,_,_,some (3,false)⟩) (v:=.bool true) rfl (by kernel_rfl) (by kernel_rfl) (by kernel_rfl) (fun _ _ _ h=>h) (Or.inl ⟨by rfl,fun wS hS=>(by subst hS;go_simp)⟩) hH ?_
      simp only [Act.put,zA,zB,zC]
      refine wpAnyH_take (i:=11) (oi:=⟨some 74,.pick (.tmp 66) (.const (.bool true)) (.tmp 73),_,_,_,none⟩) (v:=.bool true) rfl (by kernel_rfl) (by kernel_rfl) (by kernel_rfl) (fun _ _ _ h=>h) (Or.inl ⟨by rfl,fun wS hS=>by rfl⟩) hH ?_
      simp only [Act.put,zA,zB,zC]
      refine wpAnyH_take (i:=12) (oi:=⟨some 75,.move (.tmp 74),_,_,_,none⟩) (v:=.bool true) rfl (by kernel_rfl) (by kernel_rfl) (by kernel_rfl) (fun _ _ _ h=>h) (Or.inl ⟨by rfl,fun wS hS=>by rfl⟩) hH ?_
      simp only [Act.put,zA,zB,zC]
      refine wpAnyH_take (i:=13) (oi:=⟨some 76,.move (.tmp 4),_,_,_,some (12,false)⟩) (v:=undef) rfl (by kernel_rfl) (by kernel_rfl) (by kernel_rfl) (fun _ _ _ h=>h) (Or.inr ⟨by rfl,rfl⟩) hH ?_
      simp only [Act.put,zA,zB,zC]
      refine wpAnyH_take (i:=14) (oi:=⟨some 77,.binOp .gtr 3 (.tmp 76) (.const (.int .i64 0)) 3,_,_,_,some (12,false)⟩) (v:=undef) rfl (by kernel_rfl) (by kernel_rfl) (by kernel_rfl) (fun _ _ _ h=>h) (Or.inr ⟨by rfl,rfl⟩) hH ?_
      simp only [Act.put,zA,zB,zC]
      refine wpAnyH_take (i:=15) (oi:=⟨some 78,.move (.tmp 77),_,_,_,some (12,false)⟩) (v:=undef) rfl (by kernel_rfl) (by kernel_rfl) (by kernel_rfl) (fun _ _ _ h=>h) (Or.inr ⟨by rfl,rfl⟩) hH ?_
      simp only [Act.put,zA,zB,zC]
      refine wpAnyH_take (i:=16) (oi:=⟨some 79,.fieldAddr 59 (.tmp 5) 0,_,_,_,some (15,true)⟩) (v:=undef) rfl (by kernel_rfl) (by kernel_rfl) (by kernel_rfl) (fun _ _ _ h=>h) (Or.inr ⟨by rfl,rfl⟩) hH ?_
      simp only [Act.put,zA,zB,zC]
      refine wpAnyH_take (i:=17) (oi:=⟨some 80,.load 3 (.tmp 79),_,_,_,some (15,true)⟩) (v:=undef) rfl (by kernel_rfl) (by kernel_rfl) (by kernel_rfl) (fun _ _ _ h=>h) (Or.inr ⟨by rfl,rfl⟩) hH ?_
      simp only [Act.put,zA,zB,zC]
      refine wpAnyH_take (i:=18) (oi:=⟨some 81,.fieldAddr 26 (.tmp 1) 2,_,_,_,some (15,true)⟩) (v:=undef) rfl (by kernel_rfl) (by kernel_rfl) (by kernel_rfl) (fun _ _ _ h=>h) (Or.inr ⟨by rfl,rfl⟩) hH ?_
      simp only [Act.put,zA,zB,zC]
      refine wpAnyH_take (i:=19) (oi:=⟨some 82,.load 24 (.tmp 81),_,_,_,some (15,true)⟩) (v:=undef) rfl (by kernel_rfl) (by kernel_rfl) (by kernel_rfl) (fun _ _ _ h=>h) (Or.inr ⟨by rfl,rfl⟩) hH ?_
      simp only [Act.put,zA,zB,zC]
      refine wpAnyH_take (i:=20) (oi:=⟨some 83,.move (.tmp 4),_,_,_,some (15,true)⟩) (v:=undef) rfl (by kernel_rfl) (by kernel_rfl) (by kernel_rfl) (fun _ _ _ h=>h) (Or.inr ⟨by rfl,rfl⟩) hH ?_
      simp only [Act.put,zA,zB,zC]
      refine wpAnyH_take (i:=21) (oi:=⟨some 84,.binOp .sub 3 (.tmp 83) (.const (.int .i64 1)) 3,_,_,_,some (15,true)⟩) (v:=undef) rfl (by kernel_rfl) (by kernel_rfl) (by kernel_rfl) (fun _ _ _ h=>h) (Or.inr ⟨by rfl,rfl⟩) hH ?_
      simp only [Act.put,zA,zB,zC]
      refine wpAnyH_take (i:=22) (oi:=⟨some 85,.indexAddr 24 (.tmp 82) (.tmp 84),_,_,_,some (15,true)⟩) (v:=undef) rfl (by kernel_rfl) (by kernel_rfl) (by kernel_rfl) (fun _ _ _ h=>h) (Or.inr ⟨by rfl,rfl⟩) hH ?_
      simp only [Act.put,zA,zB,zC]
      refine wpAnyH_take (i:=23) (oi:=⟨some 86,.fieldAddr 59 (.tmp 85) 0,_,_,_,some (15,true)⟩) (v:=undef) rfl (by kernel_rfl) (by kernel_rfl) (by kernel_rfl) (fun _ _ _ h=>h) (Or.inr ⟨by rfl,rfl⟩) hH ?_
      simp only [Act.put,zA,zB,zC]
      refine wpAnyH_take (i:=24) (oi:=⟨some 87,.load 3 (.tmp 86),_,_,_,some (15,true)⟩) (v:=undef) rfl (by kernel_rfl) (by kernel_rfl) (by kernel_rfl) (fun _ _ _ h=>h) (Or.inr ⟨by rfl,rfl⟩) hH ?_
      simp only [Act.put,zA,zB,zC]
      refine wpAnyH_take (i:=25) (oi:=⟨some 88,.binOp .leq 3 (.tmp 80) (.tmp 87) 3,_,_,_,some (15,true)⟩) (v:=undef) rfl (by kernel_rfl) (by kernel_rfl) (by kernel_rfl) (fun _ _ _ h=>h) (Or.inr ⟨by rfl,rfl⟩) hH ?_
      simp only [Act.put,zA,zB,zC]
      refine wpAnyH_take (i:=26) (oi:=⟨some 89,.pick (.tmp 78) (.tmp 88) (.const (.bool false)),_,_,_,some (12,false)⟩) (v:=undef) rfl (by kernel_rfl) (by kernel_rfl) (by kernel_rfl) (fun _ _ _ h=>h) (Or.inr ⟨by rfl,rfl⟩) hH ?_
      simp only [Act.put,zA,zB,zC]
      refine wpAnyH_take (i:=27) (oi:=⟨some 90,.pick (.tmp 75) (.const (.bool true)) (.tmp 89),_,_,_,none⟩) (v:=.bool true) rfl (by kernel_rfl) (by kernel_rfl) (by kernel_rfl) (fun _ _ _ h=>h) (Or.inl ⟨by rfl,fun wS hS=>by rfl⟩) hH ?_
      simp only [Act.put,zA,zB,zC]
      refine wpAnyH_take (i:=28) (oi:=⟨some 91,.move (.tmp 90),_,_,_,none⟩) (v:=.bool true) rfl (by kernel_rfl) (by kernel_rfl) (by kernel_rfl) (fun _ _ _ h=>h) (Or.inl ⟨by rfl,fun wS hS=>by rfl⟩) hH ?_
      simp only [Act.put,zA,zB,zC]
      refine wpAnyH_take (i:=29) (oi:=⟨some 92,.fieldAddr 59 (.tmp 5) 1,_,_,_,some (28,false)⟩) (v:=undef) rfl (by kernel_rfl) (by kernel_rfl) (by kernel_rfl) (fun _ _ _ h=>h) (Or.inr ⟨by rfl,rfl⟩) hH ?_
      simp only [Act.put,zA,zB,zC]
      refine wpAnyH_take (i:=30) (oi:=⟨some 93,.load 3 (.tmp 92),_,_,_,some (28,false)⟩) (v:=undef) rfl (by kernel_rfl) (by kernel_rfl) (by kernel_rfl) (fun _ _ _ h=>h) (Or.inr ⟨by rfl,rfl⟩) hH ?_
      simp only [Act.put,zA,zB,zC]
      refine wpAnyH_take (i:=31) (oi:=⟨some 94,.binOp .lss 3 (.tmp 93) (.const (.int .i64 0)) 3,_,_,_,some (28,false)⟩) (v:=undef) rfl (by kernel_rfl) (by kernel_rfl) (by kernel_rfl) (fun _ _ _ h=>h) (Or.inr ⟨by rfl,rfl⟩) hH ?_
      simp only [Act.put,zA,zB,zC]
      refine wpAnyH_take (i:=32) (oi:=⟨some 95,.pick (.tmp 91) (.const (.bool true)) (.tmp 94),_,_,_,none⟩) (v:=.bool true) rfl (by kernel_rfl) (by kernel_rfl) (by kernel_rfl) (fun _ _ _ h=>h) (Or.inl ⟨by rfl,fun wS hS=>by rfl⟩) hH ?_
      simp only [Act.put,zA,zB,zC]
      refine wpAnyH_take (i:=33) (oi:=⟨some 96,.move (.tmp 95),_,_,_,none⟩) (v:=.bool true) rfl (by kernel_rfl) (by kernel_rfl) (by kernel_rfl) (fun _ _ _ h=>h) (Or.inl ⟨by rfl,fun wS hS=>by rfl⟩) hH ?_
      simp only [Act.put,zA,zB,zC]
      refine wpAnyH_take (i:=34) (oi:=⟨some 97,.fieldAddr 59 (.tmp 5) 1,_,_,_,some (33,false)⟩) (v:=undef) rfl (by kernel_rfl) (by kernel_rfl) (by kernel_rfl) (fun _ _ _ h=>h) (Or.inr ⟨by rfl,rfl⟩) hH ?_
      simp only [Act.put,zA,zB,zC]
      refine wpAnyH_take (i:=35) (oi:=⟨some 98,.load 3 (.tmp 97),_,_,_,some (33,false)⟩) (v:=undef) rfl (by kernel_rfl) (by kernel_rfl) (by kernel_rfl) (fun _ _ _ h=>h) (Or.inr ⟨by rfl,rfl⟩) hH ?_
      simp only [Act.put,zA,zB,zC]
      refine wpAnyH_take (i:=36) (oi:=⟨some 99,.fieldAddr 26 (.tmp 1) 0,_,_,_,some (33,false)⟩) (v:=undef) rfl (by kernel_rfl) (by kernel_rfl) (by kernel_rfl) (fun _ _ _ h=>h) (Or.inr ⟨by rfl,rfl⟩) hH ?_
      simp only [Act.put,zA,zB,zC]
      refine wpAnyH_take (i:=37) (oi:=⟨some 100,.load 22 (.tmp 99),_,_,_,some (33,false)⟩) (v:=undef) rfl (by kernel_rfl) (by kernel_rfl) (by kernel_rfl) (fun _ _ _ h=>h) (Or.inr ⟨by rfl,rfl⟩) hH ?_
      simp only [Act.put,zA,zB,zC]
      refine wpAnyH_take (i:=38) (oi:=⟨some 101,.call ⟨.builtin .len,#[.tmp 100],#[22]⟩,_,_,_,some (33,false)⟩) (v:=undef) rfl (by kernel_rfl) (by kernel_rfl) (by kernel_rfl) (fun _ _ _ h=>h) (Or.inr ⟨by rfl,rfl⟩) hH ?_
      simp only [Act.put,zA,zB,zC]
      refine wpAnyH_take (i:=39) (oi:=⟨some 102,.binOp .geq 3 (.tmp 98) (.tmp 101) 3,_,_,_,some (33,false)⟩) (v:=undef) rfl (by kernel_rfl) (by kernel_rfl) (by kernel_rfl) (fun _ _ _ h=>h) (Or.inr ⟨by rfl,rfl⟩) hH ?_
      simp only [Act.put,zA,zB,zC]
      refine wpAnyH_take (i:=40) (oi:=⟨some 103,.pick (.tmp 96) (.const (.bool true)) (.tmp 102),_,_,_,none⟩) (v:=.bool true) rfl (by kernel_rfl) (by kernel_rfl) (by kernel_rfl) (fun _ _ _ h=>h) (Or.inl ⟨by rfl,fun wS hS=>by rfl⟩) hH ?_
      simp only [Act.put,zA,zB,zC]
      refine wpAnyH_done (by kernel_rfl) ?_ _
      go_wp2
      go_ret
      exact⟨rfl,(bch HB0.out HBN.out).drew⟩
     refine wpAnyH_take (i:=10) (oi:=⟨some 73,.binOp .geq 3 (.tmp 68) (.tmp 72) 3,_,_,_,some (3,false)⟩) (v:=.bool false) rfl (by kernel_rfl) (by kernel_rfl) (by kernel_rfl) (fun _ _ _ h=>h) (Or.inl ⟨by rfl,fun wS hS=>(by subst hS;go_simp)⟩) hH ?_
     simp only [Act.put,zA,zB,zC]
     refine wpAnyH_take (i:=11) (oi:=⟨some 74,.pick (.tmp 66) (.const (.bool true)) (.tmp 73),_,_,_,none⟩) (v:=.bool false) rfl (by kernel_rfl) (by kernel_rfl) (by kernel_rfl) (fun _ _ _ h=>h) (Or.inl ⟨by rfl,fun wS hS=>by rfl⟩) hH ?_
     simp only [Act.put,zA,zB,zC]
     refine wpAnyH_take (i:=12) (oi:=⟨some 75,.move (.tmp 74),_,_,_,none⟩) (v:=.bool false) rfl (by kernel_rfl) (by kernel_rfl) (by kernel_rfl) (fun _ _ _ h=>h) (Or.inl ⟨by rfl,fun wS hS=>by rfl⟩) hH ?_
     simp only [Act.put,zA,zB,zC]
     rcases hpv with ⟨rfl,hla⟩|⟨I,rfl,hla,p0⟩
     ·subst hla
      refine wpAnyH_take (i:=13) (oi:=⟨some 76,.move (.tmp 4),_,_,_,some (12,false)⟩) (v:=.int .i64 ((0:Nat):Int)) rfl (by kernel_rfl) (by kernel_rfl) (by kernel_rfl) (fun _ _ _ h=>h) (Or.inl ⟨by rfl,fun wS hS=>by rfl⟩) hH ?_
      simp only [Act.put,zA,zB,zC]
      refine wpAnyH_take (i:=14) (oi:=⟨some 77,.binOp .gtr 3 (.tmp 76) (.const (.int .i64 0)) 3,_,_,_,some (12,false)⟩) (v:=.bool false) rfl (by kernel_rfl) (by kernel_rfl) (by kernel_rfl) (fun _ _ _ h=>h) (Or.inl ⟨by rfl,fun wS hS=>(by subst hS;go_simp)⟩) hH ?_
      simp only [Act.put,zA,zB,zC]
      refine wpAnyH_take (i:=15) (oi:=⟨some 78,.move (.tmp 77),_,_,_,some (12,false)⟩) (v:=.bool false) rfl (by kernel_rfl) (by kernel_rfl) (by kernel_rfl) (fun _ _ _ h=>h) (Or.inl ⟨by rfl,fun wS hS=>by rfl⟩) hH ?_
      simp only [Act.put,zA,zB,zC]
      refine wpAnyH_take (i:=16) (oi:=⟨some 79,.fieldAddr 59 (.tmp 5) 0,_,_,_,some (15,true)⟩) (v:=undef) rfl (by kernel_rfl) (by kernel_rfl) (by kernel_rfl) (fun _ _ _ h=>h) (Or.inr ⟨by rfl,rfl⟩) hH ?_
      simp only [Act.put,zA,zB,zC]
      refine wpAnyH_take (i:=17) (oi:=⟨some 80,.load 3 (.tmp 79),_,_,_,some (15,true)⟩) (v:=undef) rfl (by kernel_rfl) (by kernel_rfl) (by kernel_rfl) (fun _ _ _ h=>h) (Or.inr ⟨by rfl,rfl⟩) hH ?_
      simp only [Act.put,zA,zB,zC]
      refine wpAnyH_take (i:=18) (oi:=⟨some 81,.fieldAddr 26 (.tmp 1) 2,_,_,_,some (15,true)⟩) (v:=undef) rfl (by kernel_rfl) (by kernel_rfl) (by kernel_rfl) (fun _ _ _ h=>h) (Or.inr ⟨by rfl,rfl⟩) hH ?_
      simp only [Act.put,zA,zB,zC]
      refine wpAnyH_take (i:=19) (oi:=⟨some 82,.load 24 (.tmp 81),_,_,_,some (15,true)⟩) (v:=undef) rfl (by kernel_rfl) (by kernel_rfl) (by kernel_rfl) (fun _ _ _ h=>h) (Or.inr ⟨by rfl,rfl⟩) hH ?_
      simp only [Act.put,zA,zB,zC]
      refine wpAnyH_take (i:=20) (oi:=⟨some 83,.move (.tmp 4),_,_,_,some (15,true)⟩) (v:=undef) rfl (by kernel_rfl) (by kernel_rfl) (by kernel_rfl) (fun _ _ _ h=>h) (Or.inr ⟨by rfl,rfl⟩) hH ?_
      simp only [Act.put,zA,zB,zC]
      refine wpAnyH_take (i:=21) (oi:=⟨some 84,.binOp .sub 3 (.tmp 83) (.const (.int .i64 1)) 3,_,_,_,some (15,true)⟩) (v:=undef) rfl (by kernel_rfl) (by kernel_rfl) (by kernel_rfl) (fun _ _ _ h=>h) (Or.inr ⟨by rfl,rfl⟩) hH ?_
      simp only [Act.put,zA,zB,zC]
      refine wpAnyH_take (i:=22) (oi:=⟨some 85,.indexAddr 24 (.tmp 82) (.tmp 84),_,_,_,some (15,true)⟩) (v:=undef) rfl (by kernel_rfl) (by kernel_rfl) (by kernel_rfl) (fun _ _ _ h=>h) (Or.inr ⟨by rfl,rfl⟩) hH ?_
      simp only [Act.put,zA,zB,zC]
      refine wpAnyH_take (i:=23) (oi:=⟨some 86,.fieldAddr 59 (.tmp 85) 0,_,_,_,some (15,true)⟩) (v:=undef) rfl (by kernel_rfl) (by kernel_rfl) (by kernel_rfl) (fun _ _ _ h=>h) (Or.inr ⟨by rfl,rfl⟩) hH ?_
      simp only [Act.put,zA,zB,zC]
      refine wpAnyH_take (i:=24) (oi:=⟨some 87,.load 3 (.tmp 86),_,_,_,some (15,true)⟩) (v:=undef) rfl (by kernel_rfl) (by kernel_rfl) (by kernel_rfl) (fun _ _ _ h=>h) (Or.inr ⟨by rfl,rfl⟩) hH ?_
      simp only [Act.put,zA,zB,zC]
      refine wpAnyH_take (i:=25) (oi:=⟨some 88,.binOp .leq 3 (.tmp 80) (.tmp 87) 3,_,_,_,some (15,true)⟩) (v:=undef) rfl (by kernel_rfl) (by kernel_rfl) (by kernel_rfl) (fun _ _ _ h=>h) (Or.inr ⟨by rfl,rfl⟩) hH ?_
      simp only [Act.put,zA,zB,zC]
      refine wpAnyH_take (i:=26) (oi:=⟨some 89,.pick (.tmp 78) (.tmp 88) (.const (.bool false)),_,_,_,some (12,false)⟩) (v:=.bool false) rfl (by kernel_rfl) (by kernel_rfl) (by kernel_rfl) (fun _ _ _ h=>h) (Or.inl ⟨by rfl,fun wS hS=>by rfl⟩) hH ?_
      simp only [Act.put,zA,zB,zC]
      refine wpAnyH_take (i:=27) (oi:=⟨some 90,.pick (.tmp 75) (.const (.bool true)) (.tmp 89),_,_,_,none⟩) (v:=.bool false) rfl (by kernel_rfl) (by kernel_rfl) (by kernel_rfl) (fun _ _ _ h=>h) (Or.inl ⟨by rfl,fun wS hS=>by rfl⟩) hH ?_
      simp only [Act.put,zA,zB,zC]
      refine wpAnyH_take (i:=28) (oi:=⟨some 91,.move (.tmp 90),_,_,_,none⟩) (v:=.bool false) rfl (by kernel_rfl) (by kernel_rfl) (by kernel_rfl) (fun _ _ _ h=>h) (Or.inl ⟨by rfl,fun wS hS=>by rfl⟩) hH ?_
      simp only [Act.put,zA,zB,zC]
      refine wpAnyH_take (i:=29) (oi:=⟨some 92,.fieldAddr 59 (.tmp 5) 1,_,_,_,some (28,false)⟩) (v:=.pointer (some ⟨kx,1,none⟩)) rfl (by kernel_rfl) (by kernel_rfl) (by kernel_rfl) (fun _ _ _ h=>h) (Or.inl ⟨by rfl,fun wS hS=>(by subst hS;go_simp)⟩) hH ?_
      simp only [Act.put,zA,zB,zC]
      refine wpAnyH_take (i:=30) (oi:=⟨some 93,.load 3 (.tmp 92),_,_,_,some (28,false)⟩) (v:=.int .i64 s2) rfl (by kernel_rfl) (by kernel_rfl) (by kernel_rfl) (fun _ _ _ h=>h) (Or.inl ⟨by rfl,fun wS hS=>(by subst hS;go_simp)⟩) hH ?_
      simp only [Act.put,zA,zB,zC]
      by_cases g3:s2<0
      ·obtain rfl:=HBAD.out (by omega)
       refine wpAnyH_take (i:=31) (oi:=⟨some 94,.binOp .lss 3 (.tmp 93) (.const (.int .i64 0)) 3,_,_,_,some (28,false)⟩) (v:=.bool true) rfl (by kernel_rfl) (by kernel_rfl) (by kernel_rfl) (fun _ _ _ h=>h) (Or.inl ⟨by rfl,fun wS hS=>(by subst hS;go_simp)⟩) hH ?_
       simp only [Act.put,zA,zB,zC]
       refine wpAnyH_take (i:=32) (oi:=⟨some 95,.pick (.tmp 91) (.const (.bool true)) (.tmp 94),_,_,_,none⟩) (v:=.bool true) rfl (by kernel_rfl) (by kernel_rfl) (by kernel_rfl) (fun _ _ _ h=>h) (Or.inl ⟨by rfl,fun wS hS=>by rfl⟩) hH ?_
       simp only [Act.put,zA,zB,zC]
       refine wpAnyH_take (i:=33) (oi:=⟨some 96,.move (.tmp 95),_,_,_,none⟩) (v:=.bool true) rfl (by kernel_rfl) (by kernel_rfl) (by kernel_rfl) (fun _ _ _ h=>h) (Or.inl ⟨by rfl,fun wS hS=>by rfl⟩) hH ?_
       simp only [Act.put,zA,zB,zC]
       refine wpAnyH_take (i:=34) (oi:=⟨some 97,.fieldAddr 59 (.tmp 5) 1,_,_,_,some (33,false)⟩) (v:=undef) rfl (by kernel_rfl) (by kernel_rfl) (by kernel_rfl) (fun _ _ _ h=>h) (Or.inr ⟨by rfl,rfl⟩) hH ?_
       simp only [Act.put,zA,zB,zC]
       refine wpAnyH_take (i:=35) (oi:=⟨some 98,.load 3 (.tmp 97),_,_,_,some (33,false)⟩) (v:=undef) rfl (by kernel_rfl) (by kernel_rfl) (by kernel_rfl) (fun _ _ _ h=>h) (Or.inr ⟨by rfl,rfl⟩) hH ?_
       simp only [Act.put,zA,zB,zC]
       refine wpAnyH_take (i:=36) (oi:=⟨some 99,.fieldAddr 26 (.tmp 1) 0,_,_,_,some (33,false)⟩) (v:=undef) rfl (by kernel_rfl) (by kernel_rfl) (by kernel_rfl) (fun _ _ _ h=>h) (Or.inr ⟨by rfl,rfl⟩) hH ?_
       simp only [Act.put,zA,zB,zC]
       refine wpAnyH_take (i:=37) (oi:=⟨some 100,.load 22 (.tmp 99),_,_,_,some (33,false)⟩) (v:=undef) rfl (by kernel_rfl) (by kernel_rfl) (by kernel_rfl) (fun _ _ _ h=>h) (Or.inr ⟨by rfl,rfl⟩) hH ?_
       simp only [Act.put,zA,zB,zC]
       refine wpAnyH_take (i:=38) (oi:=⟨some 101,.call ⟨.builtin .len,#[.tmp 100],#[22]⟩,_,_,_,some (33,false)⟩) (v:=undef) rfl (by kernel_rfl) (by kernel_rfl) (by kernel_rfl) (fun _ _ _ h=>h) (Or.inr ⟨by rfl,rfl⟩) hH ?_
       simp only [Act.put,zA,zB,zC]
       refine wpAnyH_take (i:=39) (oi:=⟨some 102,.binOp .geq 3 (.tmp 98) (.tmp 101) 3,_,_,_,some (33,false)⟩) (v:=undef) rfl (by kernel_rfl) (by kernel_rfl) (by kernel_rfl) (fun _ _ _ h=>h) (Or.inr ⟨by rfl,rfl⟩) hH ?_
       simp only [Act.put,zA,zB,zC]
       refine wpAnyH_take (i:=40) (oi:=⟨some 103,.pick (.tmp 96) (.const (.bool true)) (.tmp 102),_,_,_,none⟩) (v:=.bool true) rfl (by kernel_rfl) (by kernel_rfl) (by kernel_rfl) (fun _ _ _ h=>h) (Or.inl ⟨by rfl,fun wS hS=>by rfl⟩) hH ?_
       simp only [Act.put,zA,zB,zC]
       refine wpAnyH_done (by kernel_rfl) ?_ _
       go_wp2
       go_ret
       exact⟨rfl,(bch HB0.out HBN.out).drew⟩
      refine wpAnyH_take (i:=31) (oi:=⟨some 94,.binOp .lss 3 (.tmp 93) (.const (.int .i64 0)) 3,_,_,_,some (28,false)⟩) (v:=.bool false) rfl (by kernel_rfl) (by kernel_rfl) (by kernel_rfl) (fun _ _ _ h=>h) (Or.inl ⟨by rfl,fun wS hS=>(by subst hS;go_simp)⟩) hH ?_
      simp only [Act.put,zA,zB,zC]
      refine wpAnyH_take (i:=32) (oi:=⟨some 95,.pick (.tmp 91) (.const (.bool true)) (.tmp 94),_,_,_,none⟩) (v:=.bool false) rfl (by kernel_rfl) (by kernel_rfl) (by kernel_rfl) (fun _ _ _ h=>h) (Or.inl ⟨by rfl,fun wS hS=>by rfl⟩) hH ?_
      simp only [Act.put,zA,zB,zC]
      refine wpAnyH_take (i:=33) (oi:=⟨some 96,.move (.tmp 95),_,_,_,none⟩) (v:=.bool false) rfl (by kernel_rfl) (by kernel_rfl) (by kernel_rfl) (fun _ _ _ h=>h) (Or.inl ⟨by rfl,fun wS hS=>by rfl⟩) hH ?_
      simp only [Act.put,zA,zB,zC]
      refine wpAnyH_take (i:=34) (oi:=⟨some 97,.fieldAddr 59 (.tmp 5) 1,_,_,_,some (33,false)⟩) (v:=.pointer (some ⟨kx,1,none⟩)) rfl (by kernel_rfl) (by kernel_rfl) (by kernel_rfl) (fun _ _ _ h=>h) (Or.inl ⟨by rfl,fun wS hS=>(by subst hS;go_simp)⟩) hH ?_
      simp only [Act.put,zA,zB,zC]
      refine wpAnyH_take (i:=35) (oi:=⟨some 98,.load 3 (.tmp 97),_,_,_,some (33,false)⟩) (v:=.int .i64 s2) rfl (by kernel_rfl) (by kernel_rfl) (by kernel_rfl) (fun _ _ _ h=>h) (Or.inl ⟨by rfl,fun wS hS=>(by subst hS;go_simp)⟩) hH ?_
      simp only [Act.put,zA,zB,zC]
      refine wpAnyH_take (i:=36) (oi:=⟨some 99,.fieldAddr 26 (.tmp 1) 0,_,_,_,some (33,false)⟩) (v:=.pointer (some ⟨k0,0,none⟩)) rfl (by kernel_rfl) (by kernel_rfl) (by kernel_rfl) (fun _ _ _ h=>h) (Or.inl ⟨by rfl,fun wS hS=>(by subst hS;go_simp)⟩) hH ?_
      simp only [Act.put,zA,zB,zC]
      refine wpAnyH_take (i:=37) (oi:=⟨some 100,.load 22 (.tmp 99),_,_,_,some (33,false)⟩) (v:=.slice a1 j c1) rfl (by kernel_rfl) (by kernel_rfl) (by kernel_rfl) (fun _ _ _ h=>h) (Or.inl ⟨by rfl,fun wS hS=>(by subst hS;go_simp)⟩) hH ?_
      simp only [Act.put,zA,zB,zC]
      refine wpAnyH_take (i:=38) (oi:=⟨some 101,.call ⟨.builtin .len,#[.tmp 100],#[22]⟩,_,_,_,some (33,false)⟩) (v:=.int .i64 (j:Int)) rfl (by kernel_rfl) (by kernel_rfl) (by kernel_rfl) (fun _ _ _ h=>h) (Or.inl ⟨by rfl,fun wS hS=>(by subst hS;go_simp)⟩) hH ?_
      simp only [Act.put,zA,zB,zC]
      by_cases g4:(j:Int)≤s2
      ·obtain rfl:=HBAD.out (by omega)
       refine wpAnyH_take (i:=39) (oi:=⟨some 102,.binOp .geq 3 (.tmp 98) (.tmp 101) 3,_,_,_,some (33,false)⟩) (v:=.bool true) rfl (by kernel_rfl) (by kernel_rfl) (by kernel_rfl) (fun _ _ _ h=>h) (Or.inl ⟨by rfl,fun wS hS=>(by subst hS;go_simp)⟩) hH ?_
       simp only [Act.put,zA,zB,zC]
       refine wpAnyH_take (i:=40) (oi:=⟨some 103,.pick (.tmp 96) (.const (.bool true)) (.tmp 102),_,_,_,none⟩) (v:=.bool true) rfl (by kernel_rfl) (by kernel_rfl) (by kernel_rfl) (fun _ _ _ h=>h) (Or.inl ⟨by rfl,fun wS hS=>by rfl⟩) hH ?_
       simp only [Act.put,zA,zB,zC]
       refine wpAnyH_done (by kernel_rfl) ?_ _
       go_wp2
       go_ret
       exact⟨rfl,(bch HB0.out HBN.out).drew⟩
      refine wpAnyH_take (i:=39) (oi:=⟨some 102,.binOp .geq 3 (.tmp 98) (.tmp 101) 3,_,_,_,some (33,false)⟩) (v:=.bool false) rfl (by kernel_rfl) (by kernel_rfl) (by kernel_rfl) (fun _ _ _ h=>h) (Or.inl ⟨by rfl,fun wS hS=>(by subst hS;go_simp)⟩) hH ?_
      simp only [Act.put,zA,zB,zC]
      refine wpAnyH_take (i:=40) (oi:=⟨some 103,.pick (.tmp 96) (.const (.bool true)) (.tmp 102),_,_,_,none⟩) (v:=.bool false) rfl (by kernel_rfl) (by kernel_rfl) (by kernel_rfl) (fun _ _ _ h=>h) (Or.inl ⟨by rfl,fun wS hS=>by rfl⟩) hH ?_
      simp only [Act.put,zA,zB,zC]
      refine wpAnyH_done (by kernel_rfl) ?_ _
      have HN2:=Lib.hid (show rlF s1 S j (o.rels.drop (0+1))=B by
       rw [HST.out]
       simp [show -1<s1 by omega,show s1<(S:Int) by omega,show 0≤s2 by omega,show s2<(j:Int) by omega])
      clear HST HBAD
      go_wp2
      go_roundw
      case rel=>exact⟨0+1,s1,hlt2,by go_num,Lib.hid ⟨HN2.out,(bch HB1.out HBN.out).drew⟩,Lib.hid (.inr ⟨_,rfl,by omega,HGD.out⟩)⟩
      case measure=>simp [intOf];omega
     ·have hIn:I<n3:=by omega
      have hIw:IntKind.i64.wrap (I:Int)=(I:Int):=by simp [IntKind.wrap,IntKind.bits,IntKind.signed];omega
      refine wpAnyH_take (i:=13) (oi:=⟨some 76,.move (.tmp 4),_,_,_,some (12,false)⟩) (v:=.int .i64 ((I+1:Nat):Int)) rfl (by kernel_rfl) (by kernel_rfl) (by kernel_rfl) (fun _ _ _ h=>h) (Or.inl ⟨by rfl,fun wS hS=>by rfl⟩) hH ?_
      simp only [Act.put,zA,zB,zC]
      refine wpAnyH_take (i:=14) (oi:=⟨some 77,.binOp .gtr 3 (.tmp 76) (.const (.int .i64 0)) 3,_,_,_,some (12,false)⟩) (v:=.bool true) rfl (by kernel_rfl) (by kernel_rfl) (by kernel_rfl) (fun _ _ _ h=>h) (Or.inl ⟨by rfl,fun wS hS=>(by subst hS;go_simp)⟩) hH ?_
      simp only [Act.put,zA,zB,zC]
      refine wpAnyH_take (i:=15) (oi:=⟨some 78,.move (.tmp 77),_,_,_,some (12,false)⟩) (v:=.bool true) rfl (by kernel_rfl) (by kernel_rfl) (by kernel_rfl) (fun _ _ _ h=>h) (Or.inl ⟨by rfl,fun wS hS=>by rfl⟩) hH ?_
      simp only [Act.put,zA,zB,zC]
      refine wpAnyH_take (i:=16) (oi:=⟨some 79,.fieldAddr 59 (.tmp 5) 0,_,_,_,some (15,true)⟩) (v:=.pointer (some ⟨kx,0,none⟩)) rfl (by kernel_rfl) (by kernel_rfl) (by kernel_rfl) (fun _ _ _ h=>h) (Or.inl ⟨by rfl,fun wS hS=>(by subst hS;go_simp)⟩) hH ?_
      simp only [Act.put,zA,zB,zC]
      refine wpAnyH_take (i:=17) (oi:=⟨some 80,.load 3 (.tmp 79),_,_,_,some (15,true)⟩) (v:=.int .i64 s1) rfl (by kernel_rfl) (by kernel_rfl) (by kernel_rfl) (fun _ _ _ h=>h) (Or.inl ⟨by rfl,fun wS hS=>(by subst hS;go_simp)⟩) hH ?_
      simp only [Act.put,zA,zB,zC]
      refine wpAnyH_take (i:=18) (oi:=⟨some 81,.fieldAddr 26 (.tmp 1) 2,_,_,_,some (15,true)⟩) (v:=.pointer (some ⟨k0,2,none⟩)) rfl (by kernel_rfl) (by kernel_rfl) (by kernel_rfl) (fun _ _ _ h=>h) (Or.inl ⟨by rfl,fun wS hS=>(by subst hS;go_simp)⟩) hH ?_
      simp only [Act.put,zA,zB,zC]
      refine wpAnyH_take (i:=19) (oi:=⟨some 82,.load 24 (.tmp 81),_,_,_,some (15,true)⟩) (v:=.slice (some ⟨bb,of,none⟩) n3 c3) rfl (by kernel_rfl) (by kernel_rfl) (by kernel_rfl) (fun _ _ _ h=>h) (Or.inl ⟨by rfl,fun wS hS=>(by subst hS;go_simp)⟩) hH ?_
      simp only [Act.put,zA,zB,zC]
      refine wpAnyH_take (i:=20) (oi:=⟨some 83,.move (.tmp 4),_,_,_,some (15,true)⟩) (v:=.int .i64 ((I+1:Nat):Int)) rfl (by kernel_rfl) (by kernel_rfl) (by kernel_rfl) (fun _ _ _ h=>h) (Or.inl ⟨by rfl,fun wS hS=>by rfl⟩) hH ?_
      simp only [Act.put,zA,zB,zC]
      refine wpAnyH_take (i:=21) (oi:=⟨some 84,.binOp .sub 3 (.tmp 83) (.const (.int .i64 1)) 3,_,_,_,some (15,true)⟩) (v:=.int .i64 (I:Int)) rfl (by kernel_rfl) (by kernel_rfl) (by kernel_rfl) (fun _ _ _ h=>h) (Or.inl ⟨by rfl,fun wS hS=>(by subst hS;go_simp)⟩) hH ?_
      simp only [Act.put,zA,zB,zC]
      refine wpAnyH_take (i:=22) (oi:=⟨some 85,.indexAddr 24 (.tmp 82) (.tmp 84),_,_,_,some (15,true)⟩) (v:=.pointer (some ⟨bb,of+I*2,none⟩)) rfl (by kernel_rfl) (by kernel_rfl) (by kernel_rfl) (fun _ _ _ h=>h) (Or.inl ⟨by rfl,fun wS hS=>(by subst hS;go_simp)⟩) hH ?_
      simp only [Act.put,zA,zB,zC]
      refine wpAnyH_take (i:=23) (oi:=⟨some 86,.fieldAddr 59 (.tmp 85) 0,_,_,_,some (15,true)⟩) (v:=.pointer (some ⟨bb,of+I*2,none⟩)) rfl (by kernel_rfl) (by kernel_rfl) (by kernel_rfl) (fun _ _ _ h=>h) (Or.inl ⟨by rfl,fun wS hS=>(by subst hS;go_simp)⟩) hH ?_
      simp only [Act.put,zA,zB,zC]
      refine wpAnyH_take (i:=24) (oi:=⟨some 87,.load 3 (.tmp 86),_,_,_,some (15,true)⟩) (v:=.int .i64 la) rfl (by kernel_rfl) (by kernel_rfl) (by kernel_rfl) (fun _ _ _ h=>h) (Or.inl ⟨by rfl,fun wS hS=>(by subst hS;go_simp)⟩) hH ?_
      simp only [Act.put,zA,zB,zC]
      by_cases g5:s1≤la
      ·obtain rfl:=HBAD.out (by omega)
       refine wpAnyH_take (i:=25) (oi:=⟨some 88,.binOp .leq 3 (.tmp 80) (.tmp 87) 3,_,_,_,some (15,true)⟩) (v:=.bool true) rfl (by kernel_rfl) (by kernel_rfl) (by kernel_rfl) (fun _ _ _ h=>h) (Or.inl ⟨by rfl,fun wS hS=>(by subst hS;go_simp)⟩) hH ?_
       simp only [Act.put,zA,zB,zC]
       refine wpAnyH_take (i:=26) (oi:=⟨some 89,.pick (.tmp 78) (.tmp 88) (.const (.bool false)),_,_,_,some (12,false)⟩) (v:=.bool true) rfl (by kernel_rfl) (by kernel_rfl) (by kernel_rfl) (fun _ _ _ h=>h) (Or.inl ⟨by rfl,fun wS hS=>by rfl⟩) hH ?_
       simp only [Act.put,zA,zB,zC]
       refine wpAnyH_take (i:=27) (oi:=⟨some 90,.pick (.tmp 75) (.const (.bool true)) (.tmp 89),_,_,_,none⟩) (v:=.bool true) rfl (by kernel_rfl) (by kernel_rfl) (by kernel_rfl) (fun _ _ _ h=>h) (Or.inl ⟨by rfl,fun wS hS=>by rfl⟩) hH ?_
       simp only [Act.put,zA,zB,zC]
       refine wpAnyH_take (i:=28) (oi:=⟨some 91,.move (.tmp 90),_,_,_,none⟩) (v:=.bool true) rfl (by kernel_rfl) (by kernel_rfl) (by kernel_rfl) (fun _ _ _ h=>h) (Or.inl ⟨by rfl,fun wS hS=>by rfl⟩) hH ?_
       simp only [Act.put,zA,zB,zC]
       refine wpAnyH_take (i:=29) (oi:=⟨some 92,.fieldAddr 59 (.tmp 5) 1,_,_,_,some (28,false)⟩) (v:=undef) rfl (by kernel_rfl) (by kernel_rfl) (by kernel_rfl) (fun _ _ _ h=>h) (Or.inr ⟨by rfl,rfl⟩) hH ?_
       simp only [Act.put,zA,zB,zC]
       refine wpAnyH_take (i:=30) (oi:=⟨some 93,.load 3 (.tmp 92),_,_,_,some (28,false)⟩) (v:=undef) rfl (by kernel_rfl) (by kernel_rfl) (by kernel_rfl) (fun _ _ _ h=>h) (Or.inr ⟨by rfl,rfl⟩) hH ?_
       simp only [Act.put,zA,zB,zC]
       refine wpAnyH_take (i:=31) (oi:=⟨some 94,.binOp .lss 3 (.tmp 93) (.const (.int .i64 0)) 3,_,_,_,some (28,false)⟩) (v:=undef) rfl (by kernel_rfl) (by kernel_rfl) (by kernel_rfl) (fun _ _ _ h=>h) (Or.inr ⟨by rfl,rfl⟩) hH ?_
       simp only [Act.put,zA,zB,zC]
       refine wpAnyH_take (i:=32) (oi:=⟨some 95,.pick (.tmp 91) (.const (.bool true)) (.tmp 94),_,_,_,none⟩) (v:=.bool true) rfl (by kernel_rfl) (by kernel_rfl) (by kernel_rfl) (fun _ _ _ h=>h) (Or.inl ⟨by rfl,fun wS hS=>by rfl⟩) hH ?_
       simp only [Act.put,zA,zB,zC]
       refine wpAnyH_take (i:=33) (oi:=⟨some 96,.move (.tmp 95),_,_,_,none⟩) (v:=.bool true) rfl (by kernel_rfl) (by kernel_rfl) (by kernel_rfl) (fun _ _ _ h=>h) (Or.inl ⟨by rfl,fun wS hS=>by rfl⟩) hH ?_
       simp only [Act.put,zA,zB,zC]
       refine wpAnyH_take (i:=34) (oi:=⟨some 97,.fieldAddr 59 (.tmp 5) 1,_,_,_,some (33,false)⟩) (v:=undef) rfl (by kernel_rfl) (by kernel_rfl) (by kernel_rfl) (fun _ _ _ h=>h) (Or.inr ⟨by rfl,rfl⟩) hH ?_
       simp only [Act.put,zA,zB,zC]
       refine wpAnyH_take (i:=35) (oi:=⟨some 98,.load 3 (.tmp 97),_,_,_,some (33,false)⟩) (v:=undef) rfl (by kernel_rfl) (by kernel_rfl) (by kernel_rfl) (fun _ _ _ h=>h) (Or.inr ⟨by rfl,rfl⟩) hH ?_
       simp only [Act.put,zA,zB,zC]
       refine wpAnyH_take (i:=36) (oi:=⟨some 99,.fieldAddr 26 (.tmp 1) 0,_,_,_,some (33,false)⟩) (v:=undef) rfl (by kernel_rfl) (by kernel_rfl) (by kernel_rfl) (fun _ _ _ h=>h) (Or.inr ⟨by rfl,rfl⟩) hH ?_
       simp only [Act.put,zA,zB,zC]
       refine wpAnyH_take (i:=37) (oi:=⟨some 100,.load 22 (.tmp 99),_,_,_,some (33,false)⟩) (v:=undef) rfl (by kernel_rfl) (by kernel_rfl) (by kernel_rfl) (fun _ _ _ h=>h) (Or.inr ⟨by rfl,rfl⟩) hH ?_
       simp only [Act.put,zA,zB,zC]
       refine wpAnyH_take (i:=38) (oi:=⟨some 101,.call ⟨.builtin .len,#[.tmp 100],#[22]⟩,_,_,_,some (33,false)⟩) (v:=undef) rfl (by kernel_rfl) (by kernel_rfl) (by kernel_rfl) (fun _ _ _ h=>h) (Or.inr ⟨by rfl,rfl⟩) hH ?_
       simp only [Act.put,zA,zB,zC]
       refine wpAnyH_take (i:=39) (oi:=⟨some 102,.binOp .geq 3 (.tmp 98) (.tmp 101) 3,_,_,_,some (33,false)⟩) (v:=undef) rfl (by kernel_rfl) (by kernel_rfl) (by kernel_rfl) (fun _ _ _ h=>h) (Or.inr ⟨by rfl,rfl⟩) hH ?_
       simp only [Act.put,zA,zB,zC]
       refine wpAnyH_take (i:=40) (oi:=⟨some 103,.pick (.tmp 96) (.const (.bool true)) (.tmp 102),_,_,_,none⟩) (v:=.bool true) rfl (by kernel_rfl) (by kernel_rfl) (by kernel_rfl) (fun _ _ _ h=>h) (Or.inl ⟨by rfl,fun wS hS=>by rfl⟩) hH ?_
       simp only [Act.put,zA,zB,zC]
       refine wpAnyH_done (by kernel_rfl) ?_ _
       go_wp2
       go_ret
       exact⟨rfl,(bch HB0.out HBN.out).drew⟩
      refine wpAnyH_take (i:=25) (oi:=⟨some 88,.binOp .leq 3 (.tmp 80) (.tmp 87) 3,_,_,_,some (15,true)⟩) (v:=.bool false) rfl (by kernel_rfl) (by kernel_rfl) (by kernel_rfl) (fun _ _ _ h=>h) (Or.inl ⟨by rfl,fun wS hS=>(by subst hS;go_simp)⟩) hH ?_
      simp only [Act.put,zA,zB,zC]
      refine wpAnyH_take (i:=26) (oi:=⟨some 89,.pick (.tmp 78) (.tmp 88) (.const (.bool false)),_,_,_,some (12,false)⟩) (v:=.bool false) rfl (by kernel_rfl) (by kernel_rfl) (by kernel_rfl) (fun _ _ _ h=>h) (Or.inl ⟨by rfl,fun wS hS=>by rfl⟩) hH ?_
      simp only [Act.put,zA,zB,zC]
      refine wpAnyH_take (i:=27) (oi:=⟨some 90,.pick (.tmp 75) (.const (.bool true)) (.tmp 89),_,_,_,none⟩) (v:=.bool false) rfl (by kernel_rfl) (by kernel_rfl) (by kernel_rfl) (fun _ _ _ h=>h) (Or.inl ⟨by rfl,fun wS hS=>by rfl⟩) hH ?_
      simp only [Act.put,zA,zB,zC]
      refine wpAnyH_take (i:=28) (oi:=⟨some 91,.move (.tmp 90),_,_,_,none⟩) (v:=.bool false) rfl (by kernel_rfl) (by kernel_rfl) (by kernel_rfl) (fun _ _ _ h=>h) (Or.inl ⟨by rfl,fun wS hS=>by rfl⟩) hH ?_
      simp only [Act.put,zA,zB,zC]
      refine wpAnyH_take (i:=29) (oi:=⟨some 92,.fieldAddr 59 (.tmp 5) 1,_,_,_,some (28,false)⟩) (v:=.pointer (some ⟨kx,1,none⟩)) rfl (by kernel_rfl) (by kernel_rfl) (by kernel_rfl) (fun _ _ _ h=>h) (Or.inl ⟨by rfl,fun wS hS=>(by subst hS;go_simp)⟩) hH ?_
      simp only [Act.put,zA,zB,zC]
      refine wpAnyH_take (i:=30) (oi:=⟨some 93,.load 3 (.tmp 92),_,_,_,some (28,false)⟩) (v:=.int .i64 s2) rfl (by kernel_rfl) (by kernel_rfl) (by kernel_rfl) (fun _ _ _ h=>h) (Or.inl ⟨by rfl,fun wS hS=>(by subst hS;go_simp)⟩) hH ?_
      simp only [Act.put,zA,zB,zC]
      by_cases g3:s2<0
      ·obtain rfl:=HBAD.out (by omega)
       refine wpAnyH_take (i:=31) (oi:=⟨some 94,.binOp .lss 3 (.tmp 93) (.const (.int .i64 0)) 3,_,_,_,some (28,false)⟩) (v:=.bool true) rfl (by kernel_rfl) (by kernel_rfl) (by kernel_rfl) (fun _ _ _ h=>h) (Or.inl ⟨by rfl,fun wS hS=>(by subst hS;go_simp)⟩) hH ?_
       simp only [Act.put,zA,zB,zC]
       refine wpAnyH_take (i:=32) (oi:=⟨some 95,.pick (.tmp 91) (.const (.bool true)) (.tmp 94),_,_,_,none⟩) (v:=.bool true) rfl (by kernel_rfl) (by kernel_rfl) (by kernel_rfl) (fun _ _ _ h=>h) (Or.inl ⟨by rfl,fun wS hS=>by rfl⟩) hH ?_
       simp only [Act.put,zA,zB,zC]
       refine wpAnyH_take (i:=33) (oi:=⟨some 96,.move (.tmp 95),_,_,_,none⟩) (v:=.bool true) rfl (by kernel_rfl) (by kernel_rfl) (by kernel_rfl) (fun _ _ _ h=>h) (Or.inl ⟨by rfl,fun wS hS=>by rfl⟩) hH ?_
       simp only [Act.put,zA,zB,zC]
       refine wpAnyH_take (i:=34) (oi:=⟨some 97,.fieldAddr 59 (.tmp 5) 1,_,_,_,some (33,false)⟩) (v:=undef) rfl (by kernel_rfl) (by kernel_rfl) (by kernel_rfl) (fun _ _ _ h=>h) (Or.inr ⟨by rfl,rfl⟩) hH ?_
       simp only [Act.put,zA,zB,zC]
       refine wpAnyH_take (i:=35) (oi:=⟨some 98,.load 3 (.tmp 97),_,_,_,some (33,false)⟩) (v:=undef) rfl (by kernel_rfl) (by kernel_rfl) (by kernel_rfl) (fun _ _ _ h=>h) (Or.inr ⟨by rfl,rfl⟩) hH ?_
       simp only [Act.put,zA,zB,zC]
       refine wpAnyH_take (i:=36) (oi:=⟨some 99,.fieldAddr 26 (.tmp 1) 0,_,_,_,some (33,false)⟩) (v:=undef) rfl (by kernel_rfl) (by kernel_rfl) (by kernel_rfl) (fun _ _ _ h=>h) (Or.inr ⟨by rfl,rfl⟩) hH ?_
       simp only [Act.put,zA,zB,zC]
       refine wpAnyH_take (i:=37) (oi:=⟨some 100,.load 22 (.tmp 99),_,_,_,some (33,false)⟩) (v:=undef) rfl (by kernel_rfl) (by kernel_rfl) (by kernel_rfl) (fun _ _ _ h=>h) (Or.inr ⟨by rfl,rfl⟩) hH ?_
       simp only [Act.put,zA,zB,zC]
       refine wpAnyH_take (i:=38) (oi:=⟨some 101,.call ⟨.builtin .len,#[.tmp 100],#[22]⟩,_,_,_,some (33,false)⟩) (v:=undef) rfl (by kernel_rfl) (by kernel_rfl) (by kernel_rfl) (fun _ _ _ h=>h) (Or.inr ⟨by rfl,rfl⟩) hH ?_
       simp only [Act.put,zA,zB,zC]
       refine wpAnyH_take (i:=39) (oi:=⟨some 102,.binOp .geq 3 (.tmp 98) (.tmp 101) 3,_,_,_,some (33,false)⟩) (v:=undef) rfl (by kernel_rfl) (by kernel_rfl) (by kernel_rfl) (fun _ _ _ h=>h) (Or.inr ⟨by rfl,rfl⟩) hH ?_
       simp only [Act.put,zA,zB,zC]
       refine wpAnyH_take (i:=40) (oi:=⟨some 103,.pick (.tmp 96) (.const (.bool true)) (.tmp 102),_,_,_,none⟩) (v:=.bool true) rfl (by kernel_rfl) (by kernel_rfl) (by kernel_rfl) (fun _ _ _ h=>h) (Or.inl ⟨by rfl,fun wS hS=>by rfl⟩) hH ?_
       simp only [Act.put,zA,zB,zC]
       refine wpAnyH_done (by kernel_rfl) ?_ _
       go_wp2
       go_ret
       exact⟨rfl,(bch HB0.out HBN.out).drew⟩
      refine wpAnyH_take (i:=31) (oi:=⟨some 94,.binOp .lss 3 (.tmp 93) (.const (.int .i64 0)) 3,_,_,_,some (28,false)⟩) (v:=.bool false) rfl (by kernel_rfl) (by kernel_rfl) (by kernel_rfl) (fun _ _ _ h=>h) (Or.inl ⟨by rfl,fun wS hS=>(by subst hS;go_simp)⟩) hH ?_
      simp only [Act.put,zA,zB,zC]
      refine wpAnyH_take (i:=32) (oi:=⟨some 95,.pick (.tmp 91) (.const (.bool true)) (.tmp 94),_,_,_,none⟩) (v:=.bool false) rfl (by kernel_rfl) (by kernel_rfl) (by kernel_rfl) (fun _ _ _ h=>h) (Or.inl ⟨by rfl,fun wS hS=>by rfl⟩) hH ?_
      simp only [Act.put,zA,zB,zC]
      refine wpAnyH_take (i:=33) (oi:=⟨some 96,.move (.tmp 95),_,_,_,none⟩) (v:=.bool false) rfl (by kernel_rfl) (by kernel_rfl) (by kernel_rfl) (fun _ _ _ h=>h) (Or.inl ⟨by rfl,fun wS hS=>by rfl⟩) hH ?_
      simp only [Act.put,zA,zB,zC]
      refine wpAnyH_take (i:=34) (oi:=⟨some 97,.fieldAddr 59 (.tmp 5) 1,_,_,_,some (33,false)⟩) (v:=.pointer (some ⟨kx,1,none⟩)) rfl (by kernel_rfl) (by kernel_rfl) (by kernel_rfl) (fun _ _ _ h=>h) (Or.inl ⟨by rfl,fun wS hS=>(by subst hS;go_simp)⟩) hH ?_
      simp only [Act.put,zA,zB,zC]
      refine wpAnyH_take (i:=35) (oi:=⟨some 98,.load 3 (.tmp 97),_,_,_,some (33,false)⟩) (v:=.int .i64 s2) rfl (by kernel_rfl) (by kernel_rfl) (by kernel_rfl) (fun _ _ _ h=>h) (Or.inl ⟨by rfl,fun wS hS=>(by subst hS;go_simp)⟩) hH ?_
      simp only [Act.put,zA,zB,zC]
      refine wpAnyH_take (i:=36) (oi:=⟨some 99,.fieldAddr 26 (.tmp 1) 0,_,_,_,some (33,false)⟩) (v:=.pointer (some ⟨k0,0,none⟩)) rfl (by kernel_rfl) (by kernel_rfl) (by kernel_rfl) (fun _ _ _ h=>h) (Or.inl ⟨by rfl,fun wS hS=>(by subst hS;go_simp)⟩) hH ?_
      simp only [Act.put,zA,zB,zC]
      refine wpAnyH_take (i:=37) (oi:=⟨some 100,.load 22 (.tmp 99),_,_,_,some (33,false)⟩) (v:=.slice a1 j c1) rfl (by kernel_rfl) (by kernel_rfl) (by kernel_rfl) (fun _ _ _ h=>h) (Or.inl ⟨by rfl,fun wS hS=>(by subst hS;go_simp)⟩) hH ?_
      simp only [Act.put,zA,zB,zC]
      refine wpAnyH_take (i:=38) (oi:=⟨some 101,.call ⟨.builtin .len,#[.tmp 100],#[22]⟩,_,_,_,some (33,false)⟩) (v:=.int .i64 (j:Int)) rfl (by kernel_rfl) (by kernel_rfl) (by kernel_rfl) (fun _ _ _ h=>h) (Or.inl ⟨by rfl,fun wS hS=>(by subst hS;go_simp)⟩) hH ?_
      simp only [Act.put,zA,zB,zC]
      by_cases g4:(j:Int)≤s2
      ·obtain rfl:=HBAD.out (by omega)
       refine wpAnyH_take (i:=39) (oi:=⟨some 102,.binOp .geq 3 (.tmp 98) (.tmp 101) 3,_,_,_,some (33,false)⟩) (v:=.bool true) rfl (by kernel_rfl) (by kernel_rfl) (by kernel_rfl) (fun _ _ _ h=>h) (Or.inl ⟨by rfl,fun wS hS=>(by subst hS;go_simp)⟩) hH ?_
       simp only [Act.put,zA,zB,zC]
       refine wpAnyH_take (i:=40) (oi:=⟨some 103,.pick (.tmp 96) (.const (.bool true)) (.tmp 102),_,_,_,none⟩) (v:=.bool true) rfl (by kernel_rfl) (by kernel_rfl) (by kernel_rfl) (fun _ _ _ h=>h) (Or.inl ⟨by rfl,fun wS hS=>by rfl⟩) hH ?_
       simp only [Act.put,zA,zB,zC]
       refine wpAnyH_done (by kernel_rfl) ?_ _
       go_wp2
       go_ret
       exact⟨rfl,(bch HB0.out HBN.out).drew⟩
      refine wpAnyH_take (i:=39) (oi:=⟨some 102,.binOp .geq 3 (.tmp 98) (.tmp 101) 3,_,_,_,some (33,false)⟩) (v:=.bool false) rfl (by kernel_rfl) (by kernel_rfl) (by kernel_rfl) (fun _ _ _ h=>h) (Or.inl ⟨by rfl,fun wS hS=>(by subst hS;go_simp)⟩) hH ?_
      simp only [Act.put,zA,zB,zC]
      refine wpAnyH_take (i:=40) (oi:=⟨some 103,.pick (.tmp 96) (.const (.bool true)) (.tmp 102),_,_,_,none⟩) (v:=.bool false) rfl (by kernel_rfl) (by kernel_rfl) (by kernel_rfl) (fun _ _ _ h=>h) (Or.inl ⟨by rfl,fun wS hS=>by rfl⟩) hH ?_
      simp only [Act.put,zA,zB,zC]
      refine wpAnyH_done (by kernel_rfl) ?_ _
      have HN2:=Lib.hid (show rlF s1 S j (o.rels.drop (I+1+1))=B by
       rw [HST.out]
       simp [show la<s1 by omega,show s1<(S:Int) by omega,show 0≤s2 by omega,show s2<(j:Int) by omega])
      clear HST HBAD
      go_wp2
      go_roundw
      case rel=>exact⟨I+1+1,s1,hlt2,by go_num,Lib.hid ⟨HN2.out,(bch HB1.out HBN.out).drew⟩,Lib.hid (.inr ⟨_,rfl,by omega,HGD.out⟩)⟩
      case measure=>simp [intOf];omega
    ·obtain rfl:i=n3:=by omega
     have hl:=hI.out.1
     rw [List.drop_of_length_le (by rw [HN.out.2.2];exact Nat.le_refl _)] at hl
     have hr0:R=0:=by
      have h1:=HRR.out
      rw [← hl] at h1
      rw [← h1];rfl
     subst hr0
     have HB0:=Lib.hid hB
     clear hI hB hl hLa
     go_wp2
     go_ret
     exact⟨rfl,HB0.out⟩
end Go.Proofs.YtohkgdfkklfgmaaGreatDoor.L16
end
