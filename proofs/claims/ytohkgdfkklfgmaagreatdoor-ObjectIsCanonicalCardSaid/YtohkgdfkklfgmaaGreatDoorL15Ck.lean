/- What check of the program and Check of the reference return. Conditions: memory holds the sections, which are no more than 100000 of no more than 1000000 bytes each. -/
import Derived.Test.YtohkgdfkklfgmaaGreatDoorL1Base
import Derived.Test.YtohkgdfkklfgmaaGreatDoorM43
import Derived.Deep.RegionHeld3
set_option maxRecDepth 100000
set_option maxHeartbeats 4000000
namespace Go.Proofs.YtohkgdfkklfgmaaGreatDoor.L15
set_option maxRecDepth 100000
open Go.RowKit L14
attribute [local go_sem] Oper.semAt_some
theorem asc_cons (k:Int) (s:Sc) (r:List Sc):asc k (s::r)=(decide (k<s.1) && decide (s.1≤65535) && asc s.1 r):=rfl
theorem check_at (v:Value) (l:List Sc) (R:Int) (w:World) (hv:Ss w v l) (hs:Sml l) (hR:chkV l=R) :
  Calls Tryz.prog 41 #[v] w fun e w'=>e=.returned (.int .i64 R)∧Below w.heap.size w w':=by
 obtain⟨S,hS⟩:∃ S,szL l=S:=⟨_,rfl⟩
 have HZ:=Lib.hid (size_at v l S w hv hs hS)
 obtain⟨n,hn⟩:∃ n,l.length=n:=⟨_,rfl⟩
 obtain⟨a,c,rfl,-,-,hc⟩:=hv.form hn
 have hnl:=hs.n
 rw [hn] at hnl
 unfold chkV at hR
 rw [hS,hn] at hR
 by_cases h1:16<n
 ·rw [if_pos (.inl h1)] at hR
  have h1':(16:Int)<(n:Int):=by omega
  subst hR
  clear hc hS hn h1 hv
  go_enter Tryz.func41,Tryz.ntmps41
  go_wp2
  go_ret
  exact⟨rfl,Below.refl _ _⟩
 have h1':¬ (16:Int)<(n:Int):=by omega
 by_cases h2:1073741824<S
 ·rw [if_pos (.inr h2)] at hR
  have h2':(1073741824:Int)<(S:Int):=by omega
  subst hR
  clear hc hS hn h1 h2 hv
  go_enter Tryz.func41,Tryz.ntmps41
  go_wp2_with (go_at_call 31;((with_reducible refine (HZ.out).mono ?_);rintro e w1 ⟨rfl,b1⟩))
  go_ret
  exact⟨rfl,b1⟩
 have h2':¬ (1073741824:Int)<(S:Int):=by omega
 rw [if_neg (by omega)] at hR
 have HC:=Lib.hid hc
 have HN:=Lib.hid hn
 have HR:Hid ((if asc 0 (l.drop 0)=true then (0:Int) else 4)=R):=Lib.hid (by simpa using hR)
 clear hc hS hn h1 h2 hv hR hs
 go_enter Tryz.func41,Tryz.ntmps41
 go_wp2_with (go_at_call 31;((with_reducible refine (HZ.out).mono ?_);rintro e w1 ⟨rfl,b1⟩))
 have HB1:=Lib.hid b1
 clear b1
 go_loopw [3,5,16] (fun s _ q wr=>∃ j:Nat,j≤n∧q=.int .i64 (j:Int)∧∃ K:Int,s=.int .i64 K∧Below w.heap.size w wr∧Hid ((if asc K (l.drop j)=true then (0:Int) else 4)=R)) (fun _ _ q _=>n-(intOf q).toNat)
 case atStart=>exact⟨0,Nat.zero_le _,rfl,0,rfl,HB1.out,HR⟩
 case round =>
  obtain⟨j,hj,rfl,K,rfl,hB,hA⟩:=hrel
  clear HR
  by_cases hlt:j<n
  ·have hjl:j<l.length:=by rw [HN.out];exact hlt
   obtain⟨b,o,rfl,hbl,hcc⟩:=HC.out (by omega)
   obtain⟨x0,dv,x1,hr⟩:=hcc j hjl
   obtain⟨m,hm⟩:∃ m,l[j].2.length=m:=⟨_,rfl⟩
   obtain⟨da,dc,rfl,-⟩:=hr.form hm
   have y0:=(hB.cell (p:=⟨b,o+j*2,none⟩) (by exact hbl)).trans x0
   have y1:=(hB.cell (p:=⟨b,o+j*2+1,none⟩) (by exact hbl)).trans x1
   have hE:=hA.out
   rw [List.drop_eq_getElem_cons hjl,asc_cons] at hE
   obtain⟨kk,hkk⟩:∃ kk,l[j].1=kk:=⟨_,rfl⟩
   rw [hkk] at y0 hE
   have hsz:=hB.size
   clear hcc x0 x1 hr hm hkk hA
   by_cases k1:K<kk
   ·by_cases k2:kk≤65535
    ·have HE:Hid ((if asc kk (l.drop (j+1))=true then (0:Int) else 4)=R):=Lib.hid (by simpa [k1,k2] using hE)
     have k1':¬ kk≤K:=by omega
     have k2':¬ (65535:Int)<kk:=by omega
     clear hE k1 k2
     go_wp2
     go_roundw
     case rel=>exact⟨j+1,hlt,by go_num,kk,rfl,bch hB (bnew _ _),HE⟩
     case measure=>simp [intOf];omega
    ·have hRR:(4:Int)=R:=by simpa [k1,k2] using hE
     have k1':¬ kk≤K:=by omega
     have k2':(65535:Int)<kk:=by omega
     subst hRR
     clear hE k1 k2
     go_wp2
     go_ret
     exact⟨rfl,bch hB (bnew _ _)⟩
   ·have hRR:(4:Int)=R:=by simpa [k1] using hE
    have k1':kk≤K:=by omega
    subst hRR
    clear hE k1
    go_wp2
    go_ret
    exact⟨rfl,bch hB (bnew _ _)⟩
  ·obtain rfl:j=n:=by omega
   have hE:=hA.out
   rw [List.drop_eq_nil_of_le (by rw [HN.out];exact Nat.le_refl _)] at hE
   have hRR:(0:Int)=R:=by simpa [asc] using hE
   subst hRR
   clear hE hA
   go_wp2
   go_ret
   exact⟨rfl,hB⟩
theorem rsize_at (v:Value) (l:List Sc) (S:Nat) (w:World) (hv:Ss w v l) (hs:Sml l) (hS:szL l=S) :
  Calls Tryz.prog 65 #[v] w fun e w'=>e=.returned (.int .i64 (S:Int))∧w=w':=by
 obtain⟨n,hn⟩:∃ n,l.length=n:=⟨_,rfl⟩
 obtain⟨a,c,rfl,-,-,hc⟩:=hv.form hn
 have hnl:=hs.n
 have htt:=hs.tot
 have hhd:=hs.hd
 rw [hn] at hnl hhd
 obtain⟨H,hH⟩:∃ H,hd n=H:=⟨_,rfl⟩
 rw [hH] at hhd
 have hD:=fun w=>rup_at (16+12*n) H w (by omega) hH
 have e1:((16+12*n:Nat):Int)=16+12*(n:Int):=by omega
 rw [e1] at hD
 have HD:=Lib.hid hD
 have HC:=Lib.hid hc
 have HN:=Lib.hid hn
 have HS:=Lib.hid (show H+tot (l.take n)=S by rw [← hS,← hH,← hn,List.take_length];rfl)
 have HT:=Lib.hid htt
 have HM:=Lib.hid hs.d
 clear hn hc hv hs htt hH hS hD e1
 go_enter Tryz.func65,Tryz.ntmps65
 go_wp2_with (go_at_call 66;((with_reducible refine (HD.out _).mono ?_);rintro e w1 ⟨rfl,rfl⟩))
 go_loop [3,4] (fun s q=>∃ j:Nat,j≤n∧q=.int .i64 (j:Int)∧s=.int .i64 ((H+tot (l.take j):Nat):Int)) (fun _ q=>n-(intOf q).toNat)
 case atStart=>exact⟨0,Nat.zero_le _,rfl,by simp [tot]⟩
 case round =>
  obtain⟨j,hj,rfl,rfl⟩:=hrel
  by_cases hlt:j<n
  ·have hjl:j<l.length:=by rw [HN.out];exact hlt
   obtain⟨b,o,rfl,hbl,hcc⟩:=HC.out (by omega)
   obtain⟨x0,dv,x1,hr⟩:=hcc j hjl
   obtain⟨m,hm⟩:∃ m,l[j].2.length=m:=⟨_,rfl⟩
   obtain⟨da,dc,rfl,-⟩:=hr.form hm
   have hml:=HM.out _ (List.getElem_mem hjl)
   have hst:=tot_step l j hjl
   have hle:=tot_le l (j+1)
   have htt:=HT.out
   rw [hm] at hml hst
   obtain⟨u,hu⟩:∃ u,up m=u:=⟨_,rfl⟩
   have HP:=Lib.hid (fun w=>rup_at m u w (by omega) hu)
   rw [hu] at hst
   obtain⟨t,ht⟩:∃ t,tot (l.take j)=t:=⟨_,rfl⟩
   rw [ht] at hst ⊢
   have HST:=Lib.hid hst
   have hbd:t+u≤100001000000:=by omega
   clear hcc x0 hr hm hst hle htt hu ht
   go_wp2_with (go_at_call 66;((with_reducible refine (HP.out _).mono ?_);rintro e w2 ⟨rfl,rfl⟩))
   go_round
   case rel=>exact⟨j+1,hlt,by go_num,by rw [HST.out];go_num⟩
   case measure=>simp [intOf];omega
  ·obtain rfl:j=n:=by omega
   go_wp2
   go_ret
   exact⟨congrArg (fun (z:Nat)=>Ending.returned (.int .i64 (z:Int))) HS.out,rfl⟩
theorem rcheck_at (v:Value) (l:List Sc) (R:Int) (w:World) (hv:Ss w v l) (hs:Sml l) (hR:chkV l=R) :
  Calls Tryz.prog 71 #[v] w fun e w'=>e=.returned (.int .i64 R)∧∃ m,w'=w.drewN m:=by
 obtain⟨S,hS⟩:∃ S,szL l=S:=⟨_,rfl⟩
 have HZ:=Lib.hid (rsize_at v l S w hv hs hS)
 obtain⟨n,hn⟩:∃ n,l.length=n:=⟨_,rfl⟩
 obtain⟨a,c,rfl,-,-,hc⟩:=hv.form hn
 have hnl:=hs.n
 rw [hn] at hnl
 unfold chkV at hR
 rw [hS,hn] at hR
 by_cases h1:16<n
 ·rw [if_pos (.inl h1)] at hR
  have h1':(16:Int)<(n:Int):=by omega
  subst hR
  clear hc hS hn h1 hv
  go_enter Tryz.func71,Tryz.ntmps71
  go_wp2
  go_ret
  exact⟨rfl,0,rfl⟩
 have h1':¬ (16:Int)<(n:Int):=by omega
 by_cases h2:1073741824<S
 ·rw [if_pos (.inr h2)] at hR
  have h2':(1073741824:Int)<(S:Int):=by omega
  subst hR
  clear hc hS hn h1 h2 hv
  go_enter Tryz.func71,Tryz.ntmps71
  go_wp2_with (go_at_call 65;((with_reducible refine (HZ.out).mono ?_);rintro e w1 ⟨rfl,rfl⟩))
  go_ret
  exact⟨rfl,0,rfl⟩
 have h2':¬ (1073741824:Int)<(S:Int):=by omega
 rw [if_neg (by omega)] at hR
 have HC:=Lib.hid hc
 have HN:=Lib.hid hn
 have HR:Hid ((if asc 0 (l.drop 0)=true then (0:Int) else 4)=R):=Lib.hid (by simpa using hR)
 clear hc hS hn h1 h2 hv hR hs
 go_enter Tryz.func71,Tryz.ntmps71
 go_wp2_with (go_at_call 65;((with_reducible refine (HZ.out).mono ?_);rintro e w1 ⟨rfl,rfl⟩))
 go_loopw [3] (fun q wr=>∃ (j q':Nat),j≤n∧q=.int .i64 (j:Int)∧wr=w.drewN q'∧Hid (∃ K:Int,((j=0∧K=0)∨(1≤K∧∃ h:j-1<l.length,0<j∧l[j-1].1=K))∧(if asc K (l.drop j)=true then (0:Int) else 4)=R)) (fun q _=>n-(intOf q).toNat)
 case atStart=>exact⟨0,0,Nat.zero_le _,rfl,rfl,Lib.hid ⟨0,.inl ⟨rfl,rfl⟩,HR.out⟩⟩
 case round =>
  obtain⟨j,q',hj,rfl,rfl,hA⟩:=hrel
  clear HR
  by_cases hlt:j<n
  ·have hjl:j<l.length:=by rw [HN.out];exact hlt
   obtain⟨b,o,rfl,hbl,hcc⟩:=HC.out (by omega)
   obtain⟨y0,-⟩:=hcc j hjl
   obtain⟨K,hK,hE⟩:=hA.out
   rw [List.drop_eq_getElem_cons hjl,asc_cons] at hE
   obtain⟨kk,hkk⟩:∃ kk,l[j].1=kk:=⟨_,rfl⟩
   rw [hkk] at y0 hE
   have hlt':(j:Int)<(n:Int):=by omega
   by_cases k0:kk<1
   ·have hRR:(4:Int)=R:=by
     have:¬ K<kk:=by rcases hK with ⟨_,rfl⟩|⟨h,_⟩ <;> omega
     simpa [this] using hE
    subst hRR
    clear hcc hA hE hK hkk
    go_wp2
    refine wp_region_held_drew (S:=fun W=>W=(w.drewN q').drew) (by kernel_rfl) rfl (fun hH=>?_)
    refine wpAnyH_take (i:=0) (oi:=⟨some 18,.move (.tmp 0),_,_,_,none⟩) (v:=.slice (some ⟨b,o,none⟩) n c) rfl (by kernel_rfl) (by kernel_rfl) (by kernel_rfl) (fun _ _ _ h=>h) (Or.inl ⟨by rfl,fun wS hS=>by rfl⟩) hH ?_
    simp only [Act.put,zA,zB,zC]
    refine wpAnyH_take (i:=1) (oi:=⟨some 19,.move (.tmp 3),_,_,_,none⟩) (v:=.int .i64 (j:Int)) rfl (by kernel_rfl) (by kernel_rfl) (by kernel_rfl) (fun _ _ _ h=>h) (Or.inl ⟨by rfl,fun wS hS=>by rfl⟩) hH ?_
    simp only [Act.put,zA,zB,zC]
    refine wpAnyH_take (i:=2) (oi:=⟨some 20,.indexAddr 76 (.tmp 18) (.tmp 19),_,_,_,none⟩) (v:=.pointer (some ⟨b,o+j*2,none⟩)) rfl (by kernel_rfl) (by kernel_rfl) (by kernel_rfl) (fun _ _ _ h=>h) (Or.inl ⟨by rfl,fun wS hS=>(by subst hS;go_simp)⟩) hH ?_
    simp only [Act.put,zA,zB,zC]
    refine wpAnyH_take (i:=3) (oi:=⟨some 21,.fieldAddr 75 (.tmp 20) 0,_,_,_,none⟩) (v:=.pointer (some ⟨b,o+j*2,none⟩)) rfl (by kernel_rfl) (by kernel_rfl) (by kernel_rfl) (fun _ _ _ h=>h) (Or.inl ⟨by rfl,fun wS hS=>(by subst hS;go_simp)⟩) hH ?_
    simp only [Act.put,zA,zB,zC]
    refine wpAnyH_take (i:=4) (oi:=⟨some 22,.load 3 (.tmp 21),_,_,_,none⟩) (v:=.int .i64 kk) rfl (by kernel_rfl) (by kernel_rfl) (by kernel_rfl) (fun _ _ _ h=>h) (Or.inl ⟨by rfl,fun wS hS=>(by subst hS;go_simp)⟩) hH ?_
    simp only [Act.put,zA,zB,zC]
    refine wpAnyH_take (i:=5) (oi:=⟨some 23,.binOp .lss 3 (.tmp 22) (.const (.int .i64 1)) 3,_,_,_,none⟩) (v:=.bool true) rfl (by kernel_rfl) (by kernel_rfl) (by kernel_rfl) (fun _ _ _ h=>h) (Or.inl ⟨by rfl,fun wS hS=>(by subst hS;go_simp)⟩) hH ?_
    simp only [Act.put,zA,zB,zC]
    refine wpAnyH_take (i:=6) (oi:=⟨some 24,.move (.tmp 23),_,_,_,none⟩) (v:=.bool true) rfl (by kernel_rfl) (by kernel_rfl) (by kernel_rfl) (fun _ _ _ h=>h) (Or.inl ⟨by rfl,fun wS hS=>by rfl⟩) hH ?_
    simp only [Act.put,zA,zB,zC]
    refine wpAnyH_take (i:=7) (oi:=⟨some 25,.move (.tmp 0),_,_,_,some (6,false)⟩) (v:=undef) rfl (by kernel_rfl) (by kernel_rfl) (by kernel_rfl) (fun _ _ _ h=>h) (Or.inr ⟨by rfl,rfl⟩) hH ?_
    simp only [Act.put,zA,zB,zC]
    refine wpAnyH_take (i:=8) (oi:=⟨some 26,.move (.tmp 3),_,_,_,some (6,false)⟩) (v:=undef) rfl (by kernel_rfl) (by kernel_rfl) (by kernel_rfl) (fun _ _ _ h=>h) (Or.inr ⟨by rfl,rfl⟩) hH ?_
    simp only [Act.put,zA,zB,zC]
    refine wpAnyH_take (i:=9) (oi:=⟨some 27,.indexAddr 76 (.tmp 25) (.tmp 26),_,_,_,some (6,false)⟩) (v:=undef) rfl (by kernel_rfl) (by kernel_rfl) (by kernel_rfl) (fun _ _ _ h=>h) (Or.inr ⟨by rfl,rfl⟩) hH ?_
    simp only [Act.put,zA,zB,zC]
    refine wpAnyH_take (i:=10) (oi:=⟨some 28,.fieldAddr 75 (.tmp 27) 0,_,_,_,some (6,false)⟩) (v:=undef) rfl (by kernel_rfl) (by kernel_rfl) (by kernel_rfl) (fun _ _ _ h=>h) (Or.inr ⟨by rfl,rfl⟩) hH ?_
    simp only [Act.put,zA,zB,zC]
    refine wpAnyH_take (i:=11) (oi:=⟨some 29,.load 3 (.tmp 28),_,_,_,some (6,false)⟩) (v:=undef) rfl (by kernel_rfl) (by kernel_rfl) (by kernel_rfl) (fun _ _ _ h=>h) (Or.inr ⟨by rfl,rfl⟩) hH ?_
    simp only [Act.put,zA,zB,zC]
    refine wpAnyH_take (i:=12) (oi:=⟨some 30,.binOp .gtr 3 (.tmp 29) (.const (.int .i64 65535)) 3,_,_,_,some (6,false)⟩) (v:=undef) rfl (by kernel_rfl) (by kernel_rfl) (by kernel_rfl) (fun _ _ _ h=>h) (Or.inr ⟨by rfl,rfl⟩) hH ?_
    simp only [Act.put,zA,zB,zC]
    refine wpAnyH_take (i:=13) (oi:=⟨some 31,.pick (.tmp 24) (.const (.bool true)) (.tmp 30),_,_,_,none⟩) (v:=.bool true) rfl (by kernel_rfl) (by kernel_rfl) (by kernel_rfl) (fun _ _ _ h=>h) (Or.inl ⟨by rfl,fun wS hS=>by rfl⟩) hH ?_
    simp only [Act.put,zA,zB,zC]
    refine wpAnyH_take (i:=14) (oi:=⟨some 32,.move (.tmp 31),_,_,_,none⟩) (v:=.bool true) rfl (by kernel_rfl) (by kernel_rfl) (by kernel_rfl) (fun _ _ _ h=>h) (Or.inl ⟨by rfl,fun wS hS=>by rfl⟩) hH ?_
    simp only [Act.put,zA,zB,zC]
    refine wpAnyH_take (i:=15) (oi:=⟨some 33,.move (.tmp 3),_,_,_,some (14,false)⟩) (v:=undef) rfl (by kernel_rfl) (by kernel_rfl) (by kernel_rfl) (fun _ _ _ h=>h) (Or.inr ⟨by rfl,rfl⟩) hH ?_
    simp only [Act.put,zA,zB,zC]
    refine wpAnyH_take (i:=16) (oi:=⟨some 34,.binOp .gtr 3 (.tmp 33) (.const (.int .i64 0)) 3,_,_,_,some (14,false)⟩) (v:=undef) rfl (by kernel_rfl) (by kernel_rfl) (by kernel_rfl) (fun _ _ _ h=>h) (Or.inr ⟨by rfl,rfl⟩) hH ?_
    simp only [Act.put,zA,zB,zC]
    refine wpAnyH_take (i:=17) (oi:=⟨some 35,.move (.tmp 34),_,_,_,some (14,false)⟩) (v:=undef) rfl (by kernel_rfl) (by kernel_rfl) (by kernel_rfl) (fun _ _ _ h=>h) (Or.inr ⟨by rfl,rfl⟩) hH ?_
    simp only [Act.put,zA,zB,zC]
    refine wpAnyH_take (i:=18) (oi:=⟨some 36,.move (.tmp 0),_,_,_,some (17,true)⟩) (v:=undef) rfl (by kernel_rfl) (by kernel_rfl) (by kernel_rfl) (fun _ _ _ h=>h) (Or.inr ⟨by rfl,rfl⟩) hH ?_
    simp only [Act.put,zA,zB,zC]
    refine wpAnyH_take (i:=19) (oi:=⟨some 37,.move (.tmp 3),_,_,_,some (17,true)⟩) (v:=undef) rfl (by kernel_rfl) (by kernel_rfl) (by kernel_rfl) (fun _ _ _ h=>h) (Or.inr ⟨by rfl,rfl⟩) hH ?_
    simp only [Act.put,zA,zB,zC]
    refine wpAnyH_take (i:=20) (oi:=⟨some 38,.indexAddr 76 (.tmp 36) (.tmp 37),_,_,_,some (17,true)⟩) (v:=undef) rfl (by kernel_rfl) (by kernel_rfl) (by kernel_rfl) (fun _ _ _ h=>h) (Or.inr ⟨by rfl,rfl⟩) hH ?_
    simp only [Act.put,zA,zB,zC]
    refine wpAnyH_take (i:=21) (oi:=⟨some 39,.fieldAddr 75 (.tmp 38) 0,_,_,_,some (17,true)⟩) (v:=undef) rfl (by kernel_rfl) (by kernel_rfl) (by kernel_rfl) (fun _ _ _ h=>h) (Or.inr ⟨by rfl,rfl⟩) hH ?_
    simp only [Act.put,zA,zB,zC]
    refine wpAnyH_take (i:=22) (oi:=⟨some 40,.load 3 (.tmp 39),_,_,_,some (17,true)⟩) (v:=undef) rfl (by kernel_rfl) (by kernel_rfl) (by kernel_rfl) (fun _ _ _ h=>h) (Or.inr ⟨by rfl,rfl⟩) hH ?_
    simp only [Act.put,zA,zB,zC]
    refine wpAnyH_take (i:=23) (oi:=⟨some 41,.move (.tmp 0),_,_,_,some (17,true)⟩) (v:=undef) rfl (by kernel_rfl) (by kernel_rfl) (by kernel_rfl) (fun _ _ _ h=>h) (Or.inr ⟨by rfl,rfl⟩) hH ?_
    simp only [Act.put,zA,zB,zC]
    refine wpAnyH_take (i:=24) (oi:=⟨some 42,.move (.tmp 3),_,_,_,some (17,true)⟩) (v:=undef) rfl (by kernel_rfl) (by kernel_rfl) (by kernel_rfl) (fun _ _ _ h=>h) (Or.inr ⟨by rfl,rfl⟩) hH ?_
    simp only [Act.put,zA,zB,zC]
    refine wpAnyH_take (i:=25) (oi:=⟨some 43,.binOp .sub 3 (.tmp 42) (.const (.int .i64 1)) 3,_,_,_,some (17,true)⟩) (v:=undef) rfl (by kernel_rfl) (by kernel_rfl) (by kernel_rfl) (fun _ _ _ h=>h) (Or.inr ⟨by rfl,rfl⟩) hH ?_
    simp only [Act.put,zA,zB,zC]
    refine wpAnyH_take (i:=26) (oi:=⟨some 44,.indexAddr 76 (.tmp 41) (.tmp 43),_,_,_,some (17,true)⟩) (v:=undef) rfl (by kernel_rfl) (by kernel_rfl) (by kernel_rfl) (fun _ _ _ h=>h) (Or.inr ⟨by rfl,rfl⟩) hH ?_
    simp only [Act.put,zA,zB,zC]
    refine wpAnyH_take (i:=27) (oi:=⟨some 45,.fieldAddr 75 (.tmp 44) 0,_,_,_,some (17,true)⟩) (v:=undef) rfl (by kernel_rfl) (by kernel_rfl) (by kernel_rfl) (fun _ _ _ h=>h) (Or.inr ⟨by rfl,rfl⟩) hH ?_
    simp only [Act.put,zA,zB,zC]
    refine wpAnyH_take (i:=28) (oi:=⟨some 46,.load 3 (.tmp 45),_,_,_,some (17,true)⟩) (v:=undef) rfl (by kernel_rfl) (by kernel_rfl) (by kernel_rfl) (fun _ _ _ h=>h) (Or.inr ⟨by rfl,rfl⟩) hH ?_
    simp only [Act.put,zA,zB,zC]
    refine wpAnyH_take (i:=29) (oi:=⟨some 47,.binOp .leq 3 (.tmp 40) (.tmp 46) 3,_,_,_,some (17,true)⟩) (v:=undef) rfl (by kernel_rfl) (by kernel_rfl) (by kernel_rfl) (fun _ _ _ h=>h) (Or.inr ⟨by rfl,rfl⟩) hH ?_
    simp only [Act.put,zA,zB,zC]
    refine wpAnyH_take (i:=30) (oi:=⟨some 48,.pick (.tmp 35) (.tmp 47) (.const (.bool false)),_,_,_,some (14,false)⟩) (v:=undef) rfl (by kernel_rfl) (by kernel_rfl) (by kernel_rfl) (fun _ _ _ h=>h) (Or.inr ⟨by rfl,rfl⟩) hH ?_
    simp only [Act.put,zA,zB,zC]
    refine wpAnyH_take (i:=31) (oi:=⟨some 49,.pick (.tmp 32) (.const (.bool true)) (.tmp 48),_,_,_,none⟩) (v:=.bool true) rfl (by kernel_rfl) (by kernel_rfl) (by kernel_rfl) (fun _ _ _ h=>h) (Or.inl ⟨by rfl,fun wS hS=>by rfl⟩) hH ?_
    simp only [Act.put,zA,zB,zC]
    refine wpAnyH_done (by kernel_rfl) ?_ _
    go_wp2
    go_ret
    exact⟨rfl,_,rfl⟩
   by_cases k2:(65535:Int)<kk
   ·have hRR:(4:Int)=R:=by
     have:¬ kk≤65535:=by omega
     simpa [this] using hE
    subst hRR
    clear hcc hA hE hK hkk
    go_wp2
    refine wp_region_held_drew (S:=fun W=>W=(w.drewN q').drew) (by kernel_rfl) rfl (fun hH=>?_)
    refine wpAnyH_take (i:=0) (oi:=⟨some 18,.move (.tmp 0),_,_,_,none⟩) (v:=.slice (some ⟨b,o,none⟩) n c) rfl (by kernel_rfl) (by kernel_rfl) (by kernel_rfl) (fun _ _ _ h=>h) (Or.inl ⟨by rfl,fun wS hS=>by rfl⟩) hH ?_
    simp only [Act.put,zA,zB,zC]
    refine wpAnyH_take (i:=1) (oi:=⟨some 19,.move (.tmp 3),_,_,_,none⟩) (v:=.int .i64 (j:Int)) rfl (by kernel_rfl) (by kernel_rfl) (by kernel_rfl) (fun _ _ _ h=>h) (Or.inl ⟨by rfl,fun wS hS=>by rfl⟩) hH ?_
    simp only [Act.put,zA,zB,zC]
    refine wpAnyH_take (i:=2) (oi:=⟨some 20,.indexAddr 76 (.tmp 18) (.tmp 19),_,_,_,none⟩) (v:=.pointer (some ⟨b,o+j*2,none⟩)) rfl (by kernel_rfl) (by kernel_rfl) (by kernel_rfl) (fun _ _ _ h=>h) (Or.inl ⟨by rfl,fun wS hS=>(by subst hS;go_simp)⟩) hH ?_
    simp only [Act.put,zA,zB,zC]
    refine wpAnyH_take (i:=3) (oi:=⟨some 21,.fieldAddr 75 (.tmp 20) 0,_,_,_,none⟩) (v:=.pointer (some ⟨b,o+j*2,none⟩)) rfl (by kernel_rfl) (by kernel_rfl) (by kernel_rfl) (fun _ _ _ h=>h) (Or.inl ⟨by rfl,fun wS hS=>(by subst hS;go_simp)⟩) hH ?_
    simp only [Act.put,zA,zB,zC]
    refine wpAnyH_take (i:=4) (oi:=⟨some 22,.load 3 (.tmp 21),_,_,_,none⟩) (v:=.int .i64 kk) rfl (by kernel_rfl) (by kernel_rfl) (by kernel_rfl) (fun _ _ _ h=>h) (Or.inl ⟨by rfl,fun wS hS=>(by subst hS;go_simp)⟩) hH ?_
    simp only [Act.put,zA,zB,zC]
    refine wpAnyH_take (i:=5) (oi:=⟨some 23,.binOp .lss 3 (.tmp 22) (.const (.int .i64 1)) 3,_,_,_,none⟩) (v:=.bool false) rfl (by kernel_rfl) (by kernel_rfl) (by kernel_rfl) (fun _ _ _ h=>h) (Or.inl ⟨by rfl,fun wS hS=>(by subst hS;go_simp)⟩) hH ?_
    simp only [Act.put,zA,zB,zC]
    refine wpAnyH_take (i:=6) (oi:=⟨some 24,.move (.tmp 23),_,_,_,none⟩) (v:=.bool false) rfl (by kernel_rfl) (by kernel_rfl) (by kernel_rfl) (fun _ _ _ h=>h) (Or.inl ⟨by rfl,fun wS hS=>by rfl⟩) hH ?_
    simp only [Act.put,zA,zB,zC]
    refine wpAnyH_take (i:=7) (oi:=⟨some 25,.move (.tmp 0),_,_,_,some (6,false)⟩) (v:=.slice (some ⟨b,o,none⟩) n c) rfl (by kernel_rfl) (by kernel_rfl) (by kernel_rfl) (fun _ _ _ h=>h) (Or.inl ⟨by rfl,fun wS hS=>by rfl⟩) hH ?_
    simp only [Act.put,zA,zB,zC]
    refine wpAnyH_take (i:=8) (oi:=⟨some 26,.move (.tmp 3),_,_,_,some (6,false)⟩) (v:=.int .i64 (j:Int)) rfl (by kernel_rfl) (by kernel_rfl) (by kernel_rfl) (fun _ _ _ h=>h) (Or.inl ⟨by rfl,fun wS hS=>by rfl⟩) hH ?_
    simp only [Act.put,zA,zB,zC]
    refine wpAnyH_take (i:=9) (oi:=⟨some 27,.indexAddr 76 (.tmp 25) (.tmp 26),_,_,_,some (6,false)⟩) (v:=.pointer (some ⟨b,o+j*2,none⟩)) rfl (by kernel_rfl) (by kernel_rfl) (by kernel_rfl) (fun _ _ _ h=>h) (Or.inl ⟨by rfl,fun wS hS=>(by subst hS;go_simp)⟩) hH ?_
    simp only [Act.put,zA,zB,zC]
    refine wpAnyH_take (i:=10) (oi:=⟨some 28,.fieldAddr 75 (.tmp 27) 0,_,_,_,some (6,false)⟩) (v:=.pointer (some ⟨b,o+j*2,none⟩)) rfl (by kernel_rfl) (by kernel_rfl) (by kernel_rfl) (fun _ _ _ h=>h) (Or.inl ⟨by rfl,fun wS hS=>(by subst hS;go_simp)⟩) hH ?_
    simp only [Act.put,zA,zB,zC]
    refine wpAnyH_take (i:=11) (oi:=⟨some 29,.load 3 (.tmp 28),_,_,_,some (6,false)⟩) (v:=.int .i64 kk) rfl (by kernel_rfl) (by kernel_rfl) (by kernel_rfl) (fun _ _ _ h=>h) (Or.inl ⟨by rfl,fun wS hS=>(by subst hS;go_simp)⟩) hH ?_
    simp only [Act.put,zA,zB,zC]
    refine wpAnyH_take (i:=12) (oi:=⟨some 30,.binOp .gtr 3 (.tmp 29) (.const (.int .i64 65535)) 3,_,_,_,some (6,false)⟩) (v:=.bool true) rfl (by kernel_rfl) (by kernel_rfl) (by kernel_rfl) (fun _ _ _ h=>h) (Or.inl ⟨by rfl,fun wS hS=>(by subst hS;go_simp)⟩) hH ?_
    simp only [Act.put,zA,zB,zC]
    refine wpAnyH_take (i:=13) (oi:=⟨some 31,.pick (.tmp 24) (.const (.bool true)) (.tmp 30),_,_,_,none⟩) (v:=.bool true) rfl (by kernel_rfl) (by kernel_rfl) (by kernel_rfl) (fun _ _ _ h=>h) (Or.inl ⟨by rfl,fun wS hS=>by rfl⟩) hH ?_
    simp only [Act.put,zA,zB,zC]
    refine wpAnyH_take (i:=14) (oi:=⟨some 32,.move (.tmp 31),_,_,_,none⟩) (v:=.bool true) rfl (by kernel_rfl) (by kernel_rfl) (by kernel_rfl) (fun _ _ _ h=>h) (Or.inl ⟨by rfl,fun wS hS=>by rfl⟩) hH ?_
    simp only [Act.put,zA,zB,zC]
    refine wpAnyH_take (i:=15) (oi:=⟨some 33,.move (.tmp 3),_,_,_,some (14,false)⟩) (v:=undef) rfl (by kernel_rfl) (by kernel_rfl) (by kernel_rfl) (fun _ _ _ h=>h) (Or.inr ⟨by rfl,rfl⟩) hH ?_
    simp only [Act.put,zA,zB,zC]
    refine wpAnyH_take (i:=16) (oi:=⟨some 34,.binOp .gtr 3 (.tmp 33) (.const (.int .i64 0)) 3,_,_,_,some (14,false)⟩) (v:=undef) rfl (by kernel_rfl) (by kernel_rfl) (by kernel_rfl) (fun _ _ _ h=>h) (Or.inr ⟨by rfl,rfl⟩) hH ?_
    simp only [Act.put,zA,zB,zC]
    refine wpAnyH_take (i:=17) (oi:=⟨some 35,.move (.tmp 34),_,_,_,some (14,false)⟩) (v:=undef) rfl (by kernel_rfl) (by kernel_rfl) (by kernel_rfl) (fun _ _ _ h=>h) (Or.inr ⟨by rfl,rfl⟩) hH ?_
    simp only [Act.put,zA,zB,zC]
    refine wpAnyH_take (i:=18) (oi:=⟨some 36,.move (.tmp 0),_,_,_,some (17,true)⟩) (v:=undef) rfl (by kernel_rfl) (by kernel_rfl) (by kernel_rfl) (fun _ _ _ h=>h) (Or.inr ⟨by rfl,rfl⟩) hH ?_
    simp only [Act.put,zA,zB,zC]
    refine wpAnyH_take (i:=19) (oi:=⟨some 37,.move (.tmp 3),_,_,_,some (17,true)⟩) (v:=undef) rfl (by kernel_rfl) (by kernel_rfl) (by kernel_rfl) (fun _ _ _ h=>h) (Or.inr ⟨by rfl,rfl⟩) hH ?_
    simp only [Act.put,zA,zB,zC]
    refine wpAnyH_take (i:=20) (oi:=⟨some 38,.indexAddr 76 (.tmp 36) (.tmp 37),_,_,_,some (17,true)⟩) (v:=undef) rfl (by kernel_rfl) (by kernel_rfl) (by kernel_rfl) (fun _ _ _ h=>h) (Or.inr ⟨by rfl,rfl⟩) hH ?_
    simp only [Act.put,zA,zB,zC]
    refine wpAnyH_take (i:=21) (oi:=⟨some 39,.fieldAddr 75 (.tmp 38) 0,_,_,_,some (17,true)⟩) (v:=undef) rfl (by kernel_rfl) (by kernel_rfl) (by kernel_rfl) (fun _ _ _ h=>h) (Or.inr ⟨by rfl,rfl⟩) hH ?_
    simp only [Act.put,zA,zB,zC]
    refine wpAnyH_take (i:=22) (oi:=⟨some 40,.load 3 (.tmp 39),_,_,_,some (17,true)⟩) (v:=undef) rfl (by kernel_rfl) (by kernel_rfl) (by kernel_rfl) (fun _ _ _ h=>h) (Or.inr ⟨by rfl,rfl⟩) hH ?_
    simp only [Act.put,zA,zB,zC]
    refine wpAnyH_take (i:=23) (oi:=⟨some 41,.move (.tmp 0),_,_,_,some (17,true)⟩) (v:=undef) rfl (by kernel_rfl) (by kernel_rfl) (by kernel_rfl) (fun _ _ _ h=>h) (Or.inr ⟨by rfl,rfl⟩) hH ?_
    simp only [Act.put,zA,zB,zC]
    refine wpAnyH_take (i:=24) (oi:=⟨some 42,.move (.tmp 3),_,_,_,some (17,true)⟩) (v:=undef) rfl (by kernel_rfl) (by kernel_rfl) (by kernel_rfl) (fun _ _ _ h=>h) (Or.inr ⟨by rfl,rfl⟩) hH ?_
    simp only [Act.put,zA,zB,zC]
    refine wpAnyH_take (i:=25) (oi:=⟨some 43,.binOp .sub 3 (.tmp 42) (.const (.int .i64 1)) 3,_,_,_,some (17,true)⟩) (v:=undef) rfl (by kernel_rfl) (by kernel_rfl) (by kernel_rfl) (fun _ _ _ h=>h) (Or.inr ⟨by rfl,rfl⟩) hH ?_
    simp only [Act.put,zA,zB,zC]
    refine wpAnyH_take (i:=26) (oi:=⟨some 44,.indexAddr 76 (.tmp 41) (.tmp 43),_,_,_,some (17,true)⟩) (v:=undef) rfl (by kernel_rfl) (by kernel_rfl) (by kernel_rfl) (fun _ _ _ h=>h) (Or.inr ⟨by rfl,rfl⟩) hH ?_
    simp only [Act.put,zA,zB,zC]
    refine wpAnyH_take (i:=27) (oi:=⟨some 45,.fieldAddr 75 (.tmp 44) 0,_,_,_,some (17,true)⟩) (v:=undef) rfl (by kernel_rfl) (by kernel_rfl) (by kernel_rfl) (fun _ _ _ h=>h) (Or.inr ⟨by rfl,rfl⟩) hH ?_
    simp only [Act.put,zA,zB,zC]
    refine wpAnyH_take (i:=28) (oi:=⟨some 46,.load 3 (.tmp 45),_,_,_,some (17,true)⟩) (v:=undef) rfl (by kernel_rfl) (by kernel_rfl) (by kernel_rfl) (fun _ _ _ h=>h) (Or.inr ⟨by rfl,rfl⟩) hH ?_
    simp only [Act.put,zA,zB,zC]
    refine wpAnyH_take (i:=29) (oi:=⟨some 47,.binOp .leq 3 (.tmp 40) (.tmp 46) 3,_,_,_,some (17,true)⟩) (v:=undef) rfl (by kernel_rfl) (by kernel_rfl) (by kernel_rfl) (fun _ _ _ h=>h) (Or.inr ⟨by rfl,rfl⟩) hH ?_
    simp only [Act.put,zA,zB,zC]
    refine wpAnyH_take (i:=30) (oi:=⟨some 48,.pick (.tmp 35) (.tmp 47) (.const (.bool false)),_,_,_,some (14,false)⟩) (v:=undef) rfl (by kernel_rfl) (by kernel_rfl) (by kernel_rfl) (fun _ _ _ h=>h) (Or.inr ⟨by rfl,rfl⟩) hH ?_
    simp only [Act.put,zA,zB,zC]
    refine wpAnyH_take (i:=31) (oi:=⟨some 49,.pick (.tmp 32) (.const (.bool true)) (.tmp 48),_,_,_,none⟩) (v:=.bool true) rfl (by kernel_rfl) (by kernel_rfl) (by kernel_rfl) (fun _ _ _ h=>h) (Or.inl ⟨by rfl,fun wS hS=>by rfl⟩) hH ?_
    simp only [Act.put,zA,zB,zC]
    refine wpAnyH_done (by kernel_rfl) ?_ _
    go_wp2
    go_ret
    exact⟨rfl,_,rfl⟩
   have h65:kk≤65535:=by omega
   by_cases j0:j=0
   ·have hK0:K=0:=by rcases hK with ⟨_,h⟩|⟨_,_,h,_⟩;exact h;omega
    have HE:Hid (∃ K:Int,((j+1=0∧K=0)∨(1≤K∧∃ h:j+1-1<l.length,0<j+1∧l[j+1-1].1=K))∧(if asc K (l.drop (j+1))=true then (0:Int) else 4)=R) :=
     Lib.hid ⟨kk,.inr ⟨by omega,hjl,by omega,hkk⟩,by
      have h1:K<kk:=by omega
      simpa [h1,h65] using hE⟩
    have HF:=Lib.hid j0
    clear hcc hA hE hK hkk hK0 h65 j0
    go_wp2
    refine wp_region_held_drew (S:=fun W=>W=(w.drewN q').drew) (by kernel_rfl) rfl (fun hH=>?_)
    refine wpAnyH_take (i:=0) (oi:=⟨some 18,.move (.tmp 0),_,_,_,none⟩) (v:=.slice (some ⟨b,o,none⟩) n c) rfl (by kernel_rfl) (by kernel_rfl) (by kernel_rfl) (fun _ _ _ h=>h) (Or.inl ⟨by rfl,fun wS hS=>by rfl⟩) hH ?_
    simp only [Act.put,zA,zB,zC]
    refine wpAnyH_take (i:=1) (oi:=⟨some 19,.move (.tmp 3),_,_,_,none⟩) (v:=.int .i64 (j:Int)) rfl (by kernel_rfl) (by kernel_rfl) (by kernel_rfl) (fun _ _ _ h=>h) (Or.inl ⟨by rfl,fun wS hS=>by rfl⟩) hH ?_
    simp only [Act.put,zA,zB,zC]
    refine wpAnyH_take (i:=2) (oi:=⟨some 20,.indexAddr 76 (.tmp 18) (.tmp 19),_,_,_,none⟩) (v:=.pointer (some ⟨b,o+j*2,none⟩)) rfl (by kernel_rfl) (by kernel_rfl) (by kernel_rfl) (fun _ _ _ h=>h) (Or.inl ⟨by rfl,fun wS hS=>(by subst hS;go_simp)⟩) hH ?_
    simp only [Act.put,zA,zB,zC]
    refine wpAnyH_take (i:=3) (oi:=⟨some 21,.fieldAddr 75 (.tmp 20) 0,_,_,_,none⟩) (v:=.pointer (some ⟨b,o+j*2,none⟩)) rfl (by kernel_rfl) (by kernel_rfl) (by kernel_rfl) (fun _ _ _ h=>h) (Or.inl ⟨by rfl,fun wS hS=>(by subst hS;go_simp)⟩) hH ?_
    simp only [Act.put,zA,zB,zC]
    refine wpAnyH_take (i:=4) (oi:=⟨some 22,.load 3 (.tmp 21),_,_,_,none⟩) (v:=.int .i64 kk) rfl (by kernel_rfl) (by kernel_rfl) (by kernel_rfl) (fun _ _ _ h=>h) (Or.inl ⟨by rfl,fun wS hS=>(by subst hS;go_simp)⟩) hH ?_
    simp only [Act.put,zA,zB,zC]
    refine wpAnyH_take (i:=5) (oi:=⟨some 23,.binOp .lss 3 (.tmp 22) (.const (.int .i64 1)) 3,_,_,_,none⟩) (v:=.bool false) rfl (by kernel_rfl) (by kernel_rfl) (by kernel_rfl) (fun _ _ _ h=>h) (Or.inl ⟨by rfl,fun wS hS=>(by subst hS;go_simp)⟩) hH ?_
    simp only [Act.put,zA,zB,zC]
    refine wpAnyH_take (i:=6) (oi:=⟨some 24,.move (.tmp 23),_,_,_,none⟩) (v:=.bool false) rfl (by kernel_rfl) (by kernel_rfl) (by kernel_rfl) (fun _ _ _ h=>h) (Or.inl ⟨by rfl,fun wS hS=>by rfl⟩) hH ?_
    simp only [Act.put,zA,zB,zC]
    refine wpAnyH_take (i:=7) (oi:=⟨some 25,.move (.tmp 0),_,_,_,some (6,false)⟩) (v:=.slice (some ⟨b,o,none⟩) n c) rfl (by kernel_rfl) (by kernel_rfl) (by kernel_rfl) (fun _ _ _ h=>h) (Or.inl ⟨by rfl,fun wS hS=>by rfl⟩) hH ?_
    simp only [Act.put,zA,zB,zC]
    refine wpAnyH_take (i:=8) (oi:=⟨some 26,.move (.tmp 3),_,_,_,some (6,false)⟩) (v:=.int .i64 (j:Int)) rfl (by kernel_rfl) (by kernel_rfl) (by kernel_rfl) (fun _ _ _ h=>h) (Or.inl ⟨by rfl,fun wS hS=>by rfl⟩) hH ?_
    simp only [Act.put,zA,zB,zC]
    refine wpAnyH_take (i:=9) (oi:=⟨some 27,.indexAddr 76 (.tmp 25) (.tmp 26),_,_,_,some (6,false)⟩) (v:=.pointer (some ⟨b,o+j*2,none⟩)) rfl (by kernel_rfl) (by kernel_rfl) (by kernel_rfl) (fun _ _ _ h=>h) (Or.inl ⟨by rfl,fun wS hS=>(by subst hS;go_simp)⟩) hH ?_
    simp only [Act.put,zA,zB,zC]
    refine wpAnyH_take (i:=10) (oi:=⟨some 28,.fieldAddr 75 (.tmp 27) 0,_,_,_,some (6,false)⟩) (v:=.pointer (some ⟨b,o+j*2,none⟩)) rfl (by kernel_rfl) (by kernel_rfl) (by kernel_rfl) (fun _ _ _ h=>h) (Or.inl ⟨by rfl,fun wS hS=>(by subst hS;go_simp)⟩) hH ?_
    simp only [Act.put,zA,zB,zC]
    refine wpAnyH_take (i:=11) (oi:=⟨some 29,.load 3 (.tmp 28),_,_,_,some (6,false)⟩) (v:=.int .i64 kk) rfl (by kernel_rfl) (by kernel_rfl) (by kernel_rfl) (fun _ _ _ h=>h) (Or.inl ⟨by rfl,fun wS hS=>(by subst hS;go_simp)⟩) hH ?_
    simp only [Act.put,zA,zB,zC]
    refine wpAnyH_take (i:=12) (oi:=⟨some 30,.binOp .gtr 3 (.tmp 29) (.const (.int .i64 65535)) 3,_,_,_,some (6,false)⟩) (v:=.bool false) rfl (by kernel_rfl) (by kernel_rfl) (by kernel_rfl) (fun _ _ _ h=>h) (Or.inl ⟨by rfl,fun wS hS=>(by subst hS;go_simp)⟩) hH ?_
    simp only [Act.put,zA,zB,zC]
    refine wpAnyH_take (i:=13) (oi:=⟨some 31,.pick (.tmp 24) (.const (.bool true)) (.tmp 30),_,_,_,none⟩) (v:=.bool false) rfl (by kernel_rfl) (by kernel_rfl) (by kernel_rfl) (fun _ _ _ h=>h) (Or.inl ⟨by rfl,fun wS hS=>by rfl⟩) hH ?_
    simp only [Act.put,zA,zB,zC]
    refine wpAnyH_take (i:=14) (oi:=⟨some 32,.move (.tmp 31),_,_,_,none⟩) (v:=.bool false) rfl (by kernel_rfl) (by kernel_rfl) (by kernel_rfl) (fun _ _ _ h=>h) (Or.inl ⟨by rfl,fun wS hS=>by rfl⟩) hH ?_
    simp only [Act.put,zA,zB,zC]
    refine wpAnyH_take (i:=15) (oi:=⟨some 33,.move (.tmp 3),_,_,_,some (14,false)⟩) (v:=.int .i64 (j:Int)) rfl (by kernel_rfl) (by kernel_rfl) (by kernel_rfl) (fun _ _ _ h=>h) (Or.inl ⟨by rfl,fun wS hS=>by rfl⟩) hH ?_
    simp only [Act.put,zA,zB,zC]
    refine wpAnyH_take (i:=16) (oi:=⟨some 34,.binOp .gtr 3 (.tmp 33) (.const (.int .i64 0)) 3,_,_,_,some (14,false)⟩) (v:=.bool false) rfl (by kernel_rfl) (by kernel_rfl) (by kernel_rfl) (fun _ _ _ h=>h) (Or.inl ⟨by rfl,fun wS hS=>(by subst hS;have f:=HF.out;go_simp)⟩) hH ?_
    simp only [Act.put,zA,zB,zC]
    refine wpAnyH_take (i:=17) (oi:=⟨some 35,.move (.tmp 34),_,_,_,some (14,false)⟩) (v:=.bool false) rfl (by kernel_rfl) (by kernel_rfl) (by kernel_rfl) (fun _ _ _ h=>h) (Or.inl ⟨by rfl,fun wS hS=>by rfl⟩) hH ?_
    simp only [Act.put,zA,zB,zC]
    refine wpAnyH_take (i:=18) (oi:=⟨some 36,.move (.tmp 0),_,_,_,some (17,true)⟩) (v:=undef) rfl (by kernel_rfl) (by kernel_rfl) (by kernel_rfl) (fun _ _ _ h=>h) (Or.inr ⟨by rfl,rfl⟩) hH ?_
    simp only [Act.put,zA,zB,zC]
    refine wpAnyH_take (i:=19) (oi:=⟨some 37,.move (.tmp 3),_,_,_,some (17,true)⟩) (v:=undef) rfl (by kernel_rfl) (by kernel_rfl) (by kernel_rfl) (fun _ _ _ h=>h) (Or.inr ⟨by rfl,rfl⟩) hH ?_
    simp only [Act.put,zA,zB,zC]
    refine wpAnyH_take (i:=20) (oi:=⟨some 38,.indexAddr 76 (.tmp 36) (.tmp 37),_,_,_,some (17,true)⟩) (v:=undef) rfl (by kernel_rfl) (by kernel_rfl) (by kernel_rfl) (fun _ _ _ h=>h) (Or.inr ⟨by rfl,rfl⟩) hH ?_
    simp only [Act.put,zA,zB,zC]
    refine wpAnyH_take (i:=21) (oi:=⟨some 39,.fieldAddr 75 (.tmp 38) 0,_,_,_,some (17,true)⟩) (v:=undef) rfl (by kernel_rfl) (by kernel_rfl) (by kernel_rfl) (fun _ _ _ h=>h) (Or.inr ⟨by rfl,rfl⟩) hH ?_
    simp only [Act.put,zA,zB,zC]
    refine wpAnyH_take (i:=22) (oi:=⟨some 40,.load 3 (.tmp 39),_,_,_,some (17,true)⟩) (v:=undef) rfl (by kernel_rfl) (by kernel_rfl) (by kernel_rfl) (fun _ _ _ h=>h) (Or.inr ⟨by rfl,rfl⟩) hH ?_
    simp only [Act.put,zA,zB,zC]
    refine wpAnyH_take (i:=23) (oi:=⟨some 41,.move (.tmp 0),_,_,_,some (17,true)⟩) (v:=undef) rfl (by kernel_rfl) (by kernel_rfl) (by kernel_rfl) (fun _ _ _ h=>h) (Or.inr ⟨by rfl,rfl⟩) hH ?_
    simp only [Act.put,zA,zB,zC]
    refine wpAnyH_take (i:=24) (oi:=⟨some 42,.move (.tmp 3),_,_,_,some (17,true)⟩) (v:=undef) rfl (by kernel_rfl) (by kernel_rfl) (by kernel_rfl) (fun _ _ _ h=>h) (Or.inr ⟨by rfl,rfl⟩) hH ?_
    simp only [Act.put,zA,zB,zC]
    refine wpAnyH_take (i:=25) (oi:=⟨some 43,.binOp .sub 3 (.tmp 42) (.const (.int .i64 1)) 3,_,_,_,some (17,true)⟩) (v:=undef) rfl (by kernel_rfl) (by kernel_rfl) (by kernel_rfl) (fun _ _ _ h=>h) (Or.inr ⟨by rfl,rfl⟩) hH ?_
    simp only [Act.put,zA,zB,zC]
    refine wpAnyH_take (i:=26) (oi:=⟨some 44,.indexAddr 76 (.tmp 41) (.tmp 43),_,_,_,some (17,true)⟩) (v:=undef) rfl (by kernel_rfl) (by kernel_rfl) (by kernel_rfl) (fun _ _ _ h=>h) (Or.inr ⟨by rfl,rfl⟩) hH ?_
    simp only [Act.put,zA,zB,zC]
    refine wpAnyH_take (i:=27) (oi:=⟨some 45,.fieldAddr 75 (.tmp 44) 0,_,_,_,some (17,true)⟩) (v:=undef) rfl (by kernel_rfl) (by kernel_rfl) (by kernel_rfl) (fun _ _ _ h=>h) (Or.inr ⟨by rfl,rfl⟩) hH ?_
    simp only [Act.put,zA,zB,zC]
    refine wpAnyH_take (i:=28) (oi:=⟨some 46,.load 3 (.tmp 45),_,_,_,some (17,true)⟩) (v:=undef) rfl (by kernel_rfl) (by kernel_rfl) (by kernel_rfl) (fun _ _ _ h=>h) (Or.inr ⟨by rfl,rfl⟩) hH ?_
    simp only [Act.put,zA,zB,zC]
    refine wpAnyH_take (i:=29) (oi:=⟨some 47,.binOp .leq 3 (.tmp 40) (.tmp 46) 3,_,_,_,some (17,true)⟩) (v:=undef) rfl (by kernel_rfl) (by kernel_rfl) (by kernel_rfl) (fun _ _ _ h=>h) (Or.inr ⟨by rfl,rfl⟩) hH ?_
    simp only [Act.put,zA,zB,zC]
    refine wpAnyH_take (i:=30) (oi:=⟨some 48,.pick (.tmp 35) (.tmp 47) (.const (.bool false)),_,_,_,some (14,false)⟩) (v:=.bool false) rfl (by kernel_rfl) (by kernel_rfl) (by kernel_rfl) (fun _ _ _ h=>h) (Or.inl ⟨by rfl,fun wS hS=>by rfl⟩) hH ?_
    simp only [Act.put,zA,zB,zC]
    refine wpAnyH_take (i:=31) (oi:=⟨some 49,.pick (.tmp 32) (.const (.bool true)) (.tmp 48),_,_,_,none⟩) (v:=.bool false) rfl (by kernel_rfl) (by kernel_rfl) (by kernel_rfl) (fun _ _ _ h=>h) (Or.inl ⟨by rfl,fun wS hS=>by rfl⟩) hH ?_
    simp only [Act.put,zA,zB,zC]
    refine wpAnyH_done (by kernel_rfl) ?_ _
    go_wp2
    go_roundw
    case rel=>exact⟨j+1,_,hlt,by go_num,rfl,HE⟩
    case measure=>simp [intOf];omega
   ·obtain⟨hK1,hj1,-,hKv⟩:1≤K∧∃ h:j-1<l.length,0<j∧l[j-1].1=K:=by
     rcases hK with ⟨h,_⟩|h
     ·exact absurd h j0
     ·exact h
    obtain⟨z0,-⟩:=hcc (j-1) hj1
    rw [hKv] at z0
    have HF:=Lib.hid (show (0<j∧IntKind.i64.wrap ((j:Int)-1)=(j:Int)-1∧¬ (j:Int)<1∧(j:Int)-1<(n:Int))∧w.cell? ⟨b,o+(j-1)*2,none⟩=some (.int .i64 K) from ⟨⟨by omega,by (rw [IntKind.wrap_i64];omega),by omega,by omega⟩,z0⟩)
    by_cases k1:kk≤K
    ·have hRR:(4:Int)=R:=by
      have:¬ K<kk:=by omega
      simpa [this] using hE
     subst hRR
     clear hcc hA hE hK hkk hKv z0
     go_wp2
     refine wp_region_held_drew (S:=fun W=>W=(w.drewN q').drew) (by kernel_rfl) rfl (fun hH=>?_)
     refine wpAnyH_take (i:=0) (oi:=⟨some 18,.move (.tmp 0),_,_,_,none⟩) (v:=.slice (some ⟨b,o,none⟩) n c) rfl (by kernel_rfl) (by kernel_rfl) (by kernel_rfl) (fun _ _ _ h=>h) (Or.inl ⟨by rfl,fun wS hS=>by rfl⟩) hH ?_
     simp only [Act.put,zA,zB,zC]
     refine wpAnyH_take (i:=1) (oi:=⟨some 19,.move (.tmp 3),_,_,_,none⟩) (v:=.int .i64 (j:Int)) rfl (by kernel_rfl) (by kernel_rfl) (by kernel_rfl) (fun _ _ _ h=>h) (Or.inl ⟨by rfl,fun wS hS=>by rfl⟩) hH ?_
     simp only [Act.put,zA,zB,zC]
     refine wpAnyH_take (i:=2) (oi:=⟨some 20,.indexAddr 76 (.tmp 18) (.tmp 19),_,_,_,none⟩) (v:=.pointer (some ⟨b,o+j*2,none⟩)) rfl (by kernel_rfl) (by kernel_rfl) (by kernel_rfl) (fun _ _ _ h=>h) (Or.inl ⟨by rfl,fun wS hS=>(by subst hS;have f:=HF.out;go_simp)⟩) hH ?_
     simp only [Act.put,zA,zB,zC]
     refine wpAnyH_take (i:=3) (oi:=⟨some 21,.fieldAddr 75 (.tmp 20) 0,_,_,_,none⟩) (v:=.pointer (some ⟨b,o+j*2,none⟩)) rfl (by kernel_rfl) (by kernel_rfl) (by kernel_rfl) (fun _ _ _ h=>h) (Or.inl ⟨by rfl,fun wS hS=>(by subst hS;have f:=HF.out;go_simp)⟩) hH ?_
     simp only [Act.put,zA,zB,zC]
     refine wpAnyH_take (i:=4) (oi:=⟨some 22,.load 3 (.tmp 21),_,_,_,none⟩) (v:=.int .i64 kk) rfl (by kernel_rfl) (by kernel_rfl) (by kernel_rfl) (fun _ _ _ h=>h) (Or.inl ⟨by rfl,fun wS hS=>(by subst hS;have f:=HF.out;go_simp)⟩) hH ?_
     simp only [Act.put,zA,zB,zC]
     refine wpAnyH_take (i:=5) (oi:=⟨some 23,.binOp .lss 3 (.tmp 22) (.const (.int .i64 1)) 3,_,_,_,none⟩) (v:=.bool false) rfl (by kernel_rfl) (by kernel_rfl) (by kernel_rfl) (fun _ _ _ h=>h) (Or.inl ⟨by rfl,fun wS hS=>(by subst hS;have f:=HF.out;go_simp)⟩) hH ?_
     simp only [Act.put,zA,zB,zC]
     refine wpAnyH_take (i:=6) (oi:=⟨some 24,.move (.tmp 23),_,_,_,none⟩) (v:=.bool false) rfl (by kernel_rfl) (by kernel_rfl) (by kernel_rfl) (fun _ _ _ h=>h) (Or.inl ⟨by rfl,fun wS hS=>by rfl⟩) hH ?_
     simp only [Act.put,zA,zB,zC]
     refine wpAnyH_take (i:=7) (oi:=⟨some 25,.move (.tmp 0),_,_,_,some (6,false)⟩) (v:=.slice (some ⟨b,o,none⟩) n c) rfl (by kernel_rfl) (by kernel_rfl) (by kernel_rfl) (fun _ _ _ h=>h) (Or.inl ⟨by rfl,fun wS hS=>by rfl⟩) hH ?_
     simp only [Act.put,zA,zB,zC]
     refine wpAnyH_take (i:=8) (oi:=⟨some 26,.move (.tmp 3),_,_,_,some (6,false)⟩) (v:=.int .i64 (j:Int)) rfl (by kernel_rfl) (by kernel_rfl) (by kernel_rfl) (fun _ _ _ h=>h) (Or.inl ⟨by rfl,fun wS hS=>by rfl⟩) hH ?_
     simp only [Act.put,zA,zB,zC]
     refine wpAnyH_take (i:=9) (oi:=⟨some 27,.indexAddr 76 (.tmp 25) (.tmp 26),_,_,_,some (6,false)⟩) (v:=.pointer (some ⟨b,o+j*2,none⟩)) rfl (by kernel_rfl) (by kernel_rfl) (by kernel_rfl) (fun _ _ _ h=>h) (Or.inl ⟨by rfl,fun wS hS=>(by subst hS;have f:=HF.out;go_simp)⟩) hH ?_
     simp only [Act.put,zA,zB,zC]
     refine wpAnyH_take (i:=10) (oi:=⟨some 28,.fieldAddr 75 (.tmp 27) 0,_,_,_,some (6,false)⟩) (v:=.pointer (some ⟨b,o+j*2,none⟩)) rfl (by kernel_rfl) (by kernel_rfl) (by kernel_rfl) (fun _ _ _ h=>h) (Or.inl ⟨by rfl,fun wS hS=>(by subst hS;have f:=HF.out;go_simp)⟩) hH ?_
     simp only [Act.put,zA,zB,zC]
     refine wpAnyH_take (i:=11) (oi:=⟨some 29,.load 3 (.tmp 28),_,_,_,some (6,false)⟩) (v:=.int .i64 kk) rfl (by kernel_rfl) (by kernel_rfl) (by kernel_rfl) (fun _ _ _ h=>h) (Or.inl ⟨by rfl,fun wS hS=>(by subst hS;have f:=HF.out;go_simp)⟩) hH ?_
     simp only [Act.put,zA,zB,zC]
     refine wpAnyH_take (i:=12) (oi:=⟨some 30,.binOp .gtr 3 (.tmp 29) (.const (.int .i64 65535)) 3,_,_,_,some (6,false)⟩) (v:=.bool false) rfl (by kernel_rfl) (by kernel_rfl) (by kernel_rfl) (fun _ _ _ h=>h) (Or.inl ⟨by rfl,fun wS hS=>(by subst hS;have f:=HF.out;go_simp)⟩) hH ?_
     simp only [Act.put,zA,zB,zC]
     refine wpAnyH_take (i:=13) (oi:=⟨some 31,.pick (.tmp 24) (.const (.bool true)) (.tmp 30),_,_,_,none⟩) (v:=.bool false) rfl (by kernel_rfl) (by kernel_rfl) (by kernel_rfl) (fun _ _ _ h=>h) (Or.inl ⟨by rfl,fun wS hS=>by rfl⟩) hH ?_
     simp only [Act.put,zA,zB,zC]
     refine wpAnyH_take (i:=14) (oi:=⟨some 32,.move (.tmp 31),_,_,_,none⟩) (v:=.bool false) rfl (by kernel_rfl) (by kernel_rfl) (by kernel_rfl) (fun _ _ _ h=>h) (Or.inl ⟨by rfl,fun wS hS=>by rfl⟩) hH ?_
     simp only [Act.put,zA,zB,zC]
     refine wpAnyH_take (i:=15) (oi:=⟨some 33,.move (.tmp 3),_,_,_,some (14,false)⟩) (v:=.int .i64 (j:Int)) rfl (by kernel_rfl) (by kernel_rfl) (by kernel_rfl) (fun _ _ _ h=>h) (Or.inl ⟨by rfl,fun wS hS=>by rfl⟩) hH ?_
     simp only [Act.put,zA,zB,zC]
     refine wpAnyH_take (i:=16) (oi:=⟨some 34,.binOp .gtr 3 (.tmp 33) (.const (.int .i64 0)) 3,_,_,_,some (14,false)⟩) (v:=.bool true) rfl (by kernel_rfl) (by kernel_rfl) (by kernel_rfl) (fun _ _ _ h=>h) (Or.inl ⟨by rfl,fun wS hS=>(by subst hS;have f:=HF.out;go_simp)⟩) hH ?_
     simp only [Act.put,zA,zB,zC]
     refine wpAnyH_take (i:=17) (oi:=⟨some 35,.move (.tmp 34),_,_,_,some (14,false)⟩) (v:=.bool true) rfl (by kernel_rfl) (by kernel_rfl) (by kernel_rfl) (fun _ _ _ h=>h) (Or.inl ⟨by rfl,fun wS hS=>by rfl⟩) hH ?_
     simp only [Act.put,zA,zB,zC]
     refine wpAnyH_take (i:=18) (oi:=⟨some 36,.move (.tmp 0),_,_,_,some (17,true)⟩) (v:=.slice (some ⟨b,o,none⟩) n c) rfl (by kernel_rfl) (by kernel_rfl) (by kernel_rfl) (fun _ _ _ h=>h) (Or.inl ⟨by rfl,fun wS hS=>by rfl⟩) hH ?_
     simp only [Act.put,zA,zB,zC]
     refine wpAnyH_take (i:=19) (oi:=⟨some 37,.move (.tmp 3),_,_,_,some (17,true)⟩) (v:=.int .i64 (j:Int)) rfl (by kernel_rfl) (by kernel_rfl) (by kernel_rfl) (fun _ _ _ h=>h) (Or.inl ⟨by rfl,fun wS hS=>by rfl⟩) hH ?_
     simp only [Act.put,zA,zB,zC]
     refine wpAnyH_take (i:=20) (oi:=⟨some 38,.indexAddr 76 (.tmp 36) (.tmp 37),_,_,_,some (17,true)⟩) (v:=.pointer (some ⟨b,o+j*2,none⟩)) rfl (by kernel_rfl) (by kernel_rfl) (by kernel_rfl) (fun _ _ _ h=>h) (Or.inl ⟨by rfl,fun wS hS=>(by subst hS;have f:=HF.out;go_simp)⟩) hH ?_
     simp only [Act.put,zA,zB,zC]
     refine wpAnyH_take (i:=21) (oi:=⟨some 39,.fieldAddr 75 (.tmp 38) 0,_,_,_,some (17,true)⟩) (v:=.pointer (some ⟨b,o+j*2,none⟩)) rfl (by kernel_rfl) (by kernel_rfl) (by kernel_rfl) (fun _ _ _ h=>h) (Or.inl ⟨by rfl,fun wS hS=>(by subst hS;have f:=HF.out;go_simp)⟩) hH ?_
     simp only [Act.put,zA,zB,zC]
     refine wpAnyH_take (i:=22) (oi:=⟨some 40,.load 3 (.tmp 39),_,_,_,some (17,true)⟩) (v:=.int .i64 kk) rfl (by kernel_rfl) (by kernel_rfl) (by kernel_rfl) (fun _ _ _ h=>h) (Or.inl ⟨by rfl,fun wS hS=>(by subst hS;have f:=HF.out;go_simp)⟩) hH ?_
     simp only [Act.put,zA,zB,zC]
     refine wpAnyH_take (i:=23) (oi:=⟨some 41,.move (.tmp 0),_,_,_,some (17,true)⟩) (v:=.slice (some ⟨b,o,none⟩) n c) rfl (by kernel_rfl) (by kernel_rfl) (by kernel_rfl) (fun _ _ _ h=>h) (Or.inl ⟨by rfl,fun wS hS=>by rfl⟩) hH ?_
     simp only [Act.put,zA,zB,zC]
     refine wpAnyH_take (i:=24) (oi:=⟨some 42,.move (.tmp 3),_,_,_,some (17,true)⟩) (v:=.int .i64 (j:Int)) rfl (by kernel_rfl) (by kernel_rfl) (by kernel_rfl) (fun _ _ _ h=>h) (Or.inl ⟨by rfl,fun wS hS=>by rfl⟩) hH ?_
     simp only [Act.put,zA,zB,zC]
     refine wpAnyH_take (i:=25) (oi:=⟨some 43,.binOp .sub 3 (.tmp 42) (.const (.int .i64 1)) 3,_,_,_,some (17,true)⟩) (v:=.int .i64 ((j:Int)-1)) rfl (by kernel_rfl) (by kernel_rfl) (by kernel_rfl) (fun _ _ _ h=>h) (Or.inl ⟨by rfl,fun wS hS=>(by subst hS;have f:=HF.out;go_simp)⟩) hH ?_
     simp only [Act.put,zA,zB,zC]
     refine wpAnyH_take (i:=26) (oi:=⟨some 44,.indexAddr 76 (.tmp 41) (.tmp 43),_,_,_,some (17,true)⟩) (v:=.pointer (some ⟨b,o+(j-1)*2,none⟩)) rfl (by kernel_rfl) (by kernel_rfl) (by kernel_rfl) (fun _ _ _ h=>h) (Or.inl ⟨by rfl,fun wS hS=>(by subst hS;have f:=HF.out;go_simp)⟩) hH ?_
     simp only [Act.put,zA,zB,zC]
     refine wpAnyH_take (i:=27) (oi:=⟨some 45,.fieldAddr 75 (.tmp 44) 0,_,_,_,some (17,true)⟩) (v:=.pointer (some ⟨b,o+(j-1)*2,none⟩)) rfl (by kernel_rfl) (by kernel_rfl) (by kernel_rfl) (fun _ _ _ h=>h) (Or.inl ⟨by rfl,fun wS hS=>(by subst hS;have f:=HF.out;go_simp)⟩) hH ?_
     simp only [Act.put,zA,zB,zC]
     refine wpAnyH_take (i:=28) (oi:=⟨some 46,.load 3 (.tmp 45),_,_,_,some (17,true)⟩) (v:=.int .i64 K) rfl (by kernel_rfl) (by kernel_rfl) (by kernel_rfl) (fun _ _ _ h=>h) (Or.inl ⟨by rfl,fun wS hS=>(by subst hS;have f:=HF.out;go_simp)⟩) hH ?_
     simp only [Act.put,zA,zB,zC]
     refine wpAnyH_take (i:=29) (oi:=⟨some 47,.binOp .leq 3 (.tmp 40) (.tmp 46) 3,_,_,_,some (17,true)⟩) (v:=.bool true) rfl (by kernel_rfl) (by kernel_rfl) (by kernel_rfl) (fun _ _ _ h=>h) (Or.inl ⟨by rfl,fun wS hS=>(by subst hS;have f:=HF.out;go_simp)⟩) hH ?_
     simp only [Act.put,zA,zB,zC]
     refine wpAnyH_take (i:=30) (oi:=⟨some 48,.pick (.tmp 35) (.tmp 47) (.const (.bool false)),_,_,_,some (14,false)⟩) (v:=.bool true) rfl (by kernel_rfl) (by kernel_rfl) (by kernel_rfl) (fun _ _ _ h=>h) (Or.inl ⟨by rfl,fun wS hS=>by rfl⟩) hH ?_
     simp only [Act.put,zA,zB,zC]
     refine wpAnyH_take (i:=31) (oi:=⟨some 49,.pick (.tmp 32) (.const (.bool true)) (.tmp 48),_,_,_,none⟩) (v:=.bool true) rfl (by kernel_rfl) (by kernel_rfl) (by kernel_rfl) (fun _ _ _ h=>h) (Or.inl ⟨by rfl,fun wS hS=>by rfl⟩) hH ?_
     simp only [Act.put,zA,zB,zC]
     refine wpAnyH_done (by kernel_rfl) ?_ _
     go_wp2
     go_ret
     exact⟨rfl,_,rfl⟩
    ·have HE:Hid (∃ K:Int,((j+1=0∧K=0)∨(1≤K∧∃ h:j+1-1<l.length,0<j+1∧l[j+1-1].1=K))∧(if asc K (l.drop (j+1))=true then (0:Int) else 4)=R) :=
      Lib.hid ⟨kk,.inr ⟨by omega,hjl,by omega,hkk⟩,by
       have h1:K<kk:=by omega
       simpa [h1,h65] using hE⟩
     clear hcc hA hE hK hkk hKv z0 h65
     go_wp2
     refine wp_region_held_drew (S:=fun W=>W=(w.drewN q').drew) (by kernel_rfl) rfl (fun hH=>?_)
     refine wpAnyH_take (i:=0) (oi:=⟨some 18,.move (.tmp 0),_,_,_,none⟩) (v:=.slice (some ⟨b,o,none⟩) n c) rfl (by kernel_rfl) (by kernel_rfl) (by kernel_rfl) (fun _ _ _ h=>h) (Or.inl ⟨by rfl,fun wS hS=>by rfl⟩) hH ?_
     simp only [Act.put,zA,zB,zC]
     refine wpAnyH_take (i:=1) (oi:=⟨some 19,.move (.tmp 3),_,_,_,none⟩) (v:=.int .i64 (j:Int)) rfl (by kernel_rfl) (by kernel_rfl) (by kernel_rfl) (fun _ _ _ h=>h) (Or.inl ⟨by rfl,fun wS hS=>by rfl⟩) hH ?_
     simp only [Act.put,zA,zB,zC]
     refine wpAnyH_take (i:=2) (oi:=⟨some 20,.indexAddr 76 (.tmp 18) (.tmp 19),_,_,_,none⟩) (v:=.pointer (some ⟨b,o+j*2,none⟩)) rfl (by kernel_rfl) (by kernel_rfl) (by kernel_rfl) (fun _ _ _ h=>h) (Or.inl ⟨by rfl,fun wS hS=>(by subst hS;have f:=HF.out;go_simp)⟩) hH ?_
     simp only [Act.put,zA,zB,zC]
     refine wpAnyH_take (i:=3) (oi:=⟨some 21,.fieldAddr 75 (.tmp 20) 0,_,_,_,none⟩) (v:=.pointer (some ⟨b,o+j*2,none⟩)) rfl (by kernel_rfl) (by kernel_rfl) (by kernel_rfl) (fun _ _ _ h=>h) (Or.inl ⟨by rfl,fun wS hS=>(by subst hS;have f:=HF.out;go_simp)⟩) hH ?_
     simp only [Act.put,zA,zB,zC]
     refine wpAnyH_take (i:=4) (oi:=⟨some 22,.load 3 (.tmp 21),_,_,_,none⟩) (v:=.int .i64 kk) rfl (by kernel_rfl) (by kernel_rfl) (by kernel_rfl) (fun _ _ _ h=>h) (Or.inl ⟨by rfl,fun wS hS=>(by subst hS;have f:=HF.out;go_simp)⟩) hH ?_
     simp only [Act.put,zA,zB,zC]
     refine wpAnyH_take (i:=5) (oi:=⟨some 23,.binOp .lss 3 (.tmp 22) (.const (.int .i64 1)) 3,_,_,_,none⟩) (v:=.bool false) rfl (by kernel_rfl) (by kernel_rfl) (by kernel_rfl) (fun _ _ _ h=>h) (Or.inl ⟨by rfl,fun wS hS=>(by subst hS;have f:=HF.out;go_simp)⟩) hH ?_
     simp only [Act.put,zA,zB,zC]
     refine wpAnyH_take (i:=6) (oi:=⟨some 24,.move (.tmp 23),_,_,_,none⟩) (v:=.bool false) rfl (by kernel_rfl) (by kernel_rfl) (by kernel_rfl) (fun _ _ _ h=>h) (Or.inl ⟨by rfl,fun wS hS=>by rfl⟩) hH ?_
     simp only [Act.put,zA,zB,zC]
     refine wpAnyH_take (i:=7) (oi:=⟨some 25,.move (.tmp 0),_,_,_,some (6,false)⟩) (v:=.slice (some ⟨b,o,none⟩) n c) rfl (by kernel_rfl) (by kernel_rfl) (by kernel_rfl) (fun _ _ _ h=>h) (Or.inl ⟨by rfl,fun wS hS=>by rfl⟩) hH ?_
     simp only [Act.put,zA,zB,zC]
     refine wpAnyH_take (i:=8) (oi:=⟨some 26,.move (.tmp 3),_,_,_,some (6,false)⟩) (v:=.int .i64 (j:Int)) rfl (by kernel_rfl) (by kernel_rfl) (by kernel_rfl) (fun _ _ _ h=>h) (Or.inl ⟨by rfl,fun wS hS=>by rfl⟩) hH ?_
     simp only [Act.put,zA,zB,zC]
     refine wpAnyH_take (i:=9) (oi:=⟨some 27,.indexAddr 76 (.tmp 25) (.tmp 26),_,_,_,some (6,false)⟩) (v:=.pointer (some ⟨b,o+j*2,none⟩)) rfl (by kernel_rfl) (by kernel_rfl) (by kernel_rfl) (fun _ _ _ h=>h) (Or.inl ⟨by rfl,fun wS hS=>(by subst hS;have f:=HF.out;go_simp)⟩) hH ?_
     simp only [Act.put,zA,zB,zC]
     refine wpAnyH_take (i:=10) (oi:=⟨some 28,.fieldAddr 75 (.tmp 27) 0,_,_,_,some (6,false)⟩) (v:=.pointer (some ⟨b,o+j*2,none⟩)) rfl (by kernel_rfl) (by kernel_rfl) (by kernel_rfl) (fun _ _ _ h=>h) (Or.inl ⟨by rfl,fun wS hS=>(by subst hS;have f:=HF.out;go_simp)⟩) hH ?_
     simp only [Act.put,zA,zB,zC]
     refine wpAnyH_take (i:=11) (oi:=⟨some 29,.load 3 (.tmp 28),_,_,_,some (6,false)⟩) (v:=.int .i64 kk) rfl (by kernel_rfl) (by kernel_rfl) (by kernel_rfl) (fun _ _ _ h=>h) (Or.inl ⟨by rfl,fun wS hS=>(by subst hS;have f:=HF.out;go_simp)⟩) hH ?_
     simp only [Act.put,zA,zB,zC]
     refine wpAnyH_take (i:=12) (oi:=⟨some 30,.binOp .gtr 3 (.tmp 29) (.const (.int .i64 65535)) 3,_,_,_,some (6,false)⟩) (v:=.bool false) rfl (by kernel_rfl) (by kernel_rfl) (by kernel_rfl) (fun _ _ _ h=>h) (Or.inl ⟨by rfl,fun wS hS=>(by subst hS;have f:=HF.out;go_simp)⟩) hH ?_
     simp only [Act.put,zA,zB,zC]
     refine wpAnyH_take (i:=13) (oi:=⟨some 31,.pick (.tmp 24) (.const (.bool true)) (.tmp 30),_,_,_,none⟩) (v:=.bool false) rfl (by kernel_rfl) (by kernel_rfl) (by kernel_rfl) (fun _ _ _ h=>h) (Or.inl ⟨by rfl,fun wS hS=>by rfl⟩) hH ?_
     simp only [Act.put,zA,zB,zC]
     refine wpAnyH_take (i:=14) (oi:=⟨some 32,.move (.tmp 31),_,_,_,none⟩) (v:=.bool false) rfl (by kernel_rfl) (by kernel_rfl) (by kernel_rfl) (fun _ _ _ h=>h) (Or.inl ⟨by rfl,fun wS hS=>by rfl⟩) hH ?_
     simp only [Act.put,zA,zB,zC]
     refine wpAnyH_take (i:=15) (oi:=⟨some 33,.move (.tmp 3),_,_,_,some (14,false)⟩) (v:=.int .i64 (j:Int)) rfl (by kernel_rfl) (by kernel_rfl) (by kernel_rfl) (fun _ _ _ h=>h) (Or.inl ⟨by rfl,fun wS hS=>by rfl⟩) hH ?_
     simp only [Act.put,zA,zB,zC]
     refine wpAnyH_take (i:=16) (oi:=⟨some 34,.binOp .gtr 3 (.tmp 33) (.const (.int .i64 0)) 3,_,_,_,some (14,false)⟩) (v:=.bool true) rfl (by kernel_rfl) (by kernel_rfl) (by kernel_rfl) (fun _ _ _ h=>h) (Or.inl ⟨by rfl,fun wS hS=>(by subst hS;have f:=HF.out;go_simp)⟩) hH ?_
     simp only [Act.put,zA,zB,zC]
     refine wpAnyH_take (i:=17) (oi:=⟨some 35,.move (.tmp 34),_,_,_,some (14,false)⟩) (v:=.bool true) rfl (by kernel_rfl) (by kernel_rfl) (by kernel_rfl) (fun _ _ _ h=>h) (Or.inl ⟨by rfl,fun wS hS=>by rfl⟩) hH ?_
     simp only [Act.put,zA,zB,zC]
     refine wpAnyH_take (i:=18) (oi:=⟨some 36,.move (.tmp 0),_,_,_,some (17,true)⟩) (v:=.slice (some ⟨b,o,none⟩) n c) rfl (by kernel_rfl) (by kernel_rfl) (by kernel_rfl) (fun _ _ _ h=>h) (Or.inl ⟨by rfl,fun wS hS=>by rfl⟩) hH ?_
     simp only [Act.put,zA,zB,zC]
     refine wpAnyH_take (i:=19) (oi:=⟨some 37,.move (.tmp 3),_,_,_,some (17,true)⟩) (v:=.int .i64 (j:Int)) rfl (by kernel_rfl) (by kernel_rfl) (by kernel_rfl) (fun _ _ _ h=>h) (Or.inl ⟨by rfl,fun wS hS=>by rfl⟩) hH ?_
     simp only [Act.put,zA,zB,zC]
     refine wpAnyH_take (i:=20) (oi:=⟨some 38,.indexAddr 76 (.tmp 36) (.tmp 37),_,_,_,some (17,true)⟩) (v:=.pointer (some ⟨b,o+j*2,none⟩)) rfl (by kernel_rfl) (by kernel_rfl) (by kernel_rfl) (fun _ _ _ h=>h) (Or.inl ⟨by rfl,fun wS hS=>(by subst hS;have f:=HF.out;go_simp)⟩) hH ?_
     simp only [Act.put,zA,zB,zC]
     refine wpAnyH_take (i:=21) (oi:=⟨some 39,.fieldAddr 75 (.tmp 38) 0,_,_,_,some (17,true)⟩) (v:=.pointer (some ⟨b,o+j*2,none⟩)) rfl (by kernel_rfl) (by kernel_rfl) (by kernel_rfl) (fun _ _ _ h=>h) (Or.inl ⟨by rfl,fun wS hS=>(by subst hS;have f:=HF.out;go_simp)⟩) hH ?_
     simp only [Act.put,zA,zB,zC]
     refine wpAnyH_take (i:=22) (oi:=⟨some 40,.load 3 (.tmp 39),_,_,_,some (17,true)⟩) (v:=.int .i64 kk) rfl (by kernel_rfl) (by kernel_rfl) (by kernel_rfl) (fun _ _ _ h=>h) (Or.inl ⟨by rfl,fun wS hS=>(by subst hS;have f:=HF.out;go_simp)⟩) hH ?_
     simp only [Act.put,zA,zB,zC]
     refine wpAnyH_take (i:=23) (oi:=⟨some 41,.move (.tmp 0),_,_,_,some (17,true)⟩) (v:=.slice (some ⟨b,o,none⟩) n c) rfl (by kernel_rfl) (by kernel_rfl) (by kernel_rfl) (fun _ _ _ h=>h) (Or.inl ⟨by rfl,fun wS hS=>by rfl⟩) hH ?_
     simp only [Act.put,zA,zB,zC]
     refine wpAnyH_take (i:=24) (oi:=⟨some 42,.move (.tmp 3),_,_,_,some (17,true)⟩) (v:=.int .i64 (j:Int)) rfl (by kernel_rfl) (by kernel_rfl) (by kernel_rfl) (fun _ _ _ h=>h) (Or.inl ⟨by rfl,fun wS hS=>by rfl⟩) hH ?_
     simp only [Act.put,zA,zB,zC]
     refine wpAnyH_take (i:=25) (oi:=⟨some 43,.binOp .sub 3 (.tmp 42) (.const (.int .i64 1)) 3,_,_,_,some (17,true)⟩) (v:=.int .i64 ((j:Int)-1)) rfl (by kernel_rfl) (by kernel_rfl) (by kernel_rfl) (fun _ _ _ h=>h) (Or.inl ⟨by rfl,fun wS hS=>(by subst hS;have f:=HF.out;go_simp)⟩) hH ?_
     simp only [Act.put,zA,zB,zC]
     refine wpAnyH_take (i:=26) (oi:=⟨some 44,.indexAddr 76 (.tmp 41) (.tmp 43),_,_,_,some (17,true)⟩) (v:=.pointer (some ⟨b,o+(j-1)*2,none⟩)) rfl (by kernel_rfl) (by kernel_rfl) (by kernel_rfl) (fun _ _ _ h=>h) (Or.inl ⟨by rfl,fun wS hS=>(by subst hS;have f:=HF.out;go_simp)⟩) hH ?_
     simp only [Act.put,zA,zB,zC]
     refine wpAnyH_take (i:=27) (oi:=⟨some 45,.fieldAddr 75 (.tmp 44) 0,_,_,_,some (17,true)⟩) (v:=.pointer (some ⟨b,o+(j-1)*2,none⟩)) rfl (by kernel_rfl) (by kernel_rfl) (by kernel_rfl) (fun _ _ _ h=>h) (Or.inl ⟨by rfl,fun wS hS=>(by subst hS;have f:=HF.out;go_simp)⟩) hH ?_
     simp only [Act.put,zA,zB,zC]
     refine wpAnyH_take (i:=28) (oi:=⟨some 46,.load 3 (.tmp 45),_,_,_,some (17,true)⟩) (v:=.int .i64 K) rfl (by kernel_rfl) (by kernel_rfl) (by kernel_rfl) (fun _ _ _ h=>h) (Or.inl ⟨by rfl,fun wS hS=>(by subst hS;have f:=HF.out;go_simp)⟩) hH ?_
     simp only [Act.put,zA,zB,zC]
     refine wpAnyH_take (i:=29) (oi:=⟨some 47,.binOp .leq 3 (.tmp 40) (.tmp 46) 3,_,_,_,some (17,true)⟩) (v:=.bool false) rfl (by kernel_rfl) (by kernel_rfl) (by kernel_rfl) (fun _ _ _ h=>h) (Or.inl ⟨by rfl,fun wS hS=>(by subst hS;have f:=HF.out;go_simp)⟩) hH ?_
     simp only [Act.put,zA,zB,zC]
     refine wpAnyH_take (i:=30) (oi:=⟨some 48,.pick (.tmp 35) (.tmp 47) (.const (.bool false)),_,_,_,some (14,false)⟩) (v:=.bool false) rfl (by kernel_rfl) (by kernel_rfl) (by kernel_rfl) (fun _ _ _ h=>h) (Or.inl ⟨by rfl,fun wS hS=>by rfl⟩) hH ?_
     simp only [Act.put,zA,zB,zC]
     refine wpAnyH_take (i:=31) (oi:=⟨some 49,.pick (.tmp 32) (.const (.bool true)) (.tmp 48),_,_,_,none⟩) (v:=.bool false) rfl (by kernel_rfl) (by kernel_rfl) (by kernel_rfl) (fun _ _ _ h=>h) (Or.inl ⟨by rfl,fun wS hS=>by rfl⟩) hH ?_
     simp only [Act.put,zA,zB,zC]
     refine wpAnyH_done (by kernel_rfl) ?_ _
     go_wp2
     go_roundw
     case rel=>exact⟨j+1,_,hlt,by go_num,rfl,HE⟩
     case measure=>simp [intOf];omega
  ·obtain rfl:j=n:=by omega
   obtain⟨K,-,hE⟩:=hA.out
   rw [List.drop_eq_nil_of_le (by rw [HN.out];exact Nat.le_refl _)] at hE
   have hRR:(0:Int)=R:=by simpa [asc] using hE
   subst hRR
   clear hE hA
   go_wp2
   go_ret
   exact⟨rfl,_,rfl⟩
end Go.Proofs.YtohkgdfkklfgmaaGreatDoor.L15
