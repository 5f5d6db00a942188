/- ProgChecks' walk: Check returns the index and the error of the reference; and what the reference's Check, stmt, Map and labels return. Condition: the tables read as the program's text lays them, memory holds the program. -/
import Derived.Test.YtohkgdfkklfgmaaGreatDoorM13
import Derived.Test.YtohkgdfkklfgmaaGreatDoorM14
import Derived.Test.YtohkgdfkklfgmaaGreatDoorM15
import Derived.Test.YtohkgdfkklfgmaaGreatDoorM9
import Derived.Test.YtohkgdfkklfgmaaGreatDoorM8
set_option maxRecDepth 100000
set_option maxHeartbeats 16000000
section
namespace Go.Proofs.YtohkgdfkklfgmaaGreatDoor.L4
open Go.RowKit L3 L1
def rchF (f:Int) (reg:Bool) (dst src off imm:Int):Int :=
 rchk (decide (f<0)) (rZ f reg (uD f) (uS f reg) (uO f) (uI f reg) dst src off imm) (isG dst && isG src) (rY off) (rX f imm)
theorem off_range (off:Int):(sx 16 off==off)=!rY off:=by
 unfold rY sx
 rw [Bool.eq_iff_iff]
 simp
 omega
theorem imm_range (f imm:Int) (h0:-9223372036854775808≤imm) (h1:imm≤9223372036854775807):rng f imm=!rX f imm:=by
 unfold rng rX
 by_cases h5:f=5
 ·subst h5
  rw [Bool.eq_iff_iff]
  simp [sx]
  omega
 by_cases h11:f=11
 ·subst h11
  rw [Bool.eq_iff_iff]
  simp [sx]
  omega
 by_cases h10:f=10
 ·subst h10
  rw [Bool.eq_iff_iff]
  simp [sx]
  omega
 ·have e5:(f==5)=false:=by simpa using h5
  have e11:(f==11)=false:=by simpa using h11
  have e10:(f==10)=false:=by simpa using h10
  have n10:(f != 10)=true:=by rw [bne,e10];rfl
  rw [e5,e11,e10,n10]
  simp [bne]
theorem field_bad (reg e0 e4 vD vS vO vI d0 s0 o0 i0:Bool) :
  (!((!reg || e0 || e4) && ((vD || d0) && (vS || s0)) && ((vO || o0) && (vI || i0))))=(((((reg && !e0 && !e4) || (!vD && !d0)) || (!vS && !s0)) || (!vO && !o0)) || (!vI && !i0)):=by
 cases reg <;> cases e0 <;> cases e4 <;> cases vD <;> cases vS <;> cases vO <;> cases vI <;> cases d0 <;> cases s0 <;> cases o0 <;> cases i0 <;> rfl
theorem first_is (b1 b2 b3 b4 b5 b6 b7 n z y x:Bool) (hn:b1=!n) (hz:(!(b2 && b3 && b4))=z) (h6:b6=!y) (h7:b7=!x) :
  firstBad [(b1,6),(b2,12),(b3,12),(b4,12),(b5,5),(b6,4),(b7,4)]=rchk n z b5 y x:=by
 subst hn hz h6 h7
 cases n <;> cases b2 <;> cases b3 <;> cases b4 <;> cases b5 <;> cases y <;> cases x <;> rfl
theorem chk_eq (f:Int) (hF:IsF f) (reg:Bool) (dst src off imm:Int) (h0:-9223372036854775808≤imm) (h1:imm≤9223372036854775807):chkF f reg dst src off imm=rchF f reg dst src off imm:=by
 unfold chkF rchF
 refine first_is _ _ _ _ _ _ _ _ _ _ _ ?_ ?_ (off_range off) (imm_range f imm h0 h1)
 ·rcases hF with rfl|rfl|rfl|rfl|rfl|rfl|rfl|rfl|rfl|rfl|rfl|rfl|rfl <;> rfl
 ·rw [field_bad]
  rfl
theorem rcheck_is (op:Int) (reg:Bool) (dst src off imm f R:Int) (w:World) (hf:frm (ix op)=f) (hR:rchF f reg dst src off imm=R) :
  Calls Tryz.prog 143 #[.agg #[.int .i64 op,.bool reg,.int .i64 dst,.int .i64 src,.int .i64 off,.int .i64 imm]] w fun e w'=>e=.returned (.int .i64 R)∧Below w.heap.size w w':=by
 subst hR
 exact rcheck_at op reg dst src off imm f _ _ _ _ _ _ _ _ _ w hf rfl rfl rfl rfl rfl rfl rfl rfl rfl
end Go.Proofs.YtohkgdfkklfgmaaGreatDoor.L4
end
section
namespace Go.Proofs.YtohkgdfkklfgmaaGreatDoor.L10
open Go.RowKit Go.Maps
attribute [local go_sem] Oper.semAt_some
theorem kinds4 (f:Int):f=3∨f=4∨f=11∨((f==3)=false∧(f==4)=false∧(f==11)=false∧(f != 11)=true):=by
 by_cases h3:f=3
 ·exact .inl h3
 by_cases h4:f=4
 ·exact .inr (.inl h4)
 by_cases h11:f=11
 ·exact .inr (.inr (.inl h11))
 ·exact .inr (.inr (.inr (by simp [h3,h4,h11])))
theorem rstmt_at (lv:Value) (labs:List ByteArray) (op:Int) (reg:Bool) (dst src off imm:Int) (tg mp:ByteArray) (r:Int) (w:World) (hv:L8.StAt w lv labs) (hm:labs.length≤100000)
  (hz:∀ t∈labs,t.size≤maxLen) (hzt:tg.size≤maxLen) (hzm:mp.size≤maxLen) (hi0:-9223372036854775808≤imm) (hi1:imm≤9223372036854775807) (h:stE ⟨labs,⟨op,reg,dst,src,off,imm⟩,tg,mp⟩=r) :
  Calls Tryz.prog 99 #[.agg (smA lv op reg dst src off imm tg mp)] w fun e w'=>e=.returned (.int .i64 r)∧Below w.heap.size w w':=by
 obtain⟨n,hn⟩:∃ n,labs.length=n:=⟨_,rfl⟩
 obtain⟨f,hf⟩:∃ f,L3.frm (L3.ix op)=f:=⟨_,rfl⟩
 obtain⟨c,hcc⟩:∃ c,L4.chkF f reg dst src off imm=c:=⟨_,rfl⟩
 rw [stE_eq labs op reg dst src off imm tg mp f c _ _ hf hcc rfl rfl] at h
 have hrc:=L4.chk_eq f (hf ▸ L4.frm_isF op) reg dst src off imm hi0 hi1
 rw [hcc] at hrc
 have HR:=Lib.hid h
 have HZ:=Lib.hid hz
 have HV:=Lib.hid (fun (t:ByteArray) (W:World) (hs:t.size≤maxLen) (v:Bool) (hv:L2.vd t=v)=>L2.rvalid_at t v W (Nat.le_trans hs (by decide)) hv)
 have HT:=Lib.hid hzt
 have HM:=Lib.hid hzm
 have HC:=Lib.hid (fun (W:World)=>L4.rcheck_is op reg dst src off imm f c W hf hrc.symm)
 have HF:=Lib.hid (fun W=>L3.rform_at op f W hf)
 have HA:=Lib.hid (st_form hn hv)
 have HN:=Lib.hid hn
 clear hv h hf hcc hn hz hzt hzm hrc hi0 hi1
 obtain⟨a,cap,rfl,hc⟩:=HA.out
 have HD:=Lib.hid hc
 clear hc HA
 have hS:=heap_alloc_last w (.cells (smA (.slice a n cap) op reg dst src off imm tg mp) 94)
 have hB0:=L8.bnew w (.cells (smA (.slice a n cap) op reg dst src off imm tg mp) 94)
 obtain⟨g,hg⟩:∃ g,g=w.heap.size:=⟨_,rfl⟩
 go_enter Tryz.func99,Tryz.ntmps99
 go_upto_region 1 with (fail)
 rw [← hg] at hS ⊢
 clear hg
 generalize w.alloc (.cells (smA (.slice a n cap) op reg dst src off imm tg mp) 94)=W0 at hS hB0 ⊢
 have HW:=Lib.hid (show Below w.heap.size w W0 from hB0)
 clear hB0
 obtain⟨x0,x1,x2,x3,x4,x5,x6,x7,x8⟩:=cells9 hS
 have hg0:=World.block_lt_of_cell? _ _ x0
 simp only at hg0
 have hI:Hid ((labs.drop 0).all L2.vd=labs.all L2.vd):=Lib.hid rfl
 go_wp2
 go_loop [3] (fun i=>∃ j:Nat,j≤n∧i=.int .i64 (j:Int)∧Hid ((labs.drop j).all L2.vd=labs.all L2.vd)) (fun i=>n-(intOf i).toNat)
 case atStart=>exact⟨0,Nat.zero_le _,rfl,hI⟩
 case round =>
  obtain⟨j,hj,rfl,hL⟩:=hrel
  clear hI
  by_cases hlt:j<n
  ·have hjl:j<labs.length:=by rw [HN.out];exact hlt
   obtain⟨b,o,rfl,hb,hc⟩:=HD.out (by omega)
   have hz:=HZ.out _ (List.getElem_mem hjl)
   obtain⟨x,hx⟩:∃ x,labs[j]=x:=⟨_,rfl⟩
   have hcx:W0.cell? ⟨b,o+j,none⟩=some (.string x):=(HW.out.cell (by exact hb)).trans (by rw [hc j hjl,hx])
   have hb1:=World.block_lt_of_cell? _ _ hcx
   simp only at hb1
   have hst:labs.all L2.vd=(L2.vd x && (labs.drop (j+1)).all L2.vd):=by rw [← hL.out,List.drop_eq_getElem_cons hjl,List.all_cons,hx]
   obtain⟨v,hv⟩:∃ v,L2.vd x=v:=⟨_,rfl⟩
   rw [hv] at hst
   rw [hx] at hz
   have HVV:=Lib.hid (HV.out x W0 hz v hv)
   have HS:=Lib.hid hst
   have hjI:(j:Int)<(n:Int):=by omega
   clear hc hx hst hv hL
   cases v
   ·obtain rfl:r=7:=by rw [← HR.out,HS.out];rfl
    go_wp2_with (go_at_call 25;((with_reducible refine (HVV.out).mono ?_);rintro e w1 ⟨rfl,rfl⟩))
    go_ret
    exact⟨rfl,HW.out⟩
   ·go_wp2_with (go_at_call 25;((with_reducible refine (HVV.out).mono ?_);rintro e w1 ⟨rfl,rfl⟩))
    go_round
    case rel=>exact⟨j+1,by omega,by go_num,Lib.hid (by rw [HS.out];rfl)⟩
    case measure=>simp [intOf];omega
  ·obtain rfl:j=n:=by omega
   have hall:labs.all L2.vd=true:=by rw [← hL.out,List.drop_eq_nil_of_le (by rw [HN.out];exact Nat.le_refl _)];rfl
   have hr:=HR.out
   rw [hall,if_pos rfl] at hr
   clear hall HR hL HD HN
   by_cases hc0:c=0
   ·subst hc0
    rw [if_pos rfl] at hr
    have HR:=Lib.hid hr
    clear hr
    go_upto_region 9 with (go_at_call 143;((with_reducible refine (HC.out _).mono ?_);rintro e w1 ⟨rfl,b1⟩))
    have hS2:=L8.row_up hS b1
    have B2:=Lib.hid (L2.bch HW.out b1)
    clear x0 x1 x2 x3 x4 x5 x6 x7 x8 hg0 hS b1
    obtain⟨x0,x1,x2,x3,x4,x5,x6,x7,x8⟩:=cells9 hS2
    have hg0:=World.block_lt_of_cell? _ _ x0
    simp only at hg0
    go_upto_region 10 with (go_at_call 86;((with_reducible refine (HF.out _).mono ?_);rintro e w2 ⟨rfl,rfl⟩))
    rcases kinds4 f with rfl|rfl|rfl|⟨e3,e4,e11,n11⟩
    ·by_cases ho:off=0
     ·subst ho
      cases hme:mp.toList.isEmpty
      ·obtain rfl:r=12:=by rw [← HR.out];simp [L4.jmpF,hme]
       clear HR
       go_wp2
       go_ret
       exact⟨rfl,B2.out⟩
      ·obtain⟨v,hv⟩:∃ v,L2.vd tg=v:=⟨_,rfl⟩
       have HVV:=Lib.hid (HV.out tg w1 HT.out v hv)
       cases v
       ·obtain rfl:r=7:=by rw [← HR.out];simp [L4.jmpF,hme,hv]
        clear HR hv
        go_wp2_with (go_at_call 25;((with_reducible refine (HVV.out).mono ?_);rintro e w3 ⟨rfl,rfl⟩))
        go_ret
        exact⟨rfl,B2.out⟩
       ·obtain rfl:r=0:=by rw [← HR.out];simp [L4.jmpF,hme,hv]
        clear HR hv
        go_wp2_with (go_at_call 25;((with_reducible refine (HVV.out).mono ?_);rintro e w3 ⟨rfl,rfl⟩))
        go_ret
        exact⟨rfl,B2.out⟩
     ·obtain rfl:r=12:=by rw [← HR.out];simp [L4.jmpF,ho]
      clear HR
      go_wp2
      go_ret
      exact⟨rfl,B2.out⟩
    ·by_cases ho:off=0
     ·subst ho
      cases hme:mp.toList.isEmpty
      ·obtain rfl:r=12:=by rw [← HR.out];simp [L4.jmpF,hme]
       clear HR
       go_wp2
       go_ret
       exact⟨rfl,B2.out⟩
      ·obtain⟨v,hv⟩:∃ v,L2.vd tg=v:=⟨_,rfl⟩
       have HVV:=Lib.hid (HV.out tg w1 HT.out v hv)
       cases v
       ·obtain rfl:r=7:=by rw [← HR.out];simp [L4.jmpF,hme,hv]
        clear HR hv
        go_wp2_with (go_at_call 25;((with_reducible refine (HVV.out).mono ?_);rintro e w3 ⟨rfl,rfl⟩))
        go_ret
        exact⟨rfl,B2.out⟩
       ·obtain rfl:r=0:=by rw [← HR.out];simp [L4.jmpF,hme,hv]
        clear HR hv
        go_wp2_with (go_at_call 25;((with_reducible refine (HVV.out).mono ?_);rintro e w3 ⟨rfl,rfl⟩))
        go_ret
        exact⟨rfl,B2.out⟩
     ·obtain rfl:r=12:=by rw [← HR.out];simp [L4.jmpF,ho]
      clear HR
      go_wp2
      go_ret
      exact⟨rfl,B2.out⟩
    ·by_cases ho:imm=0
     ·subst ho
      cases hme:tg.toList.isEmpty
      ·obtain rfl:r=12:=by rw [← HR.out];simp [L4.jmpF,hme]
       clear HR
       go_wp2
       go_ret
       exact⟨rfl,B2.out⟩
      ·obtain⟨v,hv⟩:∃ v,L2.vd mp=v:=⟨_,rfl⟩
       have HVV:=Lib.hid (HV.out mp w1 HM.out v hv)
       cases v
       ·obtain rfl:r=7:=by rw [← HR.out];simp [L4.jmpF,hme,hv]
        clear HR hv
        go_wp2_with (go_at_call 25;((with_reducible refine (HVV.out).mono ?_);rintro e w3 ⟨rfl,rfl⟩))
        go_ret
        exact⟨rfl,B2.out⟩
       ·obtain rfl:r=0:=by rw [← HR.out];simp [L4.jmpF,hme,hv]
        clear HR hv
        go_wp2_with (go_at_call 25;((with_reducible refine (HVV.out).mono ?_);rintro e w3 ⟨rfl,rfl⟩))
        go_ret
        exact⟨rfl,B2.out⟩
     ·obtain rfl:r=12:=by rw [← HR.out];simp [L4.jmpF,ho]
      clear HR
      go_wp2
      go_ret
      exact⟨rfl,B2.out⟩
    ·cases hte:tg.toList.isEmpty
     ·obtain rfl:r=12:=by rw [← HR.out];simp [L4.jmpF,e3,e4,e11,hte]
      clear HR
      go_wp2
      go_ret
      exact⟨rfl,B2.out⟩
     ·cases hme:mp.toList.isEmpty
      ·obtain rfl:r=12:=by rw [← HR.out];simp [L4.jmpF,e3,e4,e11,hte,hme]
       clear HR
       go_wp2
       go_ret
       exact⟨rfl,B2.out⟩
      ·obtain rfl:r=0:=by rw [← HR.out];simp [L4.jmpF,e3,e4,e11,hte,hme]
       clear HR
       go_wp2
       go_ret
       exact⟨rfl,B2.out⟩
   ·rw [if_neg hc0] at hr
    subst hr
    go_wp2_with (go_at_call 143;((with_reducible refine (HC.out _).mono ?_);rintro e w1 ⟨rfl,b1⟩))
    go_ret
    exact⟨rfl,L2.bch HW.out b1⟩
def mpI:Nat→List L9.Df→ByteArray→Int
 | _,[],_=>-1
 | k,d::r,x=>if d.nm=x then (k:Int) else mpI (k+1) r x
theorem mpI_on:∀ (l:List L9.Df) (k:Nat) (x:ByteArray),decide (mpI k l x<0)=!L2.on (l.map (·.nm)) x
 | [],k,x=>rfl
 | d::r,k,x=>by
  rw [mpI,List.map_cons,on_cons]
  by_cases h:d.nm=x
  ·rw [if_pos h];simp [h]
  ·rw [if_neg h,mpI_on r (k+1) x];simp [h]
theorem rmap_at (vm vs:Value) (p:Pg) (x:ByteArray) (w:World) (hp:PgAt w vm vs p) (hs:Sml p) :
  Calls Tryz.prog 85 #[.agg #[vm,vs],.string x] w fun e w'=>e=.returned (.int .i64 (mpI 0 p.maps x))∧Below w.heap.size w w':=by
 obtain⟨n1,hn1⟩:∃ n,p.maps.length=n:=⟨_,rfl⟩
 obtain⟨n2,hn2⟩:∃ n,p.stmts.length=n:=⟨_,rfl⟩
 obtain⟨a1,c1,rfl,hc⟩:=df_form4 hn1 hp.1
 obtain⟨a2,c2,rfl,-⟩:=sm_form hn2 hp.2
 have hm1:=hs.maps
 rw [hn1] at hm1
 have HC:=Lib.hid hc
 have HN:=Lib.hid hn1
 obtain⟨R,hR⟩:∃ R,mpI 0 p.maps x=R:=⟨_,rfl⟩
 rw [hR]
 have hV:Hid (mpI 0 (p.maps.drop 0) x=R):=Lib.hid hR
 have HB:=Lib.hid (L8.bnew w (.cells #[.slice a1 n1 c1,.slice a2 n2 c2] 50))
 have x0:=(cells2p (heap_alloc_last w (.cells #[.slice a1 n1 c1,.slice a2 n2 c2] 50))).1
 have hlt0:=World.block_lt_of_cell? _ _ x0
 simp only at hlt0
 clear hp hs hn1 hn2 hc hR
 go_enter Tryz.func85,Tryz.ntmps85
 go_upto_region 1 with (fail)
 generalize w.alloc (.cells #[.slice a1 n1 c1,.slice a2 n2 c2] 50)=W0 at x0 hlt0 HB ⊢
 go_wp2
 go_loop [5] (fun i=>∃ k:Nat,k≤n1∧i=.int .i64 (k:Int)∧Hid (mpI k (p.maps.drop k) x=R)) (fun i=>n1-(intOf i).toNat)
 case atStart=>exact⟨0,Nat.zero_le _,rfl,hV⟩
 case round =>
  obtain⟨k,hk,rfl,hT⟩:=hrel
  clear hV
  by_cases hlt:k<n1
  ·have hkl:k<p.maps.length:=by rw [HN.out];exact hlt
   obtain⟨b,o,rfl,hbl,hc⟩:=HC.out (by omega)
   have y0:=(HB.out.cell (by exact hbl)).trans (hc k hkl).1
   have hw1:=World.block_lt_of_cell? _ _ y0
   simp only at hw1
   have hst:=hT.out
   rw [List.drop_eq_getElem_cons hkl,mpI] at hst
   obtain⟨y,hy⟩:∃ y,p.maps[k].nm=y:=⟨_,rfl⟩
   rw [hy] at y0 hst
   clear hc hy hT
   by_cases he:y=x
   ·subst he
    rw [if_pos rfl] at hst
    have ht:(y.toList==y.toList)=true:=by simp
    subst hst
    go_wp2
    go_ret
    exact⟨rfl,HB.out⟩
   ·rw [if_neg he] at hst
    have ht:(y.toList==x.toList)=false:=L2.txt_ne he
    have HS:=Lib.hid hst
    clear he hst
    go_wp2
    go_round
    case rel=>exact⟨k+1,by omega,by go_num,HS⟩
    case measure=>simp [intOf];omega
  ·obtain rfl:k=n1:=by omega
   have hst:=hT.out
   rw [List.drop_eq_nil_of_le (by rw [HN.out];exact Nat.le_refl _)] at hst
   have hst:-1=R:=hst
   subst hst
   clear hT
   go_wp2
   go_ret
   exact⟨rfl,HB.out⟩
end Go.Proofs.YtohkgdfkklfgmaaGreatDoor.L10
end
section
namespace Go.Proofs.YtohkgdfkklfgmaaGreatDoor.L10
open Go.RowKit
theorem feF_first:∀ (l:List Int) (k j:Nat) (h:j<l.length),(∀ i,(hi:i<j)→l[i]=0)→l[j]≠0→feF k l=(k+j,l[j])
 | e::r,k,0,_,_,hn=>by
  rw [feF,if_neg (by simpa using hn)];simp
 | e::r,k,j+1,h,hz,hn=>by
  have h0:e=0:=by simpa using hz 0 (by omega)
  rw [feF,if_pos h0,feF_first r (k+1) j (by simpa using h) (fun i hi=>by simpa using hz (i+1) (by omega)) (by simpa using hn)]
  simp;omega
theorem fe_sz (n:Nat):fe (szE n)=if n≤255 then (0,0) else (255,16):=by
 unfold fe
 split
 ·rename_i h
  refine feF_zero _ _ fun e he=>?_
  unfold szE at he
  obtain⟨i,hi,rfl⟩:=List.mem_map.1 he
  rw [if_pos (by have:=List.mem_range.1 hi;omega)]
 ·rename_i h
  have:=feF_first (szE n) 0 255 (by simp [szE];omega) (fun i hi=>by simp only [szE,List.getElem_map,List.getElem_range];rw [if_pos hi]) (by simp [szE])
  rw [this]
  simp [szE]
theorem fe_en (n:Nat) (l:List Stm) (hn:l.length=n) (h0:0<n):fe (l.mapIdx (enE n))=if L4.endF (fmI (l[n-1]'(by omega)).x) then (0,0) else (n-1,15):=by
 unfold fe
 have hb:∀ i,(hi:i<l.length)→i<n-1→(l.mapIdx (enE n))[i]'(by simpa using hi)=0:=fun i hi hlt=>by
  rw [List.getElem_mapIdx,enE]
  have:decide ((i:Int)<(n:Int)-1)=true:=by simp;omega
  rw [this,Bool.true_or,if_pos rfl]
 have hl:(l.mapIdx (enE n))[n-1]'(by rw [List.length_mapIdx];omega)=if L4.endF (fmI (l[n-1]'(by omega)).x) then 0 else 15:=by
  rw [List.getElem_mapIdx,enE]
  have:decide (((n-1:Nat):Int)<(n:Int)-1)=false:=by simp;omega
  rw [this,Bool.false_or]
 split
 ·rename_i h
  rw [if_pos h] at hl
  refine feF_zero _ _ fun e he=>?_
  obtain⟨i,hi,rfl⟩:=List.mem_iff_getElem.1 he
  have hi':i<l.length:=by simpa using hi
  by_cases hlt:i<n-1
  ·exact hb i hi' hlt
  ·obtain rfl:i=n-1:=by omega
   exact hl
 ·rename_i h
  rw [if_neg h] at hl
  have:=feF_first (l.mapIdx (enE n)) 0 (n-1) (by rw [List.length_mapIdx];omega) (fun i hi=>hb i (by omega) hi) (by rw [hl];decide)
  rw [this,hl];simp
def pG:Nat→List (List ByteArray)→List (ByteArray × Nat)
 | _,[]=>[]
 | i,l::r=>l.map (fun x=>(x,i))++pG (i+1) r
theorem prs_pG:∀ (l:List Stm) (i:Nat),prs i l=pG i (l.map (·.labs))
 | [],_=>rfl
 | s::r,i=>by rw [prs,List.map_cons,pG,prs_pG r]
def fd:List ByteArray→List (ByteArray × Nat)→Option Nat
 | _,[]=>none
 | ks,y::r=>if L2.on ks y.1 then some y.2 else fd (ks++[y.1]) r
theorem fd_list:∀ (labs ks:List ByteArray) (i:Nat) (R:List (ByteArray × Nat)),fd ks (labs.map (fun x=>(x,i))++R)=if addB ks labs then fd (ks++labs) R else some i
 | [],ks,i,R=>by simp [addB]
 | x::r,ks,i,R=>by
  rw [List.map_cons,List.cons_append,fd,addB]
  by_cases h:L2.on ks x=true
  ·rw [if_pos h,if_pos h];simp
  ·rw [if_neg h,if_neg h,fd_list r (ks++[x]) i R,List.append_assoc];rfl
theorem fe_dp:∀ (ll:List (List ByteArray)) (ks:List ByteArray) (i:Nat),feF i (dpE ks ll)=match fd ks (pG i ll) with|none=>(0,0)|some j=>(j,10)
 | [],ks,i=>rfl
 | l::r,ks,i=>by
  rw [dpE,feF,pG,fd_list]
  by_cases h:addB ks l=true
  ·rw [if_pos h,if_pos rfl,if_pos h,fe_dp r (ks++l) (i+1)]
  ·rw [if_neg h,if_neg (by decide),if_neg h]
def rq:Nat→List ByteArray→List (ByteArray × Nat)→Int
 | _,_,[]=>-1
 | k,ks,y::r=>if L2.on ks y.1 then (k:Int) else rq (k+1) (ks++[y.1]) r
theorem rq_fd:∀ (L:List (ByteArray × Nat)) (k:Nat) (ks:List ByteArray),(rq k ks L=-1∧fd ks L=none)∨∃ m,∃ h:m<L.length,rq k ks L=((k+m:Nat):Int)∧fd ks L=some L[m].2
 | [],_,_=>.inl ⟨rfl,rfl⟩
 | y::r,k,ks=>by
  rw [rq,fd]
  by_cases h:L2.on ks y.1=true
  ·rw [if_pos h,if_pos h]
   exact .inr ⟨0,by simp,by simp,by simp⟩
  ·rw [if_neg h,if_neg h]
   rcases rq_fd r (k+1) (ks++[y.1]) with h1|⟨m,hm,h1,h2⟩
   ·exact .inl h1
   ·exact .inr ⟨m+1,by simpa using hm,by rw [h1];congr 1;omega,by simpa using h2⟩
theorem rp_rq (L:List (ByteArray × Nat)):∀ (n k:Nat),L.length=k+n→L2.rpFrom n k (L.map (·.1))=rq k ((L.map (·.1)).take k) (L.drop k)
 | 0,k,h=>by rw [List.drop_eq_nil_of_le (by omega)];rfl
 | n+1,k,h=>by
  have hk:k<L.length:=by omega
  have e:(L.map (·.1)).take (k+1)=(L.map (·.1)).take k++[L[k].1]:=by
   rw [List.take_add_one,List.getElem?_map,List.getElem?_eq_getElem hk];rfl
  rw [List.drop_eq_getElem_cons hk,rq,L2.rpFrom,rp_rq L n (k+1) (by omega),e]
  have hg:(L.map (·.1)).getD k ByteArray.empty=L[k].1:=by simp [List.getD,List.getElem?_eq_getElem hk]
  rw [hg]
theorem rp_is (L:List (ByteArray × Nat)):L2.rp (L.map (·.1))=rq 0 [] L:=by
 have:=rp_rq L L.length 0 (by omega)
 rw [List.take_zero,List.drop_zero] at this
 rw [L2.rp,List.length_map]
 exact this
theorem dp_rp (ll:List (List ByteArray)):(L2.rp ((pG 0 ll).map (·.1))=-1∧fe (dpE [] ll)=(0,0))∨∃ m,∃ h:m<(pG 0 ll).length,L2.rp ((pG 0 ll).map (·.1))=(m:Int)∧fe (dpE [] ll)=((pG 0 ll)[m].2,10):=by
 rw [rp_is,fe,fe_dp]
 rcases rq_fd (pG 0 ll) 0 [] with ⟨h1,h2⟩|⟨m,hm,h1,h2⟩
 ·exact .inl ⟨h1,by rw [h2]⟩
 ·exact .inr ⟨m,hm,by rw [h1];simp,by rw [h2]⟩
theorem pG_ones:∀ (l:List L9.Df) (i:Nat),(pG i (l.map fun d=>[d.nm])).map (·.1)=l.map (·.nm)∧∀ m,(h:m<(pG i (l.map fun d=>[d.nm])).length)→(pG i (l.map fun d=>[d.nm]))[m].2=i+m
 | [],i=>⟨rfl,fun m h=>by simp [pG] at h⟩
 | d::r,i=>by
  obtain⟨h1,h2⟩:=pG_ones r (i+1)
  simp only [List.map_cons,pG,List.map_nil,List.cons_append,List.nil_append]
  refine⟨by rw [h1],fun m h=>?_⟩
  match m,h with
  | 0,_=>rfl
  | m+1,h =>
   have:=h2 m (by simpa using h)
   rw [List.getElem_cons_succ,this];omega
theorem dp_maps (l:List L9.Df):(L2.rp (l.map (·.nm))=-1∧fe (dpE [] (l.map fun d=>[d.nm]))=(0,0))∨∃ m:Nat,L2.rp (l.map (·.nm))=(m:Int)∧fe (dpE [] (l.map fun d=>[d.nm]))=(m,10):=by
 obtain⟨h1,h2⟩:=pG_ones l 0
 have:=dp_rp (l.map fun d=>[d.nm])
 rw [h1] at this
 rcases this with h|⟨m,hm,h3,h4⟩
 ·exact .inl h
 ·exact .inr ⟨m,h3,by rw [h4,h2 m hm,Nat.zero_add]⟩
theorem dp_labs (l:List Stm):(L2.rp ((prs 0 l).map (·.1))=-1∧fe (dpE [] (l.map (·.labs)))=(0,0))∨∃ m,∃ h:m<(prs 0 l).length,L2.rp ((prs 0 l).map (·.1))=(m:Int)∧fe (dpE [] (l.map (·.labs)))=((prs 0 l)[m].2,10):=by
 have:=dp_rp (l.map (·.labs))
 simp only [← prs_pG] at this
 exact this
theorem prs_fst:∀ (l:List Stm) (i:Nat),(prs i l).map (·.1)=l.flatMap (·.labs)
 | [],_=>rfl
 | s::r,i=>by
  rw [prs,List.map_append,List.map_map,List.flatMap_cons,prs_fst r]
  congr 1
  exact List.map_id' _
theorem lbK_back (l:List Stm) (s:ByteArray):∀ n,0≤lbK l s n→∃ m,m<n∧L2.on (labsAt l m) s=true
 | 0,h=>by simp [lbK] at h
 | n+1,h=>by
  rw [lbK] at h
  by_cases hn:L2.on (labsAt l n) s=true
  ·exact⟨n,by omega,hn⟩
  ·rw [if_neg hn] at h
   obtain⟨m,h1,h2⟩:=lbK_back l s n h
   exact⟨m,by omega,h2⟩
theorem lbK_on (l:List Stm) (x:ByteArray):decide (lbK l x l.length<0)=!L2.on (l.flatMap (·.labs)) x:=by
 cases h:L2.on (l.flatMap (·.labs)) x
 ·simp only [Bool.not_false,decide_eq_true_eq]
  refine Int.not_le.1 fun hn=>?_
  obtain⟨m,h1,h2⟩:=lbK_back l x _ hn
  rw [labsAt_get l m h1] at h2
  have:L2.on (l.flatMap (·.labs)) x=true:=(L2.on_mem _ _).2 (List.mem_flatMap.2 ⟨l[m],List.getElem_mem h1,(L2.on_mem _ _).1 h2⟩)
  rw [h] at this
  cases this
 ·simp only [Bool.not_true,decide_eq_false_iff_not]
  obtain⟨s,hs,hx⟩:=List.mem_flatMap.1 ((L2.on_mem _ _).1 h)
  obtain⟨k,hk,rfl⟩:=List.mem_iff_getElem.1 hs
  obtain⟨m,h1,h2,_⟩:=lbK_in l x l.length k hk (by rw [labsAt_get l k hk];exact (L2.on_mem _ _).2 hx)
  rw [h2];omega
theorem deE_siz (d:L9.Df):deE d=if L2.vd d.nm then (if L9.sizV d then 0 else 9) else 7:=by
 have:((upB 64 d.key && upB 256 d.val) && upB 1024 d.ent)=L9.sizV d:=by simp [upB,L9.sizV,Bool.and_assoc]
 rw [deE,this]
end Go.Proofs.YtohkgdfkklfgmaaGreatDoor.L10
end
section
namespace Go.Proofs.YtohkgdfkklfgmaaGreatDoor.L10
open Go.RowKit
attribute [local go_sem] Oper.semAt_some
theorem own_two {W W':World} {B eA eB n m:Nat} {vA vB:Value} {xs ys:List Value} (hA:W.ownsRow B eA 1 vA n xs) (hB:W.ownsRow B eB 1 vB m ys) (he:eA≠eB) (hg:W.grownBy W' vB.ownBlock):W'.ownsRow B eA 1 vA n xs :=
 own_kept hA hg fun g hg' e=>by
  obtain⟨c1,h1⟩:=own_ty hA hg'
  obtain⟨c2,h2⟩:=own_ty hB e
  rw [h1] at h2
  cases h2
  exact he rfl
theorem own_inat {W:World} {B e:TypeId} {v:Value} {xs:List Int} (h:W.ownsRow B e 1 v xs.length (inI xs)):InAt W v xs:=by
 rcases h.2 with ⟨rfl,h0⟩|⟨g,cap,cur,rfl,_,hh,_⟩
 ·exact .inr ⟨List.eq_nil_of_length_eq_zero h0,none,0,rfl⟩
 ·refine .inl ⟨g,0,cap,rfl,lt_of_block hh,fun k hk=>?_⟩
  have:=h.cells (g:=g) rfl k (.int .i64 xs[k]) (by simp [inI,List.getElem?_eq_getElem hk])
  rw [Nat.zero_add]
  rwa [L8.add0] at this
structure LJ (W0 W:World) (vn vw:Value) (q:Nat) (L:List (ByteArray × Nat)):Prop where
 n:W.ownsRow W0.heap.size 9 1 vn q (L8.stC (L.map (·.1)))
 w:W.ownsRow W0.heap.size 3 1 vw q (inI (L.map (fun y=>(y.2:Int))))
 len:L.length=q
 bel:Below W0.heap.size W0 W
theorem infoInt:(Tryz.prog.info? 3).map (fun i=>(i.zero,i.size,i.bytes))=some (some (.int .i64 0),1,8):=by kernel_rfl
theorem rlabels_at (vm vs:Value) (p:Pg) (w:World) (hp:PgAt w vm vs p) (hs:Sml p) :
  Calls Tryz.prog 100 #[.agg #[vm,vs]] w fun e w'=>∃ a1 c1 a2 c2,e=.returned (.tuple #[.slice a1 (prs 0 p.stmts).length c1,.slice a2 (prs 0 p.stmts).length c2])∧L8.StAt w' (.slice a1 (prs 0 p.stmts).length c1) ((prs 0 p.stmts).map (·.1))∧InAt w' (.slice a2 (prs 0 p.stmts).length c2) ((prs 0 p.stmts).map (fun y=>(y.2:Int)))∧Below w.heap.size w w':=by
 obtain⟨i0,hi,hz0,hz1,hz2⟩:=info_parts L9.Tryz.info9
 obtain⟨j0,hj,hy0,hy1,hy2⟩:=info_parts infoInt
 obtain⟨n1,hn1⟩:∃ n,p.maps.length=n:=⟨_,rfl⟩
 obtain⟨n2,hn2⟩:∃ n,p.stmts.length=n:=⟨_,rfl⟩
 obtain⟨a1,c1,rfl,-⟩:=df_form hn1 hp.1
 obtain⟨a2,c2,rfl,hc⟩:=sm_form hn2 hp.2
 have hm2:=hs.stmts
 rw [hn2] at hm2
 have HC:=Lib.hid hc
 have HN:=Lib.hid hn2
 have HL:=Lib.hid hs.labs
 have HB:=Lib.hid (L8.bnew w (.cells #[.slice a1 n1 c1,.slice a2 n2 c2] 50))
 have K0:=Lib.hid (heap_alloc_last w (.cells #[.slice a1 n1 c1,.slice a2 n2 c2] 50))
 clear hp hs hn1 hn2 hc
 go_enter Tryz.func100,Tryz.ntmps100
 go_upto_region 1 with (fail)
 have x1:=(cells2p K0.out).2
 have hlt1:=World.block_lt_of_cell? _ _ x1
 simp only at hlt1
 generalize w.alloc (.cells #[.slice a1 n1 c1,.slice a2 n2 c2] 50)=W0 at K0 x1 hlt1 HB ⊢
 have HI:Hid (LJ W0 W0 (.slice none 0 0) (.slice none 0 0) 0 (prs 0 (p.stmts.take 0))):=Lib.hid ⟨World.ownsRow_nil _ _ _ _,World.ownsRow_nil _ _ _ _,rfl,Below.refl _ _⟩
 go_wp2
 go_loopw [4,5,6,7] (fun vn vw i _ wr=>∃ k q:Nat,k≤n2∧i=.int .i64 (k:Int)∧q≤k*100000∧Hid (LJ W0 wr vn vw q (prs 0 (p.stmts.take k)))) (fun _ _ i _ _=>n2-(intOf i).toNat)
 case atStart=>exact⟨0,0,Nat.zero_le _,rfl,Nat.zero_le _,HI⟩
 case round =>
  obtain⟨k,q,hk,rfl,hq,hI⟩:=hrel
  clear HI x1 hlt1
  have x1:=(cells2p (L8.row_up K0.out hI.out.bel)).2
  have hlt1:=World.block_lt_of_cell? _ _ x1
  simp only at hlt1
  by_cases hlt:k<n2
  ·have hkl:k<p.stmts.length:=by rw [HN.out];exact hlt
   obtain⟨b,o,rfl,hbl,hc⟩:=HC.out (by omega)
   obtain⟨lv,hst,hx⟩:=hc k hkl
   have hX0:=hx 0 _ rfl
   rw [Nat.add_zero] at hX0
   have HX0:=Lib.hid hX0
   have hll:=HL.out _ (List.getElem_mem hkl)
   have hpr:=prs_snoc p.stmts k hkl
   rw [labsAt_get _ _ hkl] at hpr
   obtain⟨s,hs⟩:∃ s,p.stmts[k]=s:=⟨_,rfl⟩
   rw [hs] at hst hll hpr
   obtain⟨ln,hln⟩:∃ ln,s.labs.length=ln:=⟨_,rfl⟩
   obtain⟨la,lc,rfl,hla⟩:=st_form hln hst
   rw [hln] at hll
   obtain⟨PL,hPL⟩:∃ PL,prs 0 (p.stmts.take k)=PL:=⟨_,rfl⟩
   rw [hPL] at hI hpr
   have HLA:=Lib.hid hla
   have HLN:=Lib.hid hln
   have HPR:=Lib.hid hpr
   have HJ:Hid (LJ W0 wr _ _ q (PL++(s.labs.take 0).map (fun x=>(x,k)))):=Lib.hid (by rw [List.take_zero,List.map_nil,List.append_nil];exact hI.out)
   clear hx hX0 hc hst hs hPL hla hpr hln hI
   go_wp2
   go_loopw [4,5,7] (fun vn vw i wi=>∃ j q:Nat,j≤ln∧i=.int .i64 (j:Int)∧q≤k*100000+j∧Hid (LJ W0 wi vn vw q (PL++(s.labs.take j).map (fun x=>(x,k))))) (fun _ _ i _=>ln-(intOf i).toNat)
   case atStart=>exact⟨0,q,Nat.zero_le _,rfl,Nat.le_trans hq (Nat.le_add_right _ _),HJ⟩
   case round =>
    obtain⟨j,q,hj2,rfl,hq,hJ⟩:=hrel
    clear HJ x1 hlt1
    have x1:=(cells2p (L8.row_up K0.out hJ.out.bel)).2
    have hlt1:=World.block_lt_of_cell? _ _ x1
    simp only at hlt1
    have hbw:=L2.bch HB.out hJ.out.bel
    have x0:=(hbw.cell (by exact hbl)).trans HX0.out
    have hw1:=World.block_lt_of_cell? _ _ x0
    simp only at hw1
    by_cases hjn:j<ln
    ·have hjl:j<s.labs.length:=by rw [HLN.out];exact hjn
     obtain⟨bb,oo,rfl,hbb,hcc⟩:=HLA.out (by omega)
     have z0:=(hbw.cell (by exact hbb)).trans (hcc j hjl)
     have hw2:=World.block_lt_of_cell? _ _ z0
     simp only at hw2
     have hsn:=pl_snoc PL s.labs k j hjl
     obtain⟨T,hT⟩:∃ T,s.labs[j]=T:=⟨_,rfl⟩
     obtain⟨Q,hQ⟩:∃ Q,PL++(s.labs.take j).map (fun x=>(x,k))=Q:=⟨_,rfl⟩
     rw [hT] at z0 hsn
     rw [hQ] at hJ hsn
     have HS:=Lib.hid hsn
     have hown:=hJ.out.n
     have howh:=hJ.out.w
     have HLq:=Lib.hid hJ.out.len
     have HBl:=Lib.hid hJ.out.bel
     have hszW:=HBl.out.size
     have hjI:(j:Int)<(ln:Int):=by omega
     clear hT hQ hsn hbw hcc hJ
     go_wp2_with (first
      | (at_builtin;refine wpList_append_own _ rfl _ _ 65 rfl W0.heap.size 9 i0 (.string ⟨#[]⟩) 1 16 Tryz.underlying65 hi hz0 hz1 hz2 rfl (by decide) _ q _ rfl (hown.alloc _) ⟨wr.heap.size,0,none⟩ 1 1 [.string T] rfl rfl (World.news_of_block (cs:=#[.string T]) (t:=9) (fr:=(0,0)) (heap_alloc_last wr _)) (by simp [Value.oneCell']) (by unfold maxLen;omega) (by omega) (by simp;omega) ?_;intro v' w3 hown3 hgrow3 _;have howh3:=own_two (howh.alloc _) (hown.alloc _) (by decide) hgrow3;have B3:=(HBl.out.alloc hszW (.cells #[.string T] 9)).grown hgrow3 (by simp;omega) (L8.own_base hown);have hsz3:=B3.size)
      | (at_builtin;refine wpList_append_own _ rfl _ _ 70 rfl W0.heap.size 3 j0 (.int .i64 0) 1 8 Tryz.underlying70 hj hy0 hy1 hy2 rfl (by decide) _ q _ rfl (howh3.alloc _) ⟨w3.heap.size,0,none⟩ 1 1 [.int .i64 (k:Int)] rfl rfl (World.news_of_block (cs:=#[.int .i64 (k:Int)]) (t:=3) (fr:=(0,0)) (heap_alloc_last w3 _)) (by simp [Value.oneCell']) (by unfold maxLen;omega) (by omega) (by simp;omega) ?_;intro v'' w5 howh5 hgrow5 _;have hown5:=own_two (hown3.alloc _) (howh3.alloc _) (by decide) hgrow5;have B5:=(B3.alloc hsz3 (.cells #[.int .i64 (k:Int)] 3)).grown hgrow5 (by simp;omega) (L8.own_base howh3))
      | go_in)
     go_roundw
     case rel =>
      refine⟨j+1,q+1,by omega,by go_num,by omega,Lib.hid ?_⟩
      rw [HS.out]
      refine⟨?_,?_,?_,B5⟩
      ·rw [List.map_append,List.map_cons,List.map_nil,L8.stC_snoc];exact hown5
      ·rw [List.map_append,List.map_cons,List.map_nil,inI,List.map_append];exact howh5
      ·rw [List.length_append,HLq.out];rfl
     case measure=>simp [intOf];omega
    ·obtain rfl:j=ln:=by omega
     have HJ2:Hid (LJ W0 wr _ _ q (prs 0 (p.stmts.take (k+1)))):=Lib.hid (by
      have h:=hJ.out
      rw [List.take_of_length_le (by rw [HLN.out];exact Nat.le_refl _),← HPR.out] at h
      exact h)
     clear hJ
     go_wp2
     go_roundw
     case rel=>exact⟨k+1,q,by omega,by go_num,by omega,HJ2⟩
     case measure=>simp [intOf];omega
  ·obtain rfl:k=n2:=by omega
   have hJ:=hI.out
   rw [List.take_of_length_le (by rw [HN.out];exact Nat.le_refl _)] at hJ
   obtain⟨va,vc,rfl⟩:=L8.owns_slice hJ.n
   obtain⟨ua,uc,rfl⟩:=L8.owns_slice hJ.w
   have HJ2:=Lib.hid hJ
   clear hI hJ
   go_wp2
   go_ret2
   have hJ:=HJ2.out
   have hl:=hJ.len
   subst hl
   refine⟨_,_,_,_,rfl,L8.own_st (by rw [List.length_map];exact hJ.n),own_inat (by rw [List.length_map];exact hJ.w),L2.bch HB.out hJ.bel⟩
end Go.Proofs.YtohkgdfkklfgmaaGreatDoor.L10
end
section
namespace Go.Proofs.YtohkgdfkklfgmaaGreatDoor.L10
open Go.RowKit
attribute [local go_sem] Oper.semAt_some
theorem fr_hit {c b:Bool} {x:Nat × Int} {r:List (Bool × Nat × Int)} {k i:Nat} {er e:Int} (h:frB ((c,x)::r)=(b,k,er)) (hx:x=(i,e)) (he:e≠0):k=i∧er=e:=by
 subst hx
 rw [frB,if_neg (by simpa using he)] at h
 simp only [Prod.mk.injEq] at h
 exact⟨h.2.1.symm,h.2.2.symm⟩
theorem fr_miss {c b:Bool} {x:Nat × Int} {r:List (Bool × Nat × Int)} {k i:Nat} {er:Int} (h:frB ((c,x)::r)=(b,k,er)) (hx:x=(i,0)):frB r=(b,k,er):=by
 subst hx
 rwa [frB,if_pos rfl] at h
theorem feM (l:List L9.Df) (g:L9.Df→Int) (j:Nat) (h:j<l.length):feF j ((l.map g).drop j)=if g l[j]=0 then feF (j+1) ((l.map g).drop (j+1)) else (j,g l[j]):=by
 have:=feF_step (l.map g) j (by simpa using h)
 simpa using this
theorem feS (l:List Stm) (g:Stm→Int) (j:Nat) (h:j<l.length):feF j ((l.map g).drop j)=if g l[j]=0 then feF (j+1) ((l.map g).drop (j+1)) else (j,g l[j]):=by
 have:=feF_step (l.map g) j (by simpa using h)
 simpa using this
theorem rrep10 (W:World) (v:Value) (l:List ByteArray) (hl:l.length≤1000) (h:L8.StAt W v l):Calls Tryz.prog 27 #[v] W fun e w'=>e=.returned (.int .i64 (L2.rp l))∧Below W.heap.size W w' :=
 (L2.rrep_any v l W hl h).mono fun e w' ⟨h1,m,h2⟩=>⟨h1,by subst h2;exact L8.bdN (Below.refl _ _) m⟩
theorem unE_lb (p:Pg) (s:Stm):unE p s=if (s.tg.toList.isEmpty || !decide (lbK p.stmts s.tg p.stmts.length<0)) && (s.mp.toList.isEmpty || !decide (mpI 0 p.maps s.mp<0)) then 0 else 11:=by
 rw [lbK_on,mpI_on,Bool.not_not,Bool.not_not]
 rfl
theorem wf_imm {x:Int} (h:(Lit.int .i64 x).wf=true):-9223372036854775808≤x∧x≤9223372036854775807:=by
 simpa [Lit.wf,IntKind.min,IntKind.max,IntKind.bits,IntKind.signed] using h
theorem rcheck10_at (vm vs:Value) (p:Pg) (w:World) (hp:PgAt w vm vs p) (hf:PgFit p) (hfew:p.maps.length≤300∧p.stmts.length≤60∧lsum p.stmts≤200) (b:Bool) (K:Nat) (er:Int) (hr:brV p=(b,K,er)) :
  Calls Tryz.prog 79 #[.agg #[vm,vs]] w fun e w'=>e=.returned (.tuple #[.int .i64 (K:Int),.int .i64 er])∧Below w.heap.size w w':=by
 obtain⟨i0,hi,hz0,hz1,hz2⟩:=info_parts L9.Tryz.info9
 have hs:=sml_few hfew
 obtain⟨n1,hn1⟩:∃ n,p.maps.length=n:=⟨_,rfl⟩
 obtain⟨n2,hn2⟩:∃ n,p.stmts.length=n:=⟨_,rfl⟩
 obtain⟨a1,c1,rfl,hd⟩:=df_form4 hn1 hp.1
 obtain⟨a2,c2,rfl,hc⟩:=sm_form hn2 hp.2
 have hm1:n1≤300:=hn1 ▸ hfew.1
 have hm2:n2≤60:=hn2 ▸ hfew.2.1
 have HP:=Lib.hid hp
 have HS0:=Lib.hid hs
 have HFW:=Lib.hid hfew
 have HFT:=Lib.hid hf
 have HD:=Lib.hid hd
 have HC:=Lib.hid hc
 have HN1:=Lib.hid hn1
 have HN2:=Lib.hid hn2
 have HR:=Lib.hid hr
 have HB:=Lib.hid (L8.bnew w (.cells #[.slice a1 n1 c1,.slice a2 n2 c2] 50))
 have K0:=Lib.hid (heap_alloc_last w (.cells #[.slice a1 n1 c1,.slice a2 n2 c2] 50))
 clear hp hs hf hfew hd hc hn1 hn2 hr
 go_enter Tryz.func79,Tryz.ntmps79
 go_upto_region 1 with (fail)
 obtain⟨k0,hk0⟩:∃ k,w.heap.size=k:=⟨_,rfl⟩
 rw [hk0] at K0 ⊢
 have HK0:=Lib.hid hk0
 obtain⟨x0,x1⟩:=cells2p K0.out
 have hlt0:=World.block_lt_of_cell? _ _ x0
 simp only at hlt0
 clear hk0
 generalize w.alloc (.cells #[.slice a1 n1 c1,.slice a2 n2 c2] 50)=W0 at K0 x0 x1 hlt0 HB ⊢
 have HI:Hid (W0.ownsRow W0.heap.size 9 1 (.slice none 0 0) 0 (L8.stC ((p.maps.take 0).map (·.nm)))∧Below W0.heap.size W0 W0∧feF 0 ((p.maps.map deE).drop 0)=fe (p.maps.map deE)):=Lib.hid ⟨World.ownsRow_nil _ _ _ _,Below.refl _ _,rfl⟩
 go_wp2
 go_loopw [4,5] (fun vn i wr=>∃ k:Nat,k≤n1∧i=.int .i64 (k:Int)∧Hid (wr.ownsRow W0.heap.size 9 1 vn k (L8.stC ((p.maps.take k).map (·.nm)))∧Below W0.heap.size W0 wr∧feF k ((p.maps.map deE).drop k)=fe (p.maps.map deE))) (fun _ i _=>n1-(intOf i).toNat)
 case atStart=>exact⟨0,Nat.zero_le _,rfl,HI⟩
 case round =>
  obtain⟨k,hk,rfl,hI⟩:=hrel
  clear HI x0 x1 hlt0
  obtain⟨x0,x1⟩:=cells2p (L8.row_up K0.out hI.out.2.1)
  have hlt0:=World.block_lt_of_cell? _ _ x0
  simp only at hlt0
  by_cases hlt:k<n1
  ·have hkl:k<p.maps.length:=by rw [HN1.out];exact hlt
   obtain⟨b1,o1,rfl,hb1,hcc⟩:=HD.out (by omega)
   obtain⟨z0,z1,z2,z3⟩:=hcc k hkl
   have hfit:=HFT.out.maps _ (List.getElem_mem hkl)
   have hstep:=feM p.maps deE k hkl
   rw [hI.out.2.2,deE_siz] at hstep
   have hown:=hI.out.1
   have HBW:=Lib.hid hI.out.2.1
   have hsz:=HBW.out.size
   have HTK:Hid ((p.maps.take (k+1)).map (·.nm)=(p.maps.take k).map (·.nm)++[p.maps[k].nm]):=Lib.hid (by rw [List.take_add_one,List.getElem?_eq_getElem hkl,Option.toList,List.map_append];rfl)
   obtain⟨d,hd⟩:∃ d,p.maps[k]=d:=⟨_,rfl⟩
   rw [hd] at z0 z1 z2 z3 hfit hstep HTK
   have HZ:=Lib.hid (And.intro z0 (And.intro z1 (And.intro z2 z3)))
   have hcw:=fun (W:World) (o:Nat) (v:Value) (hB:Below w.heap.size w W) (h:w.cell? ⟨b1,o,none⟩=some v)=>(hB.cell (p:=⟨b1,o,none⟩) hb1).trans h
   have HCW:=Lib.hid hcw
   have y0:=hcw wr _ _ (L2.bch HB.out HBW.out) z0
   have hw1:=World.block_lt_of_cell? _ _ y0
   simp only at hw1
   obtain⟨v,hv⟩:∃ v,L2.vd d.nm=v:=⟨_,rfl⟩
   obtain⟨s,hss⟩:∃ s,L9.sizV d=s:=⟨_,rfl⟩
   have HV:=Lib.hid (fun W=>L2.rvalid_at d.nm v W (Nat.le_trans hfit.nm (by decide)) hv)
   have HSZ:=Lib.hid (fun W=>L9.rsizes_at d s W hss)
   rw [hv,hss] at hstep
   have HST:=Lib.hid hstep
   clear hcw z0 z1 z2 z3 hcc hfit hstep hd hv hss hI
   cases v
   ·obtain⟨rfl,rfl⟩:K=k∧er=7:=fr_hit HR.out HST.out (by decide)
    go_wp2_with (first
     | (at_builtin;refine wpList_append_own _ rfl _ _ 65 rfl W0.heap.size 9 i0 (.string ⟨#[]⟩) 1 16 Tryz.underlying65 hi hz0 hz1 hz2 rfl (by decide) _ K _ rfl (hown.alloc _) ⟨wr.heap.size,0,none⟩ 1 1 [.string d.nm] rfl rfl (World.news_of_block (cs:=#[.string d.nm]) (t:=9) (fr:=(0,0)) (heap_alloc_last wr _)) (by simp [Value.oneCell']) (by unfold maxLen;omega) (by omega) (by simp;omega) ?_;intro v' w3 hown3 hgrow3 _;have B3:=(HBW.out.alloc hsz (.cells #[.string d.nm] 9)).grown hgrow3 (by simp;omega) (L8.own_base hown);have u0:=(cells2p (L8.row_up K0.out B3)).1;have ul:=World.block_lt_of_cell? _ _ u0;have t0:=HCW.out w3 _ _ (L2.bch HB.out B3) HZ.out.1;have tl:=World.block_lt_of_cell? _ _ t0;simp only at ul tl)
     | (go_at_call 25;((with_reducible refine (HV.out _).mono ?_);rintro e w4 ⟨rfl,rfl⟩))
     | go_in)
    go_ret2
    exact⟨rfl,L2.bch HB.out B3⟩
   cases s
   ·obtain⟨rfl,rfl⟩:K=k∧er=9:=fr_hit HR.out HST.out (by decide)
    go_wp2_with (first
     | (at_builtin;refine wpList_append_own _ rfl _ _ 65 rfl W0.heap.size 9 i0 (.string ⟨#[]⟩) 1 16 Tryz.underlying65 hi hz0 hz1 hz2 rfl (by decide) _ K _ rfl (hown.alloc _) ⟨wr.heap.size,0,none⟩ 1 1 [.string d.nm] rfl rfl (World.news_of_block (cs:=#[.string d.nm]) (t:=9) (fr:=(0,0)) (heap_alloc_last wr _)) (by simp [Value.oneCell']) (by unfold maxLen;omega) (by omega) (by simp;omega) ?_;intro v' w3 hown3 hgrow3 _;have B3:=(HBW.out.alloc hsz (.cells #[.string d.nm] 9)).grown hgrow3 (by simp;omega) (L8.own_base hown);have u0:=(cells2p (L8.row_up K0.out B3)).1;have ul:=World.block_lt_of_cell? _ _ u0;have t0:=HCW.out w3 _ _ (L2.bch HB.out B3) HZ.out.1;have t1:=HCW.out w3 _ _ (L2.bch HB.out B3) HZ.out.2.1;have t2:=HCW.out w3 _ _ (L2.bch HB.out B3) HZ.out.2.2.1;have t3:=HCW.out w3 _ _ (L2.bch HB.out B3) HZ.out.2.2.2;have tl:=World.block_lt_of_cell? _ _ t0;simp only at ul tl)
     | (go_at_call 25;((with_reducible refine (HV.out _).mono ?_);rintro e w4 ⟨rfl,rfl⟩))
     | (go_at_call 26;((with_reducible refine (HSZ.out _).mono ?_);rintro e w5 ⟨rfl,b5⟩))
     | go_in)
    go_ret2
    exact⟨rfl,L2.bch HB.out (L2.bch B3 b5)⟩
   ·go_wp2_with (first
     | (at_builtin;refine wpList_append_own _ rfl _ _ 65 rfl W0.heap.size 9 i0 (.string ⟨#[]⟩) 1 16 Tryz.underlying65 hi hz0 hz1 hz2 rfl (by decide) _ k _ rfl (hown.alloc _) ⟨wr.heap.size,0,none⟩ 1 1 [.string d.nm] rfl rfl (World.news_of_block (cs:=#[.string d.nm]) (t:=9) (fr:=(0,0)) (heap_alloc_last wr _)) (by simp [Value.oneCell']) (by unfold maxLen;omega) (by omega) (by simp;omega) ?_;intro v' w3 hown3 hgrow3 _;have B3:=(HBW.out.alloc hsz (.cells #[.string d.nm] 9)).grown hgrow3 (by simp;omega) (L8.own_base hown);have u0:=(cells2p (L8.row_up K0.out B3)).1;have ul:=World.block_lt_of_cell? _ _ u0;have t0:=HCW.out w3 _ _ (L2.bch HB.out B3) HZ.out.1;have t1:=HCW.out w3 _ _ (L2.bch HB.out B3) HZ.out.2.1;have t2:=HCW.out w3 _ _ (L2.bch HB.out B3) HZ.out.2.2.1;have t3:=HCW.out w3 _ _ (L2.bch HB.out B3) HZ.out.2.2.2;have tl:=World.block_lt_of_cell? _ _ t0;simp only at ul tl)
     | (go_at_call 25;((with_reducible refine (HV.out _).mono ?_);rintro e w4 ⟨rfl,rfl⟩))
     | (go_at_call 26;((with_reducible refine (HSZ.out _).mono ?_);rintro e w5 ⟨rfl,b5⟩))
     | go_in)
    go_roundw
    case rel=>exact⟨k+1,by omega,by go_num,Lib.hid ⟨by rw [HTK.out,L8.stC_snoc];exact L8.own_below hown3 b5,L2.bch B3 b5,HST.out.symm⟩⟩
    case measure=>simp [intOf];omega
  ·obtain rfl:k=n1:=by omega
   have hI':=hI.out
   rw [List.take_of_length_le (by rw [HN1.out];exact Nat.le_refl _),feF_end _ _ (by rw [List.length_map,HN1.out];exact Nat.le_refl _)] at hI'
   obtain⟨va,vc,rfl⟩:=L8.owns_slice hI'.1
   have HNM:Hid (L8.StAt wr (.slice va k vc) (p.maps.map (·.nm))):=Lib.hid (by
    have h:=hI'.1
    rw [← HN1.out] at h ⊢
    have:=L8.own_st (l:=p.maps.map (·.nm)) (by rw [List.length_map];exact h)
    exact this)
   have HBW:=Lib.hid hI'.2.1
   have HR1:=Lib.hid (fr_miss HR.out hI'.2.2.symm)
   have HJ:Hid (Below wr.heap.size wr wr∧feF 0 ((p.stmts.map stE).drop 0)=fe (p.stmts.map stE)):=Lib.hid ⟨Below.refl _ _,rfl⟩
   clear hI hI' HR
   obtain⟨w1,rfl⟩:∃ w1,w1=wr:=⟨_,rfl⟩
   go_upto_region 10 with (fail)
   go_wp2
   go_loopw [6,7] (fun i _ wi=>∃ k2:Nat,k2≤n2∧i=.int .i64 (k2:Int)∧Hid (Below w1.heap.size w1 wi∧feF k2 ((p.stmts.map stE).drop k2)=fe (p.stmts.map stE))) (fun i _ _=>n2-(intOf i).toNat)
   case atStart=>exact⟨0,Nat.zero_le _,rfl,HJ⟩
   case round =>
    obtain⟨k2,hk2,rfl,hJ⟩:=hrel
    clear HJ x0 x1 hlt0
    obtain⟨x0,x1⟩:=cells2p (L8.row_up (L8.row_up K0.out HBW.out) hJ.out.1)
    have hlt0:=World.block_lt_of_cell? _ _ x0
    simp only at hlt0
    have HB2:=Lib.hid (L2.bch (L2.bch HB.out HBW.out) hJ.out.1)
    by_cases hlt2:k2<n2
    ·have hkl:k2<p.stmts.length:=by rw [HN2.out];exact hlt2
     obtain⟨b2,o2,rfl,hb2,hcc⟩:=HC.out (by omega)
     obtain⟨lv,hst,hx⟩:=hcc k2 hkl
     have hX:=fun i u hu=>(HB2.out.cell (by exact hb2)).trans (hx i u hu)
     have y0:=hX 0 _ rfl
     have y1:=hX 1 _ rfl
     have y2:=hX 2 _ rfl
     have y3:=hX 3 _ rfl
     have y4:=hX 4 _ rfl
     have y5:=hX 5 _ rfl
     have y6:=hX 6 _ rfl
     have y7:=hX 7 _ rfl
     have y8:=hX 8 _ rfl
     rw [Nat.add_zero] at y0
     have hw1:=World.block_lt_of_cell? _ _ y0
     simp only at hw1
     have hfit:=HFT.out.stmts _ (List.getElem_mem hkl)
     have hll:=HS0.out.labs _ (List.getElem_mem hkl)
     have hstep:=feS p.stmts stE k2 hkl
     rw [hJ.out.2] at hstep
     obtain⟨s,hs⟩:∃ s,p.stmts[k2]=s:=⟨_,rfl⟩
     rw [hs] at y1 y2 y3 y4 y5 y6 y7 y8 hst hfit hll hstep
     obtain⟨e,he⟩:∃ e,stE s=e:=⟨_,rfl⟩
     have HS:=Lib.hid (rstmt_at lv s.labs s.x.op s.x.reg s.x.dst s.x.src s.x.off s.x.imm s.tg s.mp e wr (hst.below HB2.out) hll hfit.lb hfit.tg hfit.mp (wf_imm hfit.imm).1 (wf_imm hfit.imm).2 he)
     rw [he] at hstep
     have HST:=Lib.hid hstep
     clear hx hX hcc hst hfit hll hs he hstep
     by_cases he0:e=0
     ·subst he0
      have HS2:=Lib.hid (show fe (p.stmts.map stE)=feF (k2+1) ((p.stmts.map stE).drop (k2+1)) by rw [HST.out,if_pos rfl])
      go_wp2_with (go_at_call 99;((with_reducible refine (HS.out).mono ?_);rintro e w4 ⟨rfl,b4⟩))
      go_roundw
      case rel=>exact⟨k2+1,by omega,by go_num,Lib.hid ⟨L2.bch hJ.out.1 b4,HS2.out.symm⟩⟩
      case measure=>simp [intOf];omega
     ·obtain⟨rfl,rfl⟩:K=k2∧er=e:=fr_hit HR1.out (by rw [HST.out,if_neg he0]) he0
      go_wp2_with (go_at_call 99;((with_reducible refine (HS.out).mono ?_);rintro e w4 ⟨rfl,b4⟩))
      go_ret2
      exact⟨rfl,L2.bch HB2.out b4⟩
    ·obtain rfl:k2=n2:=by omega
     have hJ':=hJ.out.2
     rw [feF_end _ _ (by rw [List.length_map,HN2.out];exact Nat.le_refl _)] at hJ'
     have HR2:=Lib.hid (fr_miss HR1.out hJ'.symm)
     have HNM2:=Lib.hid (HNM.out.below hJ.out.1)
     have HPR:=Lib.hid (L8.row_up (L8.row_up K0.out HBW.out) hJ.out.1)
     clear hJ hJ' HR1 HNM
     have hsz:=fe_sz p.maps.length
     rw [HN1.out] at hsz
     by_cases h255:k≤255
     ·rw [if_pos h255] at hsz
      have HR3:=Lib.hid (fr_miss HR2.out (by rw [HN1.out];exact hsz))
      clear HR2 hsz
      have HG:=Lib.hid (fun (W:World) (hb:Below w.heap.size w W)=>rlabels_at (.slice a1 k c1) (.slice a2 k2 c2) p W (HP.out.below hb) HS0.out)
      have hRP1:=rrep10 wr (.slice va k vc) (p.maps.map (·.nm)) (by rw [List.length_map,HN1.out];omega) HNM2.out
      rcases dp_maps p.maps with ⟨hrp,hfe⟩|⟨m,hrp,hfe⟩
      ·rw [hrp] at hRP1
       have HRP1:=Lib.hid hRP1
       have HR4:=Lib.hid (fr_miss HR3.out hfe)
       clear hRP1 hrp hfe HR3
       have HPL:Hid (((prs 0 p.stmts).map (·.1)).length≤1000):=Lib.hid (by
        rw [prs_fst,lsum_flat]
        have:=HFW.out.2.2
        omega)
       obtain⟨nl,hnl⟩:∃ nl,(prs 0 p.stmts).length=nl:=⟨_,rfl⟩
       simp only [hnl] at HG
       have HNL:=Lib.hid hnl
       clear hnl
       rcases dp_labs p.stmts with ⟨hrp,hfe⟩|⟨m,hm,hrp,hfe⟩
       ·have HRP2:=Lib.hid (fun (W:World) (v:Value) (h:L8.StAt W v ((prs 0 p.stmts).map (·.1)))=>hrp ▸ rrep10 W v _ HPL.out h)
        have HR5:=Lib.hid (fr_miss HR4.out hfe)
        clear hrp hfe HR4
        by_cases hz:k2=0
        ·subst hz
         obtain⟨rfl,rfl⟩:K=0∧er=15:=fr_hit HR5.out (by rw [HN2.out];rfl) (by decide)
         go_wp2_with (first
          | (go_at_call 27;((with_reducible refine (HRP1.out).mono ?_);rintro e w4 ⟨rfl,b4⟩;have B4:=L2.bch HB2.out b4;have r4:=L8.row_up HPR.out b4;have q0:=(cells2p r4).1;have q1:=(cells2p r4).2))
          | (go_at_call 100;((with_reducible refine (HG.out _ B4).mono ?_);rintro e w5 ⟨a3,c3,a4,c4,rfl,hst5,hin5,b5⟩))
          | (go_at_call 27;((with_reducible refine (HRP2.out _ _ hst5).mono ?_);rintro e w6 ⟨rfl,b6⟩;have B6:=L2.bch (L2.bch B4 b5) b6;have r6:=L8.row_up (L8.row_up r4 b5) b6;have p0:=(cells2p r6).1;have p1:=(cells2p r6).2;have pl:=World.block_lt_of_cell? _ _ p0;simp only at pl)))
         go_ret2
         exact⟨rfl,B6⟩
        ·have HR6:=Lib.hid (fr_miss HR5.out (by rw [HN2.out,if_pos (by omega)]))
         clear HR5
         have hk2p:(0:Int)<(k2:Int):=by omega
         have hk2e:((k2:Int)==0)=false:=by simpa using hz
         have hpos:0<k2:=by omega
         clear hz
         go_upto_region 27 with (first
          | (go_at_call 27;((with_reducible refine (HRP1.out).mono ?_);rintro e w4 ⟨rfl,b4⟩;have B4:=L2.bch HB2.out b4;have r4:=L8.row_up HPR.out b4;have q0:=(cells2p r4).1;have q1:=(cells2p r4).2))
          | (go_at_call 100;((with_reducible refine (HG.out _ B4).mono ?_);rintro e w5 ⟨a3,c3,a4,c4,rfl,hst5,hin5,b5⟩))
          | (go_at_call 27;((with_reducible refine (HRP2.out _ _ hst5).mono ?_);rintro e w6 ⟨rfl,b6⟩;have B6:=L2.bch (L2.bch B4 b5) b6;have r6:=L8.row_up (L8.row_up r4 b5) b6;have p0:=(cells2p r6).1;have p1:=(cells2p r6).2;have pl:=World.block_lt_of_cell? _ _ p0;simp only at pl)))
         have HB6:=Lib.hid B6
         have HR66:=Lib.hid r6
         clear x0 x1 hlt0 q0 q1 p0 p1 pl b4 b5 b6 B4 B6 r4 r6 hst5 hin5
         have HQ:Hid (Below w6.heap.size w6 w6∧feF 0 ((p.stmts.map (unE p)).drop 0)=fe (p.stmts.map (unE p))):=Lib.hid ⟨Below.refl _ _,rfl⟩
         go_wp2
         go_loopw [11,12] (fun iv _ wi=>∃ i:Nat,i≤k2∧iv=.int .i64 (i:Int)∧Hid (Below w6.heap.size w6 wi∧feF i ((p.stmts.map (unE p)).drop i)=fe (p.stmts.map (unE p)))) (fun iv _ _=>k2-(intOf iv).toNat)
         case atStart=>exact⟨0,Nat.zero_le _,rfl,HQ⟩
         case round =>
          obtain⟨i,hi2,rfl,hQ⟩:=hrel
          clear HQ
          have HPW:=Lib.hid (L8.row_up HR66.out hQ.out.1)
          have HB2':=Lib.hid (L2.bch HB6.out hQ.out.1)
          obtain⟨x0,x1⟩:=cells2p HPW.out
          have hlt0:=World.block_lt_of_cell? _ _ x0
          simp only at hlt0
          by_cases hlt3:i<k2
          ·have hkl:i<p.stmts.length:=by rw [HN2.out];exact hlt3
           obtain⟨b2,o2,rfl,hb2,hcc⟩:=HC.out (by omega)
           obtain⟨lv,hst,hx⟩:=hcc i hkl
           have hX:=fun i u hu=>(HB2'.out.cell (by exact hb2)).trans (hx i u hu)
           have y0:=hX 0 _ rfl
           have y1:=hX 1 _ rfl
           have y2:=hX 2 _ rfl
           have y3:=hX 3 _ rfl
           have y4:=hX 4 _ rfl
           have y5:=hX 5 _ rfl
           have y6:=hX 6 _ rfl
           have y7:=hX 7 _ rfl
           have y8:=hX 8 _ rfl
           rw [Nat.add_zero] at y0
           have hw1:=World.block_lt_of_cell? _ _ y0
           simp only at hw1
           have hstep:=feS p.stmts (unE p) i hkl
           rw [hQ.out.2] at hstep
           obtain⟨s,hs⟩:∃ s,p.stmts[i]=s:=⟨_,rfl⟩
           rw [hs] at y1 y2 y3 y4 y5 y6 y7 y8 hstep
           obtain⟨ln,hln⟩:∃ ln,s.labs.length=ln:=⟨_,rfl⟩
           rw [hs] at hst
           obtain⟨la,lc,rfl,-⟩:=st_form hln hst
           have hun:=unE_lb p s
           have hlbq:=fun W hb=>rlabel_at (.slice a1 k c1) (.slice (some ⟨b2,o2,none⟩) k2 c2) p s.tg W (HP.out.below hb) HS0.out
           have hmpq:=fun W hb=>rmap_at (.slice a1 k c1) (.slice (some ⟨b2,o2,none⟩) k2 c2) p s.mp W (HP.out.below hb) HS0.out
           obtain⟨lb,hlbe⟩:∃ lb,lbK p.stmts s.tg p.stmts.length=lb:=⟨_,rfl⟩
           obtain⟨mi,hmie⟩:∃ mi,mpI 0 p.maps s.mp=mi:=⟨_,rfl⟩
           simp only [hlbe] at hlbq hun
           simp only [hmie] at hmpq hun
           have HLB:=Lib.hid hlbq
           have HMP:=Lib.hid hmpq
           have HUN:=Lib.hid hun
           have HST:=Lib.hid hstep
           have HB3:Hid (Below w.heap.size w (wr.alloc (.cells (smA (.slice la ln lc) s.x.op s.x.reg s.x.dst s.x.src s.x.off s.x.imm s.tg s.mp) 94))):=Lib.hid (L2.bch HB2'.out (L8.bnew _ _))
           have HIW:Hid (Below w6.heap.size w6 (wr.alloc (.cells (smA (.slice la ln lc) s.x.op s.x.reg s.x.dst s.x.src s.x.off s.x.imm s.tg s.mp) 94))):=Lib.hid (L2.bch hQ.out.1 (L8.bnew _ _))
           have R3:=Lib.hid (L8.row_up HPW.out (L8.bnew wr (.cells (smA (.slice la ln lc) s.x.op s.x.reg s.x.dst s.x.src s.x.off s.x.imm s.tg s.mp) 94)))
           have R5:=Lib.hid (heap_alloc_last wr (.cells (smA (.slice la ln lc) s.x.op s.x.reg s.x.dst s.x.src s.x.off s.x.imm s.tg s.mp) 94))
           clear hx hX hcc hst hs hln hstep hun hlbq hmpq hlbe hmie
           go_upto_region 31 with (fail)
           clear y0 y1 y2 y3 y4 y5 y6 y7 y8 hw1 x0 x1 hlt0
           generalize wr.alloc (.cells (smA (.slice la ln lc) s.x.op s.x.reg s.x.dst s.x.src s.x.off s.x.imm s.tg s.mp) 94)=W3 at HB3 HIW R3 R5 ⊢
           generalize wr.heap.size=k5 at R5 ⊢
           obtain⟨x0,x1⟩:=cells2p R3.out
           obtain⟨-,-,-,-,-,-,-,z7,z8⟩:=cells9 R5.out
           cases hte:s.tg.toList.isEmpty
           ·by_cases hlb:lb<0
            ·have HX:=Lib.hid hlb
             obtain⟨rfl,rfl⟩:K=i∧er=11:=fr_hit HR6.out (by rw [HST.out,if_neg (by rw [HUN.out];simp [hte,HX.out]),HUN.out];simp [hte,HX.out]) (by decide)
             go_wp2_with (first
              | (go_at_call 83;((with_reducible refine (HLB.out _ HB3.out).mono ?_);rintro e w4 ⟨rfl,b4⟩;have B4:=L2.bch HB3.out b4;have r4:=L8.row_up R3.out b4;have s4:=L8.row_up R5.out b4;have v0:=(cells2p r4).1;have v1:=(cells2p r4).2;have v8:=(cells9 s4).2.2.2.2.2.2.2.2)))
             go_ret2
             exact⟨rfl,B4⟩
            ·have HX:=Lib.hid hlb
             cases hme:s.mp.toList.isEmpty
             ·by_cases hmi:mi<0
              ·have HY:=Lib.hid hmi
               obtain⟨rfl,rfl⟩:K=i∧er=11:=fr_hit HR6.out (by rw [HST.out,if_neg (by rw [HUN.out];simp [hte,hme,HX.out,HY.out]),HUN.out];simp [hte,hme,HX.out,HY.out]) (by decide)
               go_wp2_with (first
                | (go_at_call 83;((with_reducible refine (HLB.out _ HB3.out).mono ?_);rintro e w4 ⟨rfl,b4⟩;have B4:=L2.bch HB3.out b4;have r4:=L8.row_up R3.out b4;have s4:=L8.row_up R5.out b4;have v0:=(cells2p r4).1;have v1:=(cells2p r4).2;have v8:=(cells9 s4).2.2.2.2.2.2.2.2))
                | (go_at_call 85;((with_reducible refine (HMP.out _ B4).mono ?_);rintro e w5 ⟨rfl,b5⟩;have B5:=L2.bch B4 b5)))
               go_ret2
               exact⟨rfl,B5⟩
              ·have HY:=Lib.hid hmi
               have HS2:=Lib.hid (show fe (p.stmts.map (unE p))=feF (i+1) ((p.stmts.map (unE p)).drop (i+1)) by rw [HST.out,if_pos (by rw [HUN.out];simp [hte,hme,HX.out,HY.out])])
               go_wp2_with (first
                | (go_at_call 83;((with_reducible refine (HLB.out _ HB3.out).mono ?_);rintro e w4 ⟨rfl,b4⟩;have B4:=L2.bch HB3.out b4;have r4:=L8.row_up R3.out b4;have s4:=L8.row_up R5.out b4;have v0:=(cells2p r4).1;have v1:=(cells2p r4).2;have v8:=(cells9 s4).2.2.2.2.2.2.2.2))
                | (go_at_call 85;((with_reducible refine (HMP.out _ B4).mono ?_);rintro e w5 ⟨rfl,b5⟩;have B5:=L2.bch B4 b5)))
               go_roundw
               case rel=>exact⟨i+1,by omega,by go_num,Lib.hid ⟨L2.bch (L2.bch HIW.out b4) b5,HS2.out.symm⟩⟩
               case measure=>simp [intOf];omega
             ·skip
              have HS2:=Lib.hid (show fe (p.stmts.map (unE p))=feF (i+1) ((p.stmts.map (unE p)).drop (i+1)) by rw [HST.out,if_pos (by rw [HUN.out];simp [hte,hme,HX.out])])
              go_wp2_with (first
               | (go_at_call 83;((with_reducible refine (HLB.out _ HB3.out).mono ?_);rintro e w4 ⟨rfl,b4⟩;have B4:=L2.bch HB3.out b4;have r4:=L8.row_up R3.out b4;have s4:=L8.row_up R5.out b4;have v0:=(cells2p r4).1;have v1:=(cells2p r4).2;have v8:=(cells9 s4).2.2.2.2.2.2.2.2)))
              go_roundw
              case rel=>exact⟨i+1,by omega,by go_num,Lib.hid ⟨L2.bch HIW.out b4,HS2.out.symm⟩⟩
              case measure=>simp [intOf];omega
           ·cases hme:s.mp.toList.isEmpty
            ·by_cases hmi:mi<0
             ·have HY:=Lib.hid hmi
              obtain⟨rfl,rfl⟩:K=i∧er=11:=fr_hit HR6.out (by rw [HST.out,if_neg (by rw [HUN.out];simp [hte,hme,HY.out]),HUN.out];simp [hte,hme,HY.out]) (by decide)
              go_wp2_with (first
               | (go_at_call 85;((with_reducible refine (HMP.out _ HB3.out).mono ?_);rintro e w5 ⟨rfl,b5⟩;have B5:=L2.bch HB3.out b5)))
              go_ret2
              exact⟨rfl,B5⟩
             ·have HY:=Lib.hid hmi
              have HS2:=Lib.hid (show fe (p.stmts.map (unE p))=feF (i+1) ((p.stmts.map (unE p)).drop (i+1)) by rw [HST.out,if_pos (by rw [HUN.out];simp [hte,hme,HY.out])])
              go_wp2_with (first
               | (go_at_call 85;((with_reducible refine (HMP.out _ HB3.out).mono ?_);rintro e w5 ⟨rfl,b5⟩;have B5:=L2.bch HB3.out b5)))
              go_roundw
              case rel=>exact⟨i+1,by omega,by go_num,Lib.hid ⟨L2.bch HIW.out b5,HS2.out.symm⟩⟩
              case measure=>simp [intOf];omega
            ·skip
             have HS2:=Lib.hid (show fe (p.stmts.map (unE p))=feF (i+1) ((p.stmts.map (unE p)).drop (i+1)) by rw [HST.out,if_pos (by rw [HUN.out];simp [hte,hme])])
             go_wp2
             go_roundw
             case rel=>exact⟨i+1,by omega,by go_num,Lib.hid ⟨HIW.out,HS2.out.symm⟩⟩
             case measure=>simp [intOf];omega
          ·obtain rfl:i=k2:=by omega
           have hQ':=hQ.out.2
           rw [feF_end _ _ (by rw [List.length_map,HN2.out];exact Nat.le_refl _)] at hQ'
           have HR7:=Lib.hid (fr_miss HR6.out hQ'.symm)
           clear hQ' HR6
           obtain⟨w8,rfl⟩:∃ w8,w8=wr:=⟨_,rfl⟩
           have HV0:Hid (Below w8.heap.size w8 w8∧feF 0 ((p.stmts.map wrE).drop 0)=fe (p.stmts.map wrE)):=Lib.hid ⟨Below.refl _ _,rfl⟩
           go_upto_region 33 with (fail)
           go_wp2
           go_loopw [13] (fun iv wi=>∃ j:Nat,j≤i∧iv=.int .i64 (j:Int)∧Hid (Below w8.heap.size w8 wi∧feF j ((p.stmts.map wrE).drop j)=fe (p.stmts.map wrE))) (fun iv _=>i-(intOf iv).toNat)
           case atStart=>exact⟨0,Nat.zero_le _,rfl,HV0⟩
           case round =>
            obtain⟨j,hj2,rfl,hV⟩:=hrel
            clear HV0 x0 x1 hlt0
            have HPX:=Lib.hid (L8.row_up HPW.out hV.out.1)
            have HB8:=Lib.hid (L2.bch HB2'.out hV.out.1)
            obtain⟨x0,x1⟩:=cells2p HPX.out
            have hlt0:=World.block_lt_of_cell? _ _ x0
            simp only at hlt0
            by_cases hlt4:j<i
            ·have hkl:j<p.stmts.length:=by rw [HN2.out];exact hlt4
             obtain⟨b2,o2,rfl,hb2,hcc⟩:=HC.out (by omega)
             obtain⟨lv,hst,hx⟩:=hcc j hkl
             have hX:=fun i u hu=>(HB8.out.cell (by exact hb2)).trans (hx i u hu)
             have y0:=hX 0 _ rfl
             have y1:=hX 1 _ rfl
             have y2:=hX 2 _ rfl
             have y3:=hX 3 _ rfl
             have y4:=hX 4 _ rfl
             have y5:=hX 5 _ rfl
             have y6:=hX 6 _ rfl
             have y7:=hX 7 _ rfl
             have y8:=hX 8 _ rfl
             rw [Nat.add_zero] at y0
             have hw1:=World.block_lt_of_cell? _ _ y0
             simp only at hw1
             have hstep:=feS p.stmts wrE j hkl
             rw [hV.out.2] at hstep
             obtain⟨s,hs⟩:∃ s,p.stmts[j]=s:=⟨_,rfl⟩
             rw [hs] at y1 y2 y3 y4 y5 y6 y7 y8 hstep
             obtain⟨v,hv⟩:∃ v,L4.wri (fmI s.x) s.x.dst=v:=⟨_,rfl⟩
             rw [wrE,hv] at hstep
             have HWR:=Lib.hid (L4.rwrites_at s.x.op s.x.reg s.x.dst s.x.src s.x.off s.x.imm _ v wr rfl hv)
             have HST:=Lib.hid hstep
             clear hx hX hcc hst hs hstep hv y7 y8
             by_cases hv10:v=10
             ·subst hv10
              obtain⟨rfl,rfl⟩:K=j∧er=14:=fr_hit HR7.out (by rw [HST.out,if_pos rfl,if_neg (by decide)]) (by decide)
              go_wp2_with (go_at_call 101;((with_reducible refine (HWR.out).mono ?_);rintro e w9 ⟨rfl,b9⟩))
              go_ret2
              exact⟨rfl,L2.bch HB8.out b9⟩
             ·have HS2:=Lib.hid (show fe (p.stmts.map wrE)=feF (j+1) ((p.stmts.map wrE).drop (j+1)) by rw [HST.out,if_neg hv10,if_pos rfl])
              have hv11:(v==10)=false:=by simpa using hv10
              go_wp2_with (go_at_call 101;((with_reducible refine (HWR.out).mono ?_);rintro e w9 ⟨rfl,b9⟩))
              go_roundw
              case rel=>exact⟨j+1,by omega,by go_num,Lib.hid ⟨L2.bch hV.out.1 b9,HS2.out.symm⟩⟩
              case measure=>simp [intOf];omega
            ·obtain rfl:j=i:=by omega
             have hV':=hV.out.2
             rw [feF_end _ _ (by rw [List.length_map,HN2.out];exact Nat.le_refl _)] at hV'
             have HR8:=Lib.hid (fr_miss HR7.out hV'.symm)
             clear hV' HR7
             have hkl:j-1<p.stmts.length:=by rw [HN2.out];omega
             obtain⟨b2,o2,rfl,hb2,hcc⟩:=HC.out (by omega)
             obtain⟨lv,hst,hx⟩:=hcc (j-1) hkl
             have y1:=(HB8.out.cell (by exact hb2)).trans (hx 1 _ rfl)
             have y0:=(HB8.out.cell (by exact hb2)).trans (hx 0 _ rfl)
             rw [Nat.add_zero] at y0
             have hw1:=World.block_lt_of_cell? _ _ y0
             simp only at hw1
             have hen:=fe_en j p.stmts HN2.out hpos
             obtain⟨s,hs⟩:∃ s,p.stmts[j-1]=s:=⟨_,rfl⟩
             rw [hs] at y1 hen
             obtain⟨f,hf⟩:∃ f,L3.frm (L3.ix s.x.op)=f:=⟨_,rfl⟩
             have HF:=Lib.hid (fun W=>L3.rform_at s.x.op f W hf)
             rw [fmI,hf] at hen
             have HEN:=Lib.hid hen
             have g0:(0:Int)≤(j:Int)-1:=by omega
             have g1:IntKind.i64.wrap ((j:Int)-1)=(j:Int)-1:=IntWalk.i64_in _ (by omega)
             have g2:(j:Int)-1<(j:Int):=by omega
             have g3:((j:Int)-1).toNat=j-1:=by omega
             have g4:j-1<j:=by omega
             have HN:Hid (p.stmts.length=j):=HN2
             clear hx hcc hst hs hen hf hkl
             have hk:((f==3)=true∧L4.endF f=true)∨((f==3)=false∧(f==6)=true∧L4.endF f=true)∨((f==3)=false∧(f==6)=false∧L4.endF f=false):=by
              unfold L4.endF
              cases h3:(f==3) <;> cases h6:(f==6) <;> simp
             rcases hk with ⟨h3,he⟩|⟨h3,h6,he⟩|⟨h3,h6,he⟩
             ·have h9:=fr_miss HR8.out (by rw [HN2.out,HEN.out,if_pos he])
              obtain⟨rfl,rfl⟩:K=0∧er=0:=by
               simp only [frB,Prod.mk.injEq] at h9
               exact⟨h9.2.1.symm,h9.2.2.symm⟩
              have n3:(f != 3)=false:=by rw [bne,h3];rfl
              clear h9 he
              go_wp2_with (go_at_call 86;((with_reducible refine (HF.out _).mono ?_);rintro e w9 ⟨rfl,rfl⟩))
              go_ret2
              exact⟨rfl,HB8.out⟩
             ·have h9:=fr_miss HR8.out (by rw [HN2.out,HEN.out,if_pos he])
              obtain⟨rfl,rfl⟩:K=0∧er=0:=by
               simp only [frB,Prod.mk.injEq] at h9
               exact⟨h9.2.1.symm,h9.2.2.symm⟩
              have n3:(f != 3)=true:=by rw [bne,h3];rfl
              have n6:(f != 6)=false:=by rw [bne,h6];rfl
              clear h9 he
              go_wp2_with (go_at_call 86;((with_reducible refine (HF.out _).mono ?_);rintro e w9 ⟨rfl,rfl⟩))
              go_ret2
              exact⟨rfl,HB8.out⟩
             ·obtain⟨rfl,rfl⟩:K=j-1∧er=15:=fr_hit HR8.out (by rw [HN2.out,HEN.out,if_neg (by rw [he];decide)]) (by decide)
              have n3:(f != 3)=true:=by rw [bne,h3];rfl
              have n6:(f != 6)=true:=by rw [bne,h6];rfl
              have g5:(((j-1:Nat)):Int)=(j:Int)-1:=by omega
              clear he
              go_wp2_with (go_at_call 86;((with_reducible refine (HF.out _).mono ?_);rintro e w9 ⟨rfl,rfl⟩))
              go_ret2
              first|exact⟨rfl,HB8.out⟩|exact⟨by rw [g5];rfl,HB8.out⟩|exact⟨by simp [g5],HB8.out⟩
       ·have HRP2:=Lib.hid (fun (W:World) (v:Value) (h:L8.StAt W v ((prs 0 p.stmts).map (·.1)))=>hrp ▸ rrep10 W v _ HPL.out h)
        obtain⟨hK,rfl⟩:=fr_hit HR4.out hfe (by decide)
        have h0:(0:Int)≤(m:Int):=by omega
        have hmn:m<nl:=by rw [← HNL.out];exact hm
        have hmi:(m:Int)<(nl:Int):=by omega
        have HZ:Hid (∀ (W:World) (v:Value),InAt W v ((prs 0 p.stmts).map (fun y=>(y.2:Int)))→∀ a c,v=.slice a nl c→∃ b o,a=some ⟨b,o,none⟩∧b<W.heap.size∧W.cell? ⟨b,o+m,none⟩=some (.int .i64 (K:Int))):=Lib.hid (fun W v h a c hv=>by
         subst hv
         obtain⟨ax,cx,hax,hay⟩:=in_form (n:=nl) (by rw [List.length_map];exact HNL.out) h
         cases hax
         obtain⟨b9,o9,h1,h2,h3⟩:=hay (by omega)
         refine⟨b9,o9,h1,h2,?_⟩
         have:=h3 m (by rw [List.length_map];exact hm)
         rw [List.getElem_map,← hK] at this
         exact this)
        clear hrp hfe HR4 hK
        go_wp2_with (first
         | (go_at_call 27;((with_reducible refine (HRP1.out).mono ?_);rintro e w4 ⟨rfl,b4⟩;have B4:=L2.bch HB2.out b4;have r4:=L8.row_up HPR.out b4;have q0:=(cells2p r4).1;have q1:=(cells2p r4).2))
         | (go_at_call 100;((with_reducible refine (HG.out _ B4).mono ?_);rintro e w5 ⟨a3,c3,a4,c4,rfl,hst5,hin5,b5⟩;obtain⟨b9,o9,rfl,hb9,hc9⟩:=HZ.out _ _ hin5 _ _ rfl))
         | (go_at_call 27;((with_reducible refine (HRP2.out _ _ hst5).mono ?_);rintro e w6 ⟨rfl,b6⟩;have B6:=L2.bch (L2.bch B4 b5) b6;have p9:=(b6.cell (by exact hb9)).trans hc9;have pl:=World.block_lt_of_cell? _ _ p9;simp only at pl)))
        go_ret2
        exact⟨rfl,B6⟩
      ·rw [hrp] at hRP1
       have HRP1:=Lib.hid hRP1
       obtain⟨rfl,rfl⟩:K=m∧er=10:=fr_hit HR3.out hfe (by decide)
       have h0:(0:Int)≤(K:Int):=by omega
       clear hRP1 hrp hfe HR3
       go_wp2_with (go_at_call 27;((with_reducible refine (HRP1.out).mono ?_);rintro e w4 ⟨rfl,b4⟩))
       go_ret2
       exact⟨rfl,L2.bch HB2.out b4⟩
     ·rw [if_neg h255] at hsz
      obtain⟨rfl,rfl⟩:K=255∧er=16:=fr_hit HR2.out (by rw [HN1.out];exact hsz) (by decide)
      clear HR2 hsz
      have hg:(255:Int)<(k:Int):=by omega
      go_wp2
      go_ret2
      exact⟨rfl,HB2.out⟩
end Go.Proofs.YtohkgdfkklfgmaaGreatDoor.L10
end
section
namespace Go.Proofs.YtohkgdfkklfgmaaGreatDoor.L10
open Go.RowKit
attribute [local go_sem] Oper.semAt_some
theorem fits_few {p:Pg} (hf:PgFit p) (h:p.maps.length≤300∧p.stmts.length≤60∧lsum p.stmts≤200):Fits p :=
 ⟨by omega,by omega,by have:=lsum_flat p.stmts;unfold alL;omega,fun d hd=>(hf.maps d hd).nm,fun s hs=>(hf.stmts s hs).lb,fun s hs=>⟨(hf.stmts s hs).tg,(hf.stmts s hs).mp⟩⟩
end Go.Proofs.YtohkgdfkklfgmaaGreatDoor.L10
end
