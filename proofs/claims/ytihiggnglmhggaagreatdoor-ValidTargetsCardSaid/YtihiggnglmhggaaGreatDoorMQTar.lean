/- Lemmas and walks of L17Rt, L17Lt, L12Op: what each theorem states; conditions stand in each theorem. -/
import Derived.Test.YtihiggnglmhggaaGreatDoorMQR
set_option maxHeartbeats 8000000
set_option maxRecDepth 100000
section
section
namespace Go.Proofs.YtihiggnglmhggaaGreatDoor.L17
open Go.RowKit L3 L4 L12 L14
attribute [local go_sem] Oper.semAt_some
theorem nums_in {W:World} {B e:TypeId} {v:Value} {n:Nat} {xs:List Int} (h:W.ownsRow B e 1 v n (xs.map eZ)) (hn:xs.length=n):L10.InAt W v xs:=by
 subst hn
 rcases h.2 with ⟨rfl,h0⟩|⟨g,cap,cur,rfl,_,hh,_⟩
 ·exact .inr ⟨List.eq_nil_of_length_eq_zero h0,none,0,rfl⟩
 ·refine .inl ⟨g,0,cap,rfl,lt_of_block hh,fun k hk=>?_⟩
  have:=h.cells (g:=g) rfl k (eZ xs[k]) (by simp [List.getElem?_eq_getElem hk])
  rw [Nat.zero_add]
  rwa [L8.add0] at this
theorem rtargets_at (v:Value) (l:List L9.Ins) (T:List Int) (R:Int) (w:World) (hv:IsAt w v l) (hm:l.length≤100000) (ho:∀ x∈l,-1000000≤x.off∧x.off≤1000000) (hR:taR l=(T,R)) :
  Calls Tryz.prog 19 #[v] w fun e w'=>(∃ a c,e=.returned (.tuple #[.slice a T.length c,.int .i64 R])∧L10.InAt w' (.slice a T.length c) T)∧Below w.heap.size w w':=by
 obtain⟨ii,hi,hz0,hz1,hz2⟩:=info_parts L14.infoInt
 obtain⟨n,hn⟩:∃ n,l.length=n:=⟨_,rfl⟩
 have HV:=Lib.hid hv
 obtain⟨a,cap,rfl,hc⟩:=is_form hn hv
 rw [hn] at hm
 have HC:=Lib.hid hc
 have HN:=Lib.hid hn
 have HO:=Lib.hid ho
 have HR:=Lib.hid hR
 clear hc hn ho hR hv
 go_enter Tryz.func19,Tryz.ntmps19
 go_wp2
 go_loopw [4,5] (fun b i wr=>∃ j:Nat,j≤n∧i=.int .i64 (j:Int)∧wr.ownsRow w.heap.size 3 1 b j ((tgL l j).map eZ)∧Hid (Below w.heap.size w wr∧∀ q,q<j→pJ l q=true)) (fun _ i _=>n-(RowKit.intOf i).toNat)
 case atStart=>exact⟨0,Nat.zero_le _,rfl,World.ownsRow_nil _ _ _ _,Lib.hid ⟨Below.refl _ _,fun q hq=>absurd hq (Nat.not_lt_zero _)⟩⟩
 case round =>
  obtain⟨j,hj,rfl,hown,hI⟩:=hrel
  obtain⟨oa,oc,rfl⟩:=L14.owns_slice hown
  by_cases hlt:j<n
  ·have hjl:j<l.length:=by rw [HN.out];exact hlt
   obtain⟨b,o,rfl,hbl,hc⟩:=HC.out (by omega)
   obtain⟨y0,y1,y2,y3,y4,y5⟩:=(hc j hjl).below hbl hI.out.1
   have hof:=HO.out _ (List.getElem_mem hjl)
   have hpj:pJ l j=(!L10.jmI l[j] || decide (0≤tgI l j)):=by unfold pJ;rw [atI_is hjl]
   have hsu:=tgL_succ l j
   rw [atI_is hjl] at hsu
   obtain⟨r,hr⟩:∃ r,tgI l j=r:=⟨_,rfl⟩
   have HTg:=Lib.hid (fun (W:World) (hW:Below w.heap.size w W)=>rtarget_at (.slice (some ⟨b,o,none⟩) n cap) l j r W (HV.out.below hW) (by rw [HN.out];exact hm) hjl hof hr)
   rw [hr] at hpj hsu
   obtain⟨x,hx⟩:∃ x,l[j]=x:=⟨_,rfl⟩
   rw [hx] at y0 y1 y2 y3 y4 y5 hpj hsu
   obtain⟨op,reg,dst,src,off,imm⟩:=x
   simp only at y0 y1 y2 y3 y4 y5
   obtain⟨u,hu⟩:∃ u,L10.jmI ⟨op,reg,dst,src,off,imm⟩=u:=⟨_,rfl⟩
   rw [hu] at hpj hsu
   have HJ:=Lib.hid (fun W=>rjumps_at op reg dst src off imm u W hu)
   have HP:=Lib.hid hpj
   have HSU:=Lib.hid hsu
   have hsz:=hI.out.1.size
   have hcc:∀ z:Int,(tgL l j).map eZ++[.int .i64 z]=(tgL l j++[z]).map eZ:=fun z=>by simp
   have HCC:=Lib.hid hcc
   clear hc hpj hsu hx hu hr hof hcc
   cases u
   ·go_wp2_with (first
     | (go_at_call 33;((with_reducible refine (HJ.out _).mono ?_);rintro e w2 ⟨rfl,b2⟩;have B2:=bch hI.out.1 b2;have hs2:=B2.size;have hown2:=L8.own_below hown b2))
     | (at_builtin;refine wpList_append_own _ rfl _ _ 46 rfl w.heap.size 3 ii (.int .i64 0) 1 8 Tryz.underlying46 hi hz0 hz1 hz2 rfl (by decide) _ j _ rfl (hown2.alloc _) ⟨w2.heap.size,0,none⟩ 1 1 [.int .i64 (-1)] rfl rfl (World.news_of_block (cs:=#[.int .i64 (-1)]) (t:=3) (fr:=(0,0)) (heap_alloc_last w2 _)) (by simp [Value.oneCell']) (by unfold maxLen;omega) (by omega) (by simp;omega) ?_;intro v3 w3 h3 g3 _))
    go_roundw
    case rel =>
     refine⟨j+1,hlt,by go_num,?_,Lib.hid ⟨(B2.alloc hs2 _).grown g3 (by simp;omega) (own_base hown2),fun q hq=>?_⟩⟩
     ·rw [HSU.out]
      rw [HCC.out] at h3
      exact h3
     ·by_cases h:q<j
      ·exact hI.out.2 q h
      ·obtain rfl:q=j:=by omega
       rw [HP.out];rfl
    case measure=>simp [RowKit.intOf];omega
   ·by_cases hr0:r<0
    ·have HE:=Lib.hid (taR_some HR.out hjl hI.out.2 (by rw [HP.out];simp;omega))
     go_wp2_with (first
      | (go_at_call 33;((with_reducible refine (HJ.out _).mono ?_);rintro e w2 ⟨rfl,b2⟩;have B2:=bch hI.out.1 b2))
      | (go_at_call 34;((with_reducible refine (HTg.out _ B2).mono ?_);rintro e w3 ⟨rfl,b3⟩)))
     go_ret2
     obtain⟨rfl,rfl⟩:=HE.out
     exact⟨⟨none,0,rfl,.inr ⟨rfl,none,0,rfl⟩⟩,bch B2 b3⟩
    ·have HR0:=Lib.hid hr0
     go_wp2_with (first
      | (go_at_call 33;((with_reducible refine (HJ.out _).mono ?_);rintro e w2 ⟨rfl,b2⟩;have B2:=bch hI.out.1 b2;have hs2:=B2.size;have hown2:=L8.own_below hown b2))
      | (go_at_call 34;((with_reducible refine (HTg.out _ B2).mono ?_);rintro e w4 ⟨rfl,b4⟩;have B4:=bch B2 b4;have hs4:=B4.size;have hown4:=L8.own_below hown2 b4))
      | (at_builtin;refine wpList_append_own _ rfl _ _ 46 rfl w.heap.size 3 ii (.int .i64 0) 1 8 Tryz.underlying46 hi hz0 hz1 hz2 rfl (by decide) _ j _ rfl (hown4.alloc _) ⟨w4.heap.size,0,none⟩ 1 1 [.int .i64 r] rfl rfl (World.news_of_block (cs:=#[.int .i64 r]) (t:=3) (fr:=(0,0)) (heap_alloc_last w4 _)) (by simp [Value.oneCell']) (by unfold maxLen;omega) (by omega) (by simp;omega) ?_;intro v3 w3 h3 g3 _))
     go_roundw
     case rel =>
      refine⟨j+1,hlt,by go_num,?_,Lib.hid ⟨(B4.alloc hs4 _).grown g3 (by simp;omega) (own_base hown4),fun q hq=>?_⟩⟩
      ·rw [HSU.out,if_pos trivial]
       rw [HCC.out] at h3
       exact h3
      ·by_cases h:q<j
       ·exact hI.out.2 q h
       ·obtain rfl:q=j:=by omega
        rw [HP.out]
        have:=HR0.out
        simp;omega
     case measure=>simp [RowKit.intOf];omega
  ·obtain rfl:j=n:=by omega
   have HE:=Lib.hid (taR_none HR.out (fun q hq=>hI.out.2 q (by rw [HN.out] at hq;exact hq)))
   have HI:=Lib.hid (nums_in hown (by rw [tgL_len]))
   go_wp2
   go_ret2
   obtain⟨rfl,rfl⟩:=HE.out
   rw [HN.out,tgL_len]
   exact⟨⟨_,_,rfl,HI.out⟩,hI.out.1⟩
end Go.Proofs.YtihiggnglmhggaaGreatDoor.L17
end
section
namespace Go.Proofs.YtihiggnglmhggaaGreatDoor.L17
open Go.RowKit L3 L4 L12 L14
open L16 (Tb tb_below)
attribute [local go_sem] Oper.semAt_some
section
variable (v:Value) (l:List L9.Ins) (w:World) (hv:IsAt w v l) (hT:Tb w)
include hv hT
theorem targets_walk:Calls Tryz.prog 6 #[v] w fun e w'=>e=.returned (.bool true)∧Below w.heap.size w w':=by
 obtain⟨n,hn⟩:∃ n,l.length=n:=⟨_,rfl⟩
 have HV:=Lib.hid (fun (W:World) (h:Below w.heap.size w W)=>hv.below h)
 obtain⟨a,c,rfl,hc⟩:=is_form hn hv
 have HA:=Lib.hid (fun (W:World) (h:Below w.heap.size w W)=>alive17 W (tb_below hT h))
 by_cases hs:n≤100
 ·have hd:=L16.gt_f (a:=(n:Int)) (b:=100) (by omega)
  have HC:=Lib.hid hc
  have HN:=Lib.hid hn
  obtain⟨T,R,hR⟩:∃ T R,taR l=(T,R):=⟨_,_,rfl⟩
  have HR:=Lib.hid hR
  have hTl:T.length≤100:=by
   unfold taR at hR
   split at hR <;> cases hR
   ·rw [tgL_len];omega
   ·simp
  obtain⟨tl,htl⟩:∃ z,T.length=z:=⟨_,rfl⟩
  have HTL:=Lib.hid htl
  rw [htl] at hTl
  clear hv hT hn hc hR htl
  go_enter Tryz.func6,Tryz.ntmps6
  go_wp2
  go_loopw [15] (fun i wr=>∃ j:Nat,j≤n∧i=.int .i64 (j:Int)∧Hid (Below w.heap.size w wr∧∀ x∈l.take j,-1000000≤x.off∧x.off≤1000000)) (fun i _=>n-(RowKit.intOf i).toNat)
  case atStart=>exact⟨0,Nat.zero_le _,rfl,Lib.hid ⟨Below.refl _ _,fun x hx=>by simp at hx⟩⟩
  case round =>
   obtain⟨j,hj,rfl,hI⟩:=hrel
   by_cases hlt:j<n
   ·have hjl:j<l.length:=by rw [HN.out];exact hlt
    obtain⟨b,o,rfl,hbl,hc⟩:=HC.out (by omega)
    obtain⟨y0,y1,y2,y3,y4,y5⟩:=(hc j hjl).below hbl hI.out.1
    have hsn:l.take (j+1)=l.take j++[l[j]]:=by rw [List.take_add_one,List.getElem?_eq_getElem hjl];rfl
    obtain⟨x,hx⟩:∃ x,l[j]=x:=⟨_,rfl⟩
    rw [hx] at y0 y1 y2 y3 y4 y5 hsn
    obtain⟨op,reg,dst,src,off,imm⟩:=x
    simp only at y0 y1 y2 y3 y4 y5
    have HSN:=Lib.hid hsn
    clear hc hx hsn
    by_cases h1:off < -1000000
    ·go_wp2_with (go_at_call 10;((with_reducible refine (HA.out _ (bch hI.out.1 (bnew _ _))).mono ?_);rintro e w3 ⟨rfl,b3⟩))
     go_ret
     exact⟨rfl,bch (bch hI.out.1 (bnew _ _)) b3⟩
    ·by_cases h2:1000000<off
     ·go_wp2_with (go_at_call 10;((with_reducible refine (HA.out _ (bch hI.out.1 (bnew _ _))).mono ?_);rintro e w3 ⟨rfl,b3⟩))
      go_ret
      exact⟨rfl,bch (bch hI.out.1 (bnew _ _)) b3⟩
     ·have HFar:=Lib.hid (And.intro h1 h2)
      go_wp2
      go_roundw
      case rel =>
       refine⟨j+1,hlt,by go_num,Lib.hid ⟨bch hI.out.1 (bnew _ _),fun x hx=>?_⟩⟩
       rw [HSN.out] at hx
       rcases List.mem_append.1 hx with h|h
       ·exact hI.out.2 x h
       ·rw [List.mem_singleton.1 h]
        have:=HFar.out
        simp only;omega
      case measure=>simp [RowKit.intOf];omega
   ·obtain rfl:j=n:=by omega
    have hall:∀ x∈l,-1000000≤x.off∧x.off≤1000000:=fun x hx=>hI.out.2 x (by rw [List.take_of_length_le (by rw [HN.out];exact Nat.le_refl _)];exact hx)
    have HB:=Lib.hid hI.out.1
    have H1:=Lib.hid (fun (W:World) (h:Below w.heap.size w W)=>(by have:=targets_at (.slice a j c) l T R W (HV.out W h) (by rw [HN.out];omega) hall HR.out;rw [HTL.out] at this;exact this:Calls Tryz.prog 18 #[.slice a j c] W fun e w'=>(∃ a c,e=.returned (.tuple #[.slice a tl c,.int .i64 R])∧L10.InAt w' (.slice a tl c) T)∧Below W.heap.size W w'))
    have H2:=Lib.hid (fun (W:World) (h:Below w.heap.size w W)=>(by have:=rtargets_at (.slice a j c) l T R W (HV.out W h) (by rw [HN.out];omega) hall HR.out;rw [HTL.out] at this;exact this:Calls Tryz.prog 19 #[.slice a j c] W fun e w'=>(∃ a c,e=.returned (.tuple #[.slice a tl c,.int .i64 R])∧L10.InAt w' (.slice a tl c) T)∧Below W.heap.size W w'))
    have H3:=Lib.hid (fun (W:World) (v v':Value) (h:L10.InAt W v T) (h':L10.InAt W v' T)=>L10.equalI_at v v' T T true W (by rw [HTL.out];omega) (by rw [HTL.out];omega) h h' (by simp))
    clear hI hall
    go_wp2_with (first
     | (go_at_call 18;((with_reducible refine (H1.out _ HB.out).mono ?_);rintro e w3 ⟨⟨a3,c3,rfl,t3⟩,b3⟩;have B3:=bch HB.out b3))
     | (go_at_call 19;((with_reducible refine (H2.out _ B3).mono ?_);rintro e w4 ⟨⟨a4,c4,rfl,t4⟩,b4⟩;have B4:=bch B3 b4;have s4:=t3.below b4))
     | (go_at_call 10;((with_reducible refine (HA.out _ B4).mono ?_);rintro e w5 ⟨rfl,b5⟩;have B5:=bch B4 b5;have s5:=s4.below b5;have t5:=t4.below b5))
     | (go_at_call 20;((with_reducible refine (H3.out _ _ _ s5 t5).mono ?_);rintro e w6 ⟨rfl,b6⟩)))
    go_ret
    exact⟨rfl,bch B5 b6⟩
 ·have hd:=L16.gt_t (a:=(n:Int)) (b:=100) (by omega)
  clear hv hT hc
  go_enter Tryz.func6,Tryz.ntmps6
  go_wp2_with (go_at_call 10;((with_reducible refine (HA.out _ (Below.refl _ _)).mono ?_);rintro e w3 ⟨rfl,b3⟩))
  go_ret
  exact⟨rfl,b3⟩
end
end Go.Proofs.YtihiggnglmhggaaGreatDoor.L17
end
section
namespace Go.Proofs.YtihiggnglmhggaaGreatDoor.L12
open Go.ChangeShapes Go.WideShapes Go.ChangeAt Go.RowKit Go.Deep
section
variable {H:Type} {enc:TypeId × Value→H} {W:World} {base:Nat} {sp:Nat→Bool} {held:Bool}
theorem open_isl {fuel:Nat} {cs:List Value} {x:DataW H × List MemPlace} (h:DataW.trod enc Tryz.prog W base sp held fuel 38 cs=some x) :
  ∃ v l,cs=[v]∧IsAt W v l∧l.length≤maxLen:=by
 rcases open_slice Tryz.underlying38 h with ⟨hcs,-⟩|⟨a,len,cap,m,n,D,Pl,hcs,-,hl,hcm,hmm,-,hi⟩
 ·exact⟨_,[],hcs,.inr ⟨rfl,none,0,rfl⟩,by simp⟩
 ·rw [L10.cI] at hi
  have each:∀ i,i<len→∃ d:L9.Ins,∀ k u,(L10.inL d)[k]?=some u→W.cell? (a.add (i*6+k))=some u:=by
   intro i hil
   obtain⟨cs',hc,ht⟩:=hi i (by split at hmm <;> omega)
   obtain⟨d,hd,-⟩:=L10.open_insC ht
   obtain⟨_,hcl,hat⟩:=World.cells?_some hc
   refine⟨d,fun k u hu=>?_⟩
   have hk:k<6:=by
    have:=(List.getElem?_eq_some_iff.1 hu).1
    simpa using this
   rw [← Go.Deep.add_add,hat k hk,hd];exact hu
  obtain⟨l,hll,hp⟩:=L10.list_of len each
  subst hll
  refine⟨_,l,hcs,?_,by omega⟩
  by_cases h0:l=[]
  ·exact .inr ⟨h0,some a,cap,by rw [h0];rfl⟩
  ·have hpos:0<l.length:=List.length_pos_iff.2 h0
   have hc0:=hp 0 hpos 0 _ rfl
   obtain⟨b,off,spot⟩:=a
   have hspot:spot=none:=by simpa [Addr.add] using World.cell?_spot hc0
   subst hspot
   have hb:=World.block_lt_of_cell? W _ hc0
   refine .inl ⟨b,off,cap,rfl,hb,fun j hj i u hu=>?_⟩
   rw [Nat.add_assoc,← add_plain]
   exact hp j hj i u hu
theorem open_isv {r:Reach} {b0:Nat} {v:Value} {d:DataW H} {ps:List MemPlace} (hval:Value.okWide Tryz.prog W r b0 38 v) (hd:DataW.Trod enc Tryz.prog W base sp held 38 v d ps):∃ l,IsAt W v l∧l.length≤maxLen:=by
 obtain⟨a,n,c,rfl⟩:=okWide_slice Tryz.underlying38 hval
 obtain⟨fuel,hf⟩:=hd
 obtain⟨v',l,hcs,h1,h2⟩:=open_isl hf
 simp only [Value.cells,List.cons.injEq,and_true] at hcs
 subst hcs
 exact⟨l,h1,h2⟩
end
end Go.Proofs.YtihiggnglmhggaaGreatDoor.L12
end
end
