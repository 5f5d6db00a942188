/- What the program's Targets returns: the index to which each jump leads, or the first jump that leads nowhere. Condition: memory holds the instructions, which are no more than 100000, and no distance is beyond a million. -/
import Derived.Test.YtdgnjhhieemcaaaGreatDoorM27
import Derived.Test.YtdgnjhhieemcaaaGreatDoorShelfm
set_option maxHeartbeats 8000000
namespace Go.Proofs.YtdgnjhhieemcaaaGreatDoor.L17
set_option maxRecDepth 100000
open Go.RowKit L3 L4 L12 L14
attribute [local go_sem] Oper.semAt_some
abbrev eZ (z:Int):Value:=.int .i64 z
theorem rowZ_set2 {α:Type} (enc:α→Value) (z:Value) (xs:List α) (y x:α) (N:Nat):(rowZ enc z (xs++[y]) N).setIfInBounds xs.length (enc x)=rowZ enc z (xs++[x]) N:=by
 unfold rowZ
 rw [List.setIfInBounds_toArray]
 congr 1
 rw [List.map_append,List.append_assoc,List.set_append_right _ _ (by simp),List.map_append,List.append_assoc,List.length_append,List.length_append]
 simp
theorem rowZ_last {α:Type} (enc:α→Value) (z:Value) (xs:List α) (y:α) (N:Nat):(rowZ enc z (xs++[y]) N)[xs.length]?=some (enc y):=by
 have:=rowZ_at enc z (xs++[y]) N xs.length (by simp)
 rw [this]
 simp
theorem bs_at (a:Option Addr) (n c:Nat) (l:List L9.Ins) (x R:Int) (w:World) (hn:l.length=n) (hm:n≤100000) (hT:L10.InAt w (.slice a n c) (stZ l)) (hR:atN 0 0 l x=R) :
  Calls Tryz.prog 201 #[.slice a n c,.int .i64 x] w fun e w'=>(∃ k:Int,e=.returned (.tuple #[.int .i64 k,.bool (decide (0≤R))])∧(0≤R→k=R))∧Below w.heap.size w w':=by
 have hb:=bs_is l 0 0 x
 rw [hR] at hb
 by_cases h0:n=0
 ·subst h0
  have:l=[]:=List.eq_nil_of_length_eq_zero hn
  subst this
  have hR':R=-1:=by rw [← hR];rfl
  subst hR'
  refine (Tryz.slices_BinarySearch_int_empty a c x w).mono fun e w' h=>?_
  obtain⟨he,q,rfl⟩:=show e=.returned (.tuple #[.int .i64 0,.bool false])∧∃ q,w'=w.drewN q by
   first|exact h|exact⟨h.1,0,h.2⟩
  exact⟨⟨0,he,fun h=>absurd h (by decide)⟩,bdN (Below.refl _ _) q⟩
 ·obtain⟨a',c',hv,hc⟩:=L10.in_form (n:=n) (by rw [stZ_len,hn]) hT
  cases hv
  obtain⟨b,o,rfl,hbl,hx⟩:=hc (by omega)
  have hlen:(stZ l).length=n:=by rw [stZ_len,hn]
  refine (Tryz.slices_BinarySearch_int b o n c (stZ l) x w (by omega) (by omega) (fun j hj=>by rw [List.getD_eq_getElem?_getD,List.getElem?_eq_getElem hj];exact hx j hj) (by rw [List.take_of_length_le (by omega)];exact stL_sorted l 0)).mono fun e w' h=>?_
  obtain⟨rfl,q,rfl⟩:=h
  rw [List.take_of_length_le (by omega)]
  have e:((stL 0 l).map fun (a:Nat)=>(a:Int))=stZ l:=rfl
  rw [e] at hb
  have hcb:(stZ l).contains x=decide (0≤R):=by
   by_cases hcn:(stZ l).contains x=true
   ·rw [if_pos hcn] at hb
    rw [hcn,hb]
    simp
   ·rw [if_neg hcn] at hb
    rw [hb]
    simpa using hcn
  refine⟨⟨_,by rw [hcb],fun h=>?_⟩,bdN (Below.refl _ _) q⟩
  rw [if_pos (by rw [hcb];simpa using h)] at hb
  rw [hb]
  simp
theorem keepT {w W W':World} {b p k:Nat} {s:Int} {op dst src off imm:Int} {reg:Bool} (hb:Below W.heap.size W W') (h:Below w.heap.size w W∧W.cell? ⟨b,p,none⟩=some (.int .i64 s)∧W.cell? ⟨k,0,none⟩=some (.int .i64 op)∧W.cell? ⟨k,1,none⟩=some (.bool reg)∧W.cell? ⟨k,2,none⟩=some (.int .i64 dst)∧W.cell? ⟨k,3,none⟩=some (.int .i64 src)∧W.cell? ⟨k,4,none⟩=some (.int .i64 off)∧W.cell? ⟨k,5,none⟩=some (.int .i64 imm)) :
  Below w.heap.size w W'∧W'.cell? ⟨b,p,none⟩=some (.int .i64 s)∧W'.cell? ⟨k,0,none⟩=some (.int .i64 op)∧W'.cell? ⟨k,1,none⟩=some (.bool reg)∧W'.cell? ⟨k,2,none⟩=some (.int .i64 dst)∧W'.cell? ⟨k,3,none⟩=some (.int .i64 src)∧W'.cell? ⟨k,4,none⟩=some (.int .i64 off)∧W'.cell? ⟨k,5,none⟩=some (.int .i64 imm):=by
 obtain⟨h0,h1,x0,x1,x2,x3,x4,x5⟩:=h
 exact⟨bch h0 hb,cell_up hb h1,cell_up hb x0,cell_up hb x1,cell_up hb x2,cell_up hb x3,cell_up hb x4,cell_up hb x5⟩
theorem taR_some {l:List L9.Ins} {T:List Int} {R:Int} {i:Nat} (h:taR l=(T,R)) (hi:i<l.length) (h0:∀ j,j<i→pJ l j=true) (h1:pJ l i=false):T=[]∧R=(i:Int):=by
 unfold taR at h
 rw [eaF_some hi h0 h1] at h
 cases h
 exact⟨rfl,rfl⟩
theorem taR_none {l:List L9.Ins} {T:List Int} {R:Int} (h:taR l=(T,R)) (h0:∀ j,j<l.length→pJ l j=true):T=tgL l l.length∧R=-1:=by
 unfold taR at h
 rw [eaF_none h0] at h
 cases h
 exact⟨rfl,rfl⟩
theorem row_in {w:World} {g n:Nat} {xs:List Int} (hg:w.heap[g]?=some (.cells (rowZ eZ (.int .i64 0) xs n) 3 (0,0))) (hn:xs.length=n):L10.InAt w (.slice (some ⟨g,0,none⟩) n n) xs:=by
 subst hn
 refine .inl ⟨g,0,_,rfl,lt_of_block hg,fun j hj=>?_⟩
 rw [Nat.zero_add]
 have:=rowZ_at eZ (.int .i64 0) xs xs.length j hj
 unfold World.cell?
 simp only [hg]
 exact this
theorem targets_at (v:Value) (l:List L9.Ins) (T:List Int) (R:Int) (w:World) (hv:IsAt w v l) (hm:l.length≤100000) (ho:∀ x∈l,-1000000≤x.off∧x.off≤1000000) (hR:taR l=(T,R)) :
  Calls Tryz.prog 141 #[v] w fun e w'=>(∃ a c,e=.returned (.tuple #[.slice a T.length c,.int .i64 R])∧L10.InAt w' (.slice a T.length c) T)∧Below w.heap.size w w':=by
 obtain⟨ii,hi,hz0,hz1,hz2⟩:=info_parts L14.infoInt
 obtain⟨n,hn⟩:∃ n,l.length=n:=⟨_,rfl⟩
 obtain⟨a,cap,rfl,hc⟩:=is_form hn hv
 rw [hn] at hm
 have HS:=Lib.hid (starts_is (.slice a n cap) l n hn (by omega) w hv)
 have HC:=Lib.hid hc
 have HN:=Lib.hid hn
 have HO:=Lib.hid ho
 have HR:=Lib.hid hR
 clear hc hn ho hR hv
 go_enter Tryz.func141,Tryz.ntmps141
 go_wp2_with (first
  | (go_at_call 61;((with_reducible refine (HS.out).mono ?_);rintro e w1 ⟨⟨sa,sc,rfl,hin⟩,b1⟩;have HB1:=Lib.hid b1;have HIN:=Lib.hid (show L10.InAt w1 (.slice sa n sc) (stZ l) from hin);clear b1 hin))
  | (at_make;refine wpList_make_row _ rfl _ _ 101 rfl 3 ii (.int .i64 0) Tryz.underlying101 hi hz0 hz1 rfl .i64 .i64 n rfl rfl (by rw [hz2];omega) (by omega) ?_))
 rw [rowZ_made eZ]
 clear HS hi hz0 hz1 hz2
 go_loopw [21] (fun i wr=>∃ j:Nat,j≤n∧i=.int .i64 (j:Int)∧wr.heap[w1.heap.size]?=some (.cells (rowZ eZ (.int .i64 0) (tgL l j) n) 3 (0,0))∧Hid (Below w1.heap.size w1 wr∧∀ q,q<j→pJ l q=true)) (fun i _=>n-(RowKit.intOf i).toNat)
 case atStart=>exact⟨0,Nat.zero_le _,rfl,heap_alloc_new _ _,Lib.hid ⟨bnew _ _,fun q hq=>absurd hq (Nat.not_lt_zero _)⟩⟩
 case round =>
  obtain⟨j,hj,rfl,hG,hI⟩:=hrel
  have hgl:=lt_of_block hG
  have hne1:w1.heap.size≠wr.heap.size:=by omega
  have hne2:wr.heap.size≠w1.heap.size:=by omega
  by_cases hlt:j<n
  ·have hjl:j<l.length:=by rw [HN.out];exact hlt
   obtain⟨b,o,rfl,hbl,hc⟩:=HC.out (by omega)
   obtain⟨y0,y1,y2,y3,y4,y5⟩:=(hc j hjl).below hbl (bch HB1.out hI.out.1)
   obtain⟨cG,fG⟩:=cell_in (k:=j) hG
   have hnx:=rowZ_next eZ (.int .i64 0) (tgL l j) n (by rw [tgL_len];exact hlt)
   rw [tgL_len] at hnx
   rw [hnx] at cG
   have hset:=rowZ_set eZ (.int .i64 0) (tgL l j) (-1) n (by rw [tgL_len];exact hlt)
   rw [tgL_len] at hset
   have hof:=HO.out _ (List.getElem_mem hjl)
   have hnxt:=stN_next hjl
   have hsl:=slN_le l[j]
   rw [atI_is hjl] at hnxt
   have htg:tgI l j=atN 0 0 l ((stN l (j+1):Int)+l[j].off):=by unfold tgI;rw [atI_is hjl]
   have hpj:pJ l j=(!L10.jmI l[j] || decide (0≤tgI l j)):=by unfold pJ;rw [atI_is hjl]
   have hsu:=tgL_succ l j
   rw [atI_is hjl] at hsu
   obtain⟨x,hx⟩:∃ x,l[j]=x:=⟨_,rfl⟩
   rw [hx] at y0 y1 y2 y3 y4 y5 hof hnxt hsl htg hpj hsu
   have hst:=stN_le l j
   rw [HN.out] at hst
   obtain⟨t,ht⟩:∃ t,stN l j=t:=⟨_,rfl⟩
   obtain⟨s,hs⟩:∃ s,slN x=s:=⟨_,rfl⟩
   have HSl:=Lib.hid (fun W=>slots_at x.op _ (s:Int) W rfl (by rw [slN_int,hs]))
   rw [ht,hs] at hnxt
   rw [hnxt] at htg
   rw [hs] at hsl
   rw [ht] at hst
   obtain⟨op,reg,dst,src,off,imm⟩:=x
   simp only at y0 y1 y2 y3 y4 y5 hof htg HSl
   obtain⟨u,hu⟩:∃ u,L10.jmI ⟨op,reg,dst,src,off,imm⟩=u:=⟨_,rfl⟩
   rw [hu] at hpj hsu
   have HJ:=Lib.hid (fun W=>jumps_at op reg dst src off imm _ u W rfl hu)
   have HG:Hid (((wr.setCell ⟨w1.heap.size,j,none⟩ (.int .i64 (-1))).alloc (.cells #[.int .i64 op,.bool reg,.int .i64 dst,.int .i64 src,.int .i64 off,.int .i64 imm] 45)).heap[w1.heap.size]?=some (.cells (rowZ eZ (.int .i64 0) (tgL l j++[-1]) n) 3 (0,0)) ∧
     ((wr.setCell ⟨w1.heap.size,j,none⟩ (.int .i64 (-1))).alloc (.cells #[.int .i64 op,.bool reg,.int .i64 dst,.int .i64 src,.int .i64 off,.int .i64 imm] 45)).heap[wr.heap.size]?=some (.cells #[.int .i64 op,.bool reg,.int .i64 dst,.int .i64 src,.int .i64 off,.int .i64 imm] 45) ∧
     Below w1.heap.size w1 ((wr.setCell ⟨w1.heap.size,j,none⟩ (.int .i64 (-1))).alloc (.cells #[.int .i64 op,.bool reg,.int .i64 dst,.int .i64 src,.int .i64 off,.int .i64 imm] 45))):=by
    refine Lib.hid ⟨?_,?_,?_⟩
    ·rw [← hset]
     exact ((bnew _ _).block _ (by simpa using hgl)).trans (cells_set hG)
    ·have:=heap_alloc_new (wr.setCell ⟨w1.heap.size,j,none⟩ (.int .i64 (-1))) (.cells #[.int .i64 op,.bool reg,.int .i64 dst,.int .i64 src,.int .i64 off,.int .i64 imm] 45)
     rwa [World.size_setCell] at this
    ·exact (hI.out.1.setCell (p:=⟨w1.heap.size,j,none⟩) (Nat.le_refl _) _).alloc (by simpa using hI.out.1.size) _
   have HT:=Lib.hid htg
   have HP:=Lib.hid hpj
   have HSU:=Lib.hid hsu
   have HST:=Lib.hid ht
   clear hc hnx hset htg hpj hsu ht hx hu hs hnxt
   cases u
   ·go_wp2_with (go_at_call 196;((with_reducible refine (HJ.out _).mono ?_);rintro e w2 ⟨rfl,b2⟩))
    go_roundw
    case rel =>
     refine⟨j+1,hlt,by go_num,?_,Lib.hid ⟨HG.out.2.2.trans (b2.mono HG.out.2.2.size),fun q hq=>?_⟩⟩
     ·rw [HSU.out];exact L8.row_up HG.out.1 b2
     ·by_cases h:q<j
      ·exact hI.out.2 q h
      ·obtain rfl:q=j:=by omega
       rw [HP.out];rfl
    case measure=>simp [RowKit.intOf];omega
   ·go_upto_region 8 with (go_at_call 196;((with_reducible refine (HJ.out _).mono ?_);rintro e w2 ⟨rfl,b2⟩))
    have r2:=L8.row_up HG.out.1 b2
    obtain⟨x0,x1,x2,x3,x4,x5⟩:=cells6c (L8.row_up HG.out.2.1 b2)
    have B2:=HG.out.2.2.trans (b2.mono HG.out.2.2.size)
    have hIN:=HIN.out.below B2
    obtain⟨sb,so,rfl,hsb,hcl⟩:=st_cell HN.out hIN hlt
    have c1:=hcl j hlt
    rw [HST.out] at c1
    obtain⟨X,hX⟩:∃ X:Int,(t:Int)+(s:Int)+off=X:=⟨_,rfl⟩
    obtain⟨r,hr⟩:∃ r,tgI l j=r:=⟨_,rfl⟩
    have HBS:=Lib.hid (fun (W:World) (hW:Below w2.heap.size w2 W)=>bs_at (some ⟨sb,so,none⟩) n sc l X r W HN.out hm (hIN.below hW) (by rw [← hr,HT.out,← hX];congr 1))
    have hw1:IntKind.i64.wrap ((t:Int)+(s:Int))=(t:Int)+(s:Int):=IntWalk.i64_in _ (by omega)
    have hw2:IntKind.i64.wrap ((t:Int)+(s:Int)+off)=X:=by rw [← hX];exact IntWalk.i64_in _ (by omega)
    have HR2:=Lib.hid r2
    have HBB:=Lib.hid B2
    have HRr:=Lib.hid hr
    have Y:=And.intro (Below.refl w2.heap.size w2) (And.intro c1 (And.intro x0 (And.intro x1 (And.intro x2 (And.intro x3 (And.intro x4 x5))))))
    clear hX hr hcl hIN r2 B2 b2 cG fG
    go_region_held3 (fun W=>Below w2.heap.size w2 W∧W.cell? ⟨sb,so+j,none⟩=some (.int .i64 (t:Int))∧W.cell? ⟨wr.heap.size,0,none⟩=some (.int .i64 op)∧W.cell? ⟨wr.heap.size,1,none⟩=some (.bool reg)∧W.cell? ⟨wr.heap.size,2,none⟩=some (.int .i64 dst)∧W.cell? ⟨wr.heap.size,3,none⟩=some (.int .i64 src)∧W.cell? ⟨wr.heap.size,4,none⟩=some (.int .i64 off)∧W.cell? ⟨wr.heap.size,5,none⟩=some (.int .i64 imm))
     (first|exact keepT (Below.refl _ _).drew Y|exact keepT hb9 (keepT (Below.refl _ _).drew Y)|exact keepT hb9 (by assumption)|assumption)
     (first|(go_at_call 148;((with_reducible refine (HSl.out _).mono ?_);rintro e w9 ⟨rfl,hb9⟩))|(go_at_call 201;((with_reducible refine (HBS.out _ (And.left (by assumption))).mono ?_);rintro e w9 ⟨⟨k9,rfl,hk9⟩,hb9⟩)))
    all_goals
     rename_i hh
     have r3:=L8.row_up HR2.out hh.1
     have B3:=bch HBB.out hh.1
     obtain⟨cG,fG⟩:=cell_in (k:=j) r3
     have hla:=rowZ_last eZ (.int .i64 0) (tgL l j) (-1) n
     rw [tgL_len] at hla
     rw [hla] at cG
     by_cases hr0:0≤r
     ·obtain rfl:=hk9 hr0
      have hset:=rowZ_set2 eZ (.int .i64 0) (tgL l j) (-1) k9 n
      rw [tgL_len] at hset
      have HS2:=Lib.hid (And.intro hset (And.intro r3 B3))
      have HR0:=Lib.hid hr0
      clear hset r3 B3 hla hk9
      go_wp2
      go_roundw
      case rel =>
       refine⟨j+1,hlt,by go_num,?_,Lib.hid ⟨HS2.out.2.2.setCell (p:=⟨w1.heap.size,j,none⟩) (Nat.le_refl _) _,fun q hq=>?_⟩⟩
       ·rw [HSU.out,if_pos trivial,HRr.out,← HS2.out.1]
        exact cells_set HS2.out.2.1
       ·by_cases h:q<j
        ·exact hI.out.2 q h
        ·obtain rfl:q=j:=by omega
         rw [HP.out,HRr.out]
         simpa using HR0.out
      case measure=>simp [RowKit.intOf];omega
     ·have HE:=Lib.hid (taR_some HR.out hjl hI.out.2 (by rw [HP.out,HRr.out];simpa using hr0))
      have HB3:=Lib.hid B3
      clear r3 B3 hla hk9
      go_wp2
      go_ret2
      obtain⟨rfl,rfl⟩:=HE.out
      exact⟨⟨none,0,rfl,.inr ⟨rfl,none,0,rfl⟩⟩,bch HB1.out HB3.out⟩
  ·obtain rfl:j=n:=by omega
   have HE:=Lib.hid (taR_none HR.out (fun q hq=>hI.out.2 q (by rw [HN.out] at hq;exact hq)))
   have HI:=Lib.hid (row_in hG (by rw [tgL_len]))
   have HB:=Lib.hid hI.out.1
   clear hG hI
   go_wp2
   go_ret2
   obtain⟨rfl,rfl⟩:=HE.out
   rw [HN.out,tgL_len]
   exact⟨⟨_,_,rfl,HI.out⟩,bch HB1.out HB.out⟩
end Go.Proofs.YtdgnjhhieemcaaaGreatDoor.L17
