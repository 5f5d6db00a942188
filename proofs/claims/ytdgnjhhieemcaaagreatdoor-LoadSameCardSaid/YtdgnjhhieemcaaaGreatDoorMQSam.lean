/- Lemmas and walks of L10Opn, L14Op, L18Rs, L18Ls, L12Op, L18Op, Samw: what each theorem states; conditions stand in each theorem. -/
import Derived.Test.YtdgnjhhieemcaaaGreatDoorM32
import Derived.Test.YtdgnjhhieemcaaaGreatDoorCards
import Derived.Test.YtdgnjhhieemcaaaGreatDoorTie
set_option maxHeartbeats 16000000
set_option maxRecDepth 100000
section
section
namespace Go.Proofs.YtdgnjhhieemcaaaGreatDoor.L10
open Go.ChangeShapes Go.WideShapes Go.ChangeAt Go.RowKit Go.Deep
theorem cI:Tryz.prog.cellsOf 45=6:=by kernel_rfl
theorem cL:Tryz.prog.cellsOf 2=1:=by kernel_rfl
theorem cB:Tryz.prog.cellsOf 4=1:=by kernel_rfl
section
variable {H:Type} {enc:TypeId × Value→H} {W:World} {base:Nat} {sp:Nat→Bool} {held:Bool}
theorem open_insC {fuel:Nat} {cs:List Value} {x:DataW H × List MemPlace} (h:DataW.trod enc Tryz.prog W base sp held fuel 45 cs=some x) :
  ∃ d:L9.Ins,cs=inL d∧(Lit.int .i64 d.op).wf=true∧(Lit.int .i64 d.dst).wf=true∧(Lit.int .i64 d.src).wf=true∧(Lit.int .i64 d.off).wf=true∧(Lit.int .i64 d.imm).wf=true:=by
 obtain⟨xs,n,_,_,hcl,hlen,hg⟩:=DataW.trod_struct Tryz.underlying45 h
 rw [cI] at hcl
 match cs,hcl,xs,hlen with
 | [c0,c1,c2,c3,c4,c5],_,[y0,y1,y2,y3,y4,y5],_ =>
  have g0:DataW.trod enc Tryz.prog W base sp held n 3 [c0]=some y0:=by simpa [cN] using hg 0 _ rfl
  have g1:DataW.trod enc Tryz.prog W base sp held n 4 [c1]=some y1:=by simpa [cB] using hg 1 _ rfl
  have g2:DataW.trod enc Tryz.prog W base sp held n 3 [c2]=some y2:=by simpa [cN] using hg 2 _ rfl
  have g3:DataW.trod enc Tryz.prog W base sp held n 3 [c3]=some y3:=by simpa [cN] using hg 3 _ rfl
  have g4:DataW.trod enc Tryz.prog W base sp held n 3 [c4]=some y4:=by simpa [cN] using hg 4 _ rfl
  have g5:DataW.trod enc Tryz.prog W base sp held n 2 [c5]=some y5:=by simpa [cL] using hg 5 _ rfl
  obtain⟨n0,e0,-,k0⟩:=DataW.trod_int Tryz.underlying3 g0
  obtain⟨n1,e1,-⟩:=DataW.trod_bool Tryz.underlying4 g1
  obtain⟨n2,e2,-,k2⟩:=DataW.trod_int Tryz.underlying3 g2
  obtain⟨n3,e3,-,k3⟩:=DataW.trod_int Tryz.underlying3 g3
  obtain⟨n4,e4,-,k4⟩:=DataW.trod_int Tryz.underlying3 g4
  obtain⟨n5,e5,-,k5⟩:=DataW.trod_int Tryz.underlying2 g5
  simp only [List.cons.injEq,and_true] at e0 e1 e2 e3 e4 e5
  subst e0 e1 e2 e3 e4 e5
  exact⟨⟨n0,n1,n2,n3,n4,n5⟩,rfl,k0,k2,k3,k4,k5⟩
end
end Go.Proofs.YtdgnjhhieemcaaaGreatDoor.L10
end
section
namespace Go.Proofs.YtdgnjhhieemcaaaGreatDoor.L14
open Go.ChangeShapes Go.WideShapes Go.ChangeAt Go.RowKit Go.Deep
def Wt {H:Type} (t:TypeId) (d:DataW H):Prop:=∀ n∈d.weights Tryz.prog t,n≤reachBytes
section
variable {H:Type} {enc:TypeId × Value→H} {W:World} {base:Nat} {sp:Nat→Bool} {held:Bool} {r:Reach} {b0:Nat} {v:Value} {d:DataW H} {ps:List MemPlace}
end
end Go.Proofs.YtdgnjhhieemcaaaGreatDoor.L14
end
section
namespace Go.Proofs.YtdgnjhhieemcaaaGreatDoor.L18
open Go.RowKit Go.Shelf L3 L4 L12 L14
open L13 (Ob)
open L10 (take_eq take_all get_ne)
attribute [local go_sem] Oper.semAt_some
theorem rsameI_at (v v':Value) (l m:List L9.Ins) (b:Bool) (w:World) (hl:l.length≤100000) (hm:m.length≤100000) (hv:IsAt w v l) (hv':IsAt w v' m) (hb:b=true↔l=m) :
  Calls Tryz.prog 14 #[v,v'] w fun e w'=>e=.returned (.bool b)∧Below w.heap.size w w':=by
 obtain⟨n,hn⟩:∃ n,l.length=n:=⟨_,rfl⟩
 obtain⟨n',hn'⟩:∃ n,m.length=n:=⟨_,rfl⟩
 obtain⟨a,c,rfl,hc⟩:=is_form hn hv
 obtain⟨a',c',rfl,hc'⟩:=is_form hn' hv'
 rw [hn] at hl
 rw [hn'] at hm
 by_cases hne:n=n'
 ·subst hne
  have HN:=Lib.hid hn
  have HM:=Lib.hid hn'
  have HC:=Lib.hid hc
  have HC':=Lib.hid hc'
  have HB:=Lib.hid hb
  clear hn hn' hc hc' hb hv hv'
  go_enter Tryz.func14,Tryz.ntmps14
  go_wp2
  go_loopw [5] (fun i wr=>∃ (k q:Nat),k≤n∧i=.int .i64 (k:Int)∧wr=w.drewN q∧Hid (l.take k=m.take k)) (fun i _=>n-(RowKit.intOf i).toNat)
  case atStart=>exact⟨0,0,Nat.zero_le _,rfl,rfl,Lib.hid rfl⟩
  case round =>
   obtain⟨k,q,hk,rfl,rfl,hT⟩:=hrel
   by_cases hlt:k<n
   ·have hk1:k<l.length:=by rw [HN.out];exact hlt
    have hk2:k<m.length:=by rw [HM.out];exact hlt
    obtain⟨b1,o1,rfl,hb1,hc1⟩:=HC.out (by omega)
    obtain⟨b2,o2,rfl,hb2,hc2⟩:=HC'.out (by omega)
    obtain⟨x0,x1,x2,x3,x4,x5⟩:=hc1 k hk1
    obtain⟨y0,y1,y2,y3,y4,y5⟩:=hc2 k hk2
    clear hc1 hc2
    have hlt':(k:Int)<(n:Int):=by omega
    obtain⟨t,ht⟩:∃ t:Bool,t=true↔l[k]=m[k]:=bq _
    have hq:=L10.nq_ins l[k] m[k] t ht
    cases t
    ·have he:¬ l[k]=m[k]:=fun h=>by have:=ht.2 h;cases this
     have HB2:Hid (b=false):=Lib.hid (by
      cases b with
      | false=>rfl
      | true=>exact absurd (HB.out.1 rfl) (get_ne hk1 hk2 he))
     clear ht he hT
     generalize l[k]=d at *
     generalize m[k]=d' at *
     simp only [Bool.not_false] at hq
     go_wp2
     go_quiet (fail)
     go_wp2
     go_ret
     rw [HB2.out]
     exact⟨rfl,L8.bdN (L8.bdN (Below.refl _ _) _) _⟩
    ·have HT:=Lib.hid (take_eq hk1 hk2 hT.out (ht.1 rfl))
     clear ht hT
     generalize l[k]=d at *
     generalize m[k]=d' at *
     simp only [Bool.not_true] at hq
     go_wp2
     go_quiet (fail)
     go_wp2
     go_roundw
     case rel=>exact⟨k+1,q+nq,by omega,by go_num,rfl,HT⟩
     case measure=>simp [RowKit.intOf];omega
   ·obtain rfl:k=n:=by omega
    have HB2:Hid (b=true):=Lib.hid (HB.out.2 (take_all HN.out HM.out hT.out))
    clear hT
    go_wp2
    go_ret
    rw [HB2.out]
    exact⟨rfl,L8.bdN (Below.refl _ _) _⟩
 ·have hbf:b=false:=by
   cases b with
   | false=>rfl
   | true =>
    have:=hb.1 rfl
    subst this
    omega
  subst hbf
  have h1:¬ (n:Int)=(n':Int):=by omega
  have h2:((n:Int)==(n':Int))=false:=by simpa using h1
  clear hn hn' hc hc' hb hv hv'
  go_enter Tryz.func14,Tryz.ntmps14
  go_wp2
  go_ret
  exact⟨rfl,Below.refl _ _⟩
theorem bsv_nil (w:World):L5.BsV w (.slice none 0 0) []:=⟨none,0,rfl,.inl rfl⟩
theorem rsmaps_at (v v':Value) (ms ns:List L9.Df) (b:Bool) (w:World) (h1:ms.length≤100000) (h2:ns.length≤100000) (g1:L10.DfAt w v ms) (g2:L10.DfAt w v' ns) (hb:b=true↔ms=ns) :
  Calls Tryz.prog 13 #[v,v'] w fun e w'=>e=.returned (.bool b)∧Below w.heap.size w w':=by
 obtain⟨a,c,rfl,-⟩:=g1.flat
 obtain⟨a',c',rfl,-⟩:=g2.flat
 have HS:=Lib.hid (L13.rsame13_at (.slice a ms.length c) (.slice none 0 0) (.slice none 0 0) (.slice a' ns.length c') (.slice none 0 0) (.slice none 0 0) ⟨ms,[],[]⟩ ⟨ns,[],[]⟩ b w ⟨g1,bsv_nil w,.inr ⟨rfl,none,0,rfl⟩⟩ ⟨g2,bsv_nil w,.inr ⟨rfl,none,0,rfl⟩⟩ ⟨h1,Nat.zero_le _,Nat.zero_le _⟩ ⟨h2,Nat.zero_le _,Nat.zero_le _⟩ (by rw [hb];simp))
 generalize ms.length=d at *
 generalize ns.length=d' at *
 clear g1 g2 hb h1 h2
 go_enter Tryz.func13,Tryz.ntmps13
 go_wp2_with (go_at_call 20;((with_reducible refine (HS.out).mono ?_);rintro e w1 ⟨rfl,b1⟩))
 go_ret
 exact⟨rfl,b1⟩
end Go.Proofs.YtdgnjhhieemcaaaGreatDoor.L18
end
section
namespace Go.Proofs.YtdgnjhhieemcaaaGreatDoor.L18
open Go.RowKit L3 L4 L12 L14 L17
open L13 (Ob)
open L16 (Tb)
attribute [local go_sem] Oper.semAt_some
theorem df_form {W:World} {v:Value} {ms:List L9.Df} (h:L10.DfAt W v ms):∃ a c,v=.slice a ms.length c:=by
 rcases h with ⟨b,o,cap,rfl,-⟩|⟨rfl,a,cap,rfl⟩
 ·exact⟨_,_,rfl⟩
 ·exact⟨_,_,rfl⟩
theorem same_walk (va vb vm vn:Value) (l m:List L9.Ins) (ms ns:List L9.Df) (w:World) (g1:IsAt w va l) (g2:IsAt w vb m) (g3:L10.DfAt w vm ms) (g4:L10.DfAt w vn ns) (hT:T18 w) :
  Calls Tryz.prog 7 #[va,vb,.agg #[vm,vn]] w fun e w'=>e=.returned (.bool true)∧Below w.heap.size w w':=by
 have HA:=Lib.hid (fun (W:World) (h:Below w.heap.size w W)=>alive18 W (hT.below h))
 obtain⟨n1,hn1⟩:∃ n,l.length=n:=⟨_,rfl⟩
 obtain⟨n2,hn2⟩:∃ n,m.length=n:=⟨_,rfl⟩
 obtain⟨n3,hn3⟩:∃ n,ms.length=n:=⟨_,rfl⟩
 obtain⟨n4,hn4⟩:∃ n,ns.length=n:=⟨_,rfl⟩
 obtain⟨b1,hb1⟩:=bq (l=m)
 obtain⟨b2,hb2⟩:=bq (ms=ns)
 have HG:=Lib.hid (fun (W:World) (h:Below w.heap.size w W)=>And.intro (g1.below h) (And.intro (g2.below h) (And.intro (g3.below h) (g4.below h))))
 obtain⟨a1,c1,rfl,-⟩:=is_form hn1 g1
 obtain⟨a2,c2,rfl,-⟩:=is_form hn2 g2
 obtain⟨a3,c3,rfl⟩:=df_form g3
 obtain⟨a4,c4,rfl⟩:=df_form g4
 rw [hn3,hn4] at HG ⊢
 have HN:=Lib.hid (And.intro hn1 (And.intro hn2 (And.intro hn3 (And.intro hn4 (And.intro hb1 hb2)))))
 have K0:=Lib.hid (heap_alloc_last w (.cells #[.slice a3 n3 c3,.slice a4 n4 c4] 54))
 have HB:=Lib.hid (bnew w (.cells #[.slice a3 n3 c3,.slice a4 n4 c4] 54))
 clear g1 g2 g3 g4 hT hn1 hn2 hn3 hn4 hb1 hb2
 by_cases hs:n1≤100∧n2≤100∧n3≤100∧n4≤100
 ·have d1:=L16.gt_f (a:=(n1:Int)) (b:=100) (by omega)
  have d2:=L16.gt_f (a:=(n2:Int)) (b:=100) (by omega)
  have d3:=L16.gt_f (a:=(n3:Int)) (b:=100) (by omega)
  have d4:=L16.gt_f (a:=(n4:Int)) (b:=100) (by omega)
  have H1:=Lib.hid (fun (W:World) (h:Below w.heap.size w W)=>lsame_at (.slice a3 n3 c3) (.slice a1 n1 c1) (.slice a4 n4 c4) (.slice a2 n2 c2) ms ns l m (b2 && b1) W (by rw [HN.out.2.2.1];omega) (by rw [HN.out.2.2.2.1];omega) (by rw [HN.out.1];omega) (by rw [HN.out.2.1];omega) (HG.out W h).2.2.1 (HG.out W h).1 (HG.out W h).2.2.2 (HG.out W h).2.1 (by rw [Bool.and_eq_true,HN.out.2.2.2.2.1,HN.out.2.2.2.2.2]))
  have H2:=Lib.hid (fun (W:World) (h:Below w.heap.size w W)=>lsame_at (.slice a3 n3 c3) (.slice a1 n1 c1) (.slice a3 n3 c3) (.slice a1 n1 c1) ms ms l l true W (by rw [HN.out.2.2.1];omega) (by rw [HN.out.2.2.1];omega) (by rw [HN.out.1];omega) (by rw [HN.out.1];omega) (HG.out W h).2.2.1 (HG.out W h).1 (HG.out W h).2.2.1 (HG.out W h).1 (by simp))
  have H3:=Lib.hid (fun (W:World) (h:Below w.heap.size w W)=>rsameI_at (.slice a1 n1 c1) (.slice a2 n2 c2) l m b1 W (by rw [HN.out.1];omega) (by rw [HN.out.2.1];omega) (HG.out W h).1 (HG.out W h).2.1 HN.out.2.2.2.2.1)
  have H4:=Lib.hid (fun (W:World) (h:Below w.heap.size w W)=>rsmaps_at (.slice a3 n3 c3) (.slice a4 n4 c4) ms ns b2 W (by rw [HN.out.2.2.1];omega) (by rw [HN.out.2.2.2.1];omega) (HG.out W h).2.2.1 (HG.out W h).2.2.2 HN.out.2.2.2.2.2)
  clear hs HN HG
  go_enter Tryz.func7,Tryz.ntmps7
  go_upto_region 3 with (fail)
  have hbn:=HB.out
  have hk0:=K0.out
  generalize w.alloc (.cells #[.slice a3 n3 c3,.slice a4 n4 c4] 54)=W0 at *
  refine wp_region_held_drew (S:=fun X=>X.heap[w.heap.size]?=some (.cells #[.slice a3 n3 c3,.slice a4 n4 c4] 54)) (by kernel_rfl) hk0 (fun hH=>?_)
  have hbd:Below w.heap.size w W0.drew:=hbn.drew
  clear hbn hk0
  generalize W0.drew=Wd at *
  clear HB K0
  refine zT3 0 30 (.indexAddr 54 (.tmp 5) (.const (.int .i64 0))) (.pointer (some ⟨w.heap.size,0,none⟩)) rfl hH ?_
  simp only [zz]
  refine zT1 1 31 (.load 22 (.tmp 30)) (.slice a3 n3 c3) rfl (fun wS hS=>by obtain⟨z0,z1⟩:=cells2 hS;go_simp) hH ?_
  simp only [zz]
  refine zT0 2 32 (.move (.tmp 0)) (.slice a1 n1 c1) rfl hH ?_
  simp only [zz]
  refine zT3 3 33 (.build 31 #[(0,.tmp 31),(1,.tmp 32)]) (.agg #[.slice a3 n3 c3,.slice a1 n1 c1]) rfl hH ?_
  simp only [zz]
  refine zT3 4 34 (.indexAddr 54 (.tmp 5) (.const (.int .i64 1))) (.pointer (some ⟨w.heap.size,1,none⟩)) rfl hH ?_
  simp only [zz]
  refine zT1 5 35 (.load 22 (.tmp 34)) (.slice a4 n4 c4) rfl (fun wS hS=>by obtain⟨z0,z1⟩:=cells2 hS;go_simp) hH ?_
  simp only [zz]
  refine zT0 6 36 (.move (.tmp 1)) (.slice a2 n2 c2) rfl hH ?_
  simp only [zz]
  refine zT3 7 37 (.build 31 #[(0,.tmp 35),(1,.tmp 36)]) (.agg #[.slice a4 n4 c4,.slice a2 n2 c2]) rfl hH ?_
  simp only [zz]
  have p1:=bnew Wd (im2 (.slice none 0 0) (.slice none 0 0))
  have p2:=bnew (Wd.alloc (im2 (.slice none 0 0) (.slice none 0 0))) (im2 (.slice none 0 0) (.slice none 0 0))
  have k1:=L8.row_up (heap_alloc_last Wd (im2 (.slice none 0 0) (.slice none 0 0))) p2
  have k2:=heap_alloc_last (Wd.alloc (im2 (.slice none 0 0) (.slice none 0 0))) (im2 (.slice none 0 0) (.slice none 0 0))
  have q1:=L8.row_up hH p1
  have q2:=L8.row_up q1 p2
  have B2:=bch (bch hbd p1) p2
  have hsz:=hbd.size
  have hKz:=lt_of_block hH
  rw [World.size_alloc] at k2
  refine wpAnyH_ready (rs:=[8,9]) (by kernel_rfl) (by simp) ?_
  refine AllReadyH.cons (o:=⟨some 7,.alloc 31,_,_,_,none⟩) rfl (fun K hK=>?_) (AllReadyH.cons (o:=⟨some 8,.alloc 31,_,_,_,none⟩) rfl (fun K hK=>?_) AllReadyH.nil)
  focus
   go_simp
   refine hK.out _ _ q1 (fun _=>?_)
   clear hK K
   (try simp only [zz])
   refine wpAnyH_ready (rs:=[9]) (by kernel_rfl) (by simp) ?_
   refine AllReadyH.cons (o:=⟨some 8,.alloc 31,_,_,_,none⟩) rfl (fun K hK=>?_) AllReadyH.nil
   go_simp
   refine hK.out _ _ q2 (fun _=>?_)
   clear hK K
   (try simp only [zz])
   obtain⟨P,hP⟩:∃ z,Wd.heap.size=z:=⟨_,rfl⟩
   obtain⟨Q,hQ⟩:∃ z,P+1=z:=⟨_,rfl⟩
   rw [hP] at k1 k2 ⊢
   rw [hQ] at k2 ⊢
  rotate_left
  focus
   go_simp
   refine hK.out _ _ q1 (fun _=>?_)
   clear hK K
   (try simp only [zz])
   refine wpAnyH_ready (rs:=[8]) (by kernel_rfl) (by simp) ?_
   refine AllReadyH.cons (o:=⟨some 7,.alloc 31,_,_,_,none⟩) rfl (fun K hK=>?_) AllReadyH.nil
   go_simp
   refine hK.out _ _ q2 (fun _=>?_)
   clear hK K
   (try simp only [zz])
   obtain⟨Q,hQ⟩:∃ z,Wd.heap.size=z:=⟨_,rfl⟩
   obtain⟨P,hP⟩:∃ z,Q+1=z:=⟨_,rfl⟩
   have k1':=k1
   have k1:=k2
   have k2:=k1'
   clear k1'
   rw [hQ] at k1 k2 ⊢
   rw [hP] at k1 ⊢
  all_goals
   clear hH hbd p1 p2 q1
   generalize (Wd.alloc (im2 (.slice none 0 0) (.slice none 0 0))).alloc (im2 (.slice none 0 0) (.slice none 0 0))=W2 at *
   obtain⟨x0,x1⟩:=cells2 k1
   have fz:=frozen_all k1
   have lx:=lt_of_block k1
   refine wpAnyH_ready (rs:=[10]) (by kernel_rfl) (by simp) ?_
   refine AllReadyH.cons (o:=⟨none,.store 31 (.tmp 7) (.tmp 33),_,_,_,none⟩) rfl (fun K hK=>?_) AllReadyH.nil
   go_simp
   have s1:=set2 (x:=.slice a3 n3 c3) (y:=.slice a1 n1 c1) k1
   have s2:=(Below.heap_setCell (W2.setCell ⟨P,0,none⟩ (.slice a3 n3 c3)) ⟨P,1,none⟩ (.slice a1 n1 c1) Q (by show Q≠P;omega)).trans ((Below.heap_setCell W2 ⟨P,0,none⟩ (.slice a3 n3 c3) Q (by show Q≠P;omega)).trans k2)
   have s3:=(Below.heap_setCell (W2.setCell ⟨P,0,none⟩ (.slice a3 n3 c3)) ⟨P,1,none⟩ (.slice a1 n1 c1) w.heap.size (by show w.heap.size≠P;omega)).trans ((Below.heap_setCell W2 ⟨P,0,none⟩ (.slice a3 n3 c3) w.heap.size (by show w.heap.size≠P;omega)).trans q2)
   have s4:=bel2 B2 (show w.heap.size≤P by omega) (.slice a3 n3 c3) (.slice a1 n1 c1)
   refine hK.out _ _ s3 (fun _=>?_)
   clear hK K x0 x1 fz lx k1 k2 q2 B2
   (try simp only [zz])
   generalize (W2.setCell ⟨P,0,none⟩ (.slice a3 n3 c3)).setCell ⟨P,1,none⟩ (.slice a1 n1 c1)=W3 at *
   obtain⟨x0,x1⟩:=cells2 s2
   have fz:=frozen_all s2
   have lx:=lt_of_block s2
   refine wpAnyH_ready (rs:=[11]) (by kernel_rfl) (by simp) ?_
   refine AllReadyH.cons (o:=⟨none,.store 31 (.tmp 8) (.tmp 37),_,_,_,none⟩) rfl (fun K hK=>?_) AllReadyH.nil
   go_simp
   have t1:=set2 (x:=.slice a4 n4 c4) (y:=.slice a2 n2 c2) s2
   have t2:=(Below.heap_setCell (W3.setCell ⟨Q,0,none⟩ (.slice a4 n4 c4)) ⟨Q,1,none⟩ (.slice a2 n2 c2) P (by show P≠Q;omega)).trans ((Below.heap_setCell W3 ⟨Q,0,none⟩ (.slice a4 n4 c4) P (by show P≠Q;omega)).trans s1)
   have t3:=(Below.heap_setCell (W3.setCell ⟨Q,0,none⟩ (.slice a4 n4 c4)) ⟨Q,1,none⟩ (.slice a2 n2 c2) w.heap.size (by show w.heap.size≠Q;omega)).trans ((Below.heap_setCell W3 ⟨Q,0,none⟩ (.slice a4 n4 c4) w.heap.size (by show w.heap.size≠Q;omega)).trans s3)
   have t4:=bel2 s4 (show w.heap.size≤Q by omega) (.slice a4 n4 c4) (.slice a2 n2 c2)
   refine hK.out _ _ t3 (fun _=>?_)
   clear hK K x0 x1 fz lx s1 s2 s3 s4
   (try simp only [zz])
   generalize (W3.setCell ⟨Q,0,none⟩ (.slice a4 n4 c4)).setCell ⟨Q,1,none⟩ (.slice a2 n2 c2)=W4 at *
   refine wpAnyH_done (by kernel_rfl) ?_ _
   clear hP hQ hKz hsz
   cases b1 <;> cases b2
   all_goals
    simp only [Bool.and_true,Bool.and_false] at H1
    go_wp2_with (first
     | (go_at_call 10;((with_reducible refine (HA.out _ t4).mono ?_);rintro e w5 ⟨rfl,b5⟩;have B5:=bch t4 b5;obtain⟨x0,x1⟩:=cells2 (L8.row_up t2 b5);obtain⟨y0,y1⟩:=cells2 (L8.row_up t1 b5);obtain⟨z0,z1⟩:=cells2 (L8.row_up t3 b5);have b5':=b5))
     | (go_at_call 21;((with_reducible refine (H1.out _ B5).mono ?_);rintro e w6 ⟨rfl,b6⟩;have B6:=bch B5 b6;have b56:=bch b5 b6;obtain⟨x0',x1'⟩:=cells2 (L8.row_up t2 b56);obtain⟨z0',z1'⟩:=cells2 (L8.row_up t3 b56)))
     | (go_at_call 14;((with_reducible refine (H3.out _ B6).mono ?_);rintro e w7 ⟨rfl,b7⟩;have B7:=bch B6 b7;have b57:=bch b56 b7;obtain⟨x0'',x1''⟩:=cells2 (L8.row_up t2 b57);obtain⟨z0'',z1''⟩:=cells2 (L8.row_up t3 b57)))
     | (go_at_call 13;((with_reducible refine (H4.out _ B7).mono ?_);rintro e w8 ⟨rfl,b8⟩;have B7:=bch B7 b8;have b58:=bch b57 b8;obtain⟨x0'',x1''⟩:=cells2 (L8.row_up t2 b58)))
     | (go_at_call 21;((with_reducible refine (H2.out _ B7).mono ?_);rintro e w9 ⟨rfl,b9⟩)))
    go_ret
    exact⟨rfl,bch B7 b9⟩
 ·have F:∀ {n:Nat},n≤100→decide ((100:Int)<(n:Int))=false:=fun h=>L16.gt_f (by omega)
  have G:∀ {n:Nat},¬ n≤100→decide ((100:Int)<(n:Int))=true:=fun h=>L16.gt_t (by omega)
  clear HN HG
  have D:(decide ((100:Int)<(n1:Int))=false∧decide ((100:Int)<(n2:Int))=false∧decide ((100:Int)<(n3:Int))=false∧decide ((100:Int)<(n4:Int))=true)∨(decide ((100:Int)<(n1:Int))=false∧decide ((100:Int)<(n2:Int))=false∧decide ((100:Int)<(n3:Int))=true)∨(decide ((100:Int)<(n1:Int))=false∧decide ((100:Int)<(n2:Int))=true)∨decide ((100:Int)<(n1:Int))=true:=by
   by_cases e1:n1≤100
   ·by_cases e2:n2≤100
    ·by_cases e3:n3≤100
     ·exact .inl ⟨F e1,F e2,F e3,G fun e4=>hs ⟨e1,e2,e3,e4⟩⟩
     ·exact .inr (.inl ⟨F e1,F e2,G e3⟩)
    ·exact .inr (.inr (.inl ⟨F e1,G e2⟩))
   ·exact .inr (.inr (.inr (G e1)))
  rcases D with ⟨d1,d2,d3,d4⟩|⟨d1,d2,d3⟩|⟨d1,d2⟩|d1
  all_goals
   clear F G hs
   go_enter Tryz.func7,Tryz.ntmps7
   go_wp2_with (go_at_call 10;((with_reducible refine (HA.out _ HB.out).mono ?_);rintro e w1 ⟨rfl,b1⟩))
   go_ret
   exact⟨rfl,bch HB.out b1⟩
end Go.Proofs.YtdgnjhhieemcaaaGreatDoor.L18
end
section
namespace Go.Proofs.YtdgnjhhieemcaaaGreatDoor.L12
open Go.ChangeShapes Go.WideShapes Go.ChangeAt Go.RowKit Go.Deep
section
variable {H:Type} {enc:TypeId × Value→H} {W:World} {base:Nat} {sp:Nat→Bool} {held:Bool}
theorem open_isl {fuel:Nat} {cs:List Value} {x:DataW H × List MemPlace} (h:DataW.trod enc Tryz.prog W base sp held fuel 29 cs=some x) :
  ∃ v l,cs=[v]∧IsAt W v l∧l.length≤maxLen:=by
 rcases open_slice Tryz.underlying29 h with ⟨hcs,-⟩|⟨a,len,cap,m,n,D,Pl,hcs,-,hl,hcm,hmm,-,hi⟩
 ·exact⟨_,[],hcs,.inr ⟨rfl,none,0,rfl⟩,by simp⟩
 ·rw [L10.cI] at hi
  have each:∀ i,i<len→∃ d:L9.Ins,∀ k u,(L10.inL d)[k]?=some u→W.cell? (a.add (i*6+k))=some u:=by
   intro i hil
   obtain⟨cs',hc,ht⟩:=hi i (by split at hmm <;> omega)
   obtain⟨d,hd,-⟩:=L10.open_insC ht
   obtain⟨_,hcl,hat⟩:=World.cells?_some hc
   refine⟨d,fun k u hu=>?_⟩
   have hk:k<6:=by
    have:=(List.getElem?_eq_some_iff.1 hu).1
    simpa using this
   rw [← Go.Deep.add_add,hat k hk,hd];exact hu
  obtain⟨l,hll,hp⟩:=L10.list_of len each
  subst hll
  refine⟨_,l,hcs,?_,by omega⟩
  by_cases h0:l=[]
  ·exact .inr ⟨h0,some a,cap,by rw [h0];rfl⟩
  ·have hpos:0<l.length:=List.length_pos_iff.2 h0
   have hc0:=hp 0 hpos 0 _ rfl
   obtain⟨b,off,spot⟩:=a
   have hspot:spot=none:=by simpa [Addr.add] using World.cell?_spot hc0
   subst hspot
   have hb:=World.block_lt_of_cell? W _ hc0
   refine .inl ⟨b,off,cap,rfl,hb,fun j hj i u hu=>?_⟩
   rw [Nat.add_assoc,← add_plain]
   exact hp j hj i u hu
theorem open_isv {r:Reach} {b0:Nat} {v:Value} {d:DataW H} {ps:List MemPlace} (hval:Value.okWide Tryz.prog W r b0 29 v) (hd:DataW.Trod enc Tryz.prog W base sp held 29 v d ps):∃ l,IsAt W v l∧l.length≤maxLen:=by
 obtain⟨a,n,c,rfl⟩:=okWide_slice Tryz.underlying29 hval
 obtain⟨fuel,hf⟩:=hd
 obtain⟨v',l,hcs,h1,h2⟩:=open_isl hf
 simp only [Value.cells,List.cons.injEq,and_true] at hcs
 subst hcs
 exact⟨l,h1,h2⟩
end
end Go.Proofs.YtdgnjhhieemcaaaGreatDoor.L12
end
section
namespace Go.Proofs.YtdgnjhhieemcaaaGreatDoor.L18
open Go.ChangeShapes Go.WideShapes Go.ChangeAt Go.RowKit Go.Deep L12
theorem wf_imm {x:Int} (h:(Lit.int .i64 x).wf=true):-9223372036854775808≤x∧x≤9223372036854775807:=by
 simpa [Lit.wf,IntKind.min,IntKind.max,IntKind.bits,IntKind.signed] using h
section
variable {H:Type} {enc:TypeId × Value→H} {W:World} {base:Nat} {sp:Nat→Bool} {held:Bool}
theorem open_ds {r:Reach} {b0:Nat} {v:Value} {d:DataW H} {ps:List MemPlace} (hval:Value.okWide Tryz.prog W r b0 22 v) (hd:DataW.Trod enc Tryz.prog W base sp held 22 v d ps):∃ l,L10.DfAt W v l∧∀ d∈l,d.nm.size≤maxLen:=by
 obtain⟨a,n,c,rfl⟩:=okWide_slice Tryz.underlying22 hval
 obtain⟨fuel,hf⟩:=hd
 obtain⟨v',l,hcs,h1,h2⟩:=L10.open_defs hf
 simp only [Value.cells,List.cons.injEq,and_true] at hcs
 subst hcs
 exact⟨l,h1,fun d hd=>(h2 d hd).nm⟩
theorem open_ar {r:Reach} {b0:Nat} {v:Value} {d:DataW H} {ps:List MemPlace} (hval:Value.okWide Tryz.prog W r b0 54 v) (hd:DataW.Trod enc Tryz.prog W base sp held 54 v d ps):∃ (x y:Value) (l m:List L9.Df),v=.agg #[x,y]∧L10.DfAt W x l∧L10.DfAt W y m:=by
 obtain⟨cs,rfl,hsz⟩:∃ cs,v=.agg cs∧cs.size=Tryz.prog.cellsOf 54:=by
  simp only [Value.okWide,Tryz.underlying54] at hval
  obtain⟨cs,h1,h2,_⟩:=hval
  exact⟨cs,h1,h2⟩
 rw [show Tryz.prog.cellsOf 54=2 by kernel_rfl] at hsz
 obtain⟨l⟩:=cs
 obtain⟨fuel,hf⟩:=hd
 obtain⟨xs,n,_,hx,_,hlen,hg⟩:=DataW.trod_array Tryz.underlying54 hf
 rw [show Tryz.prog.cellsOf 22=1 by kernel_rfl] at hg
 match l,hsz,xs,hlen with
 | [c0,c1],_,[y0,y1],_ =>
  have g0:DataW.trod enc Tryz.prog W base sp held n 22 [c0]=some y0:=by simpa [Value.cells] using hg 0 (by omega)
  have g1:DataW.trod enc Tryz.prog W base sp held n 22 [c1]=some y1:=by simpa [Value.cells] using hg 1 (by omega)
  obtain⟨v0,l0,e0,h0,f0⟩:=L10.open_defs g0
  obtain⟨v1,l1,e1,h1,f1⟩:=L10.open_defs g1
  simp only [List.cons.injEq,and_true] at e0 e1
  subst e0 e1
  exact⟨_,_,l0,l1,rfl,h0,h1⟩
theorem open_isf {r:Reach} {b0:Nat} {v:Value} {d:DataW H} {ps:List MemPlace} (hval:Value.okWide Tryz.prog W r b0 29 v) (hd:DataW.Trod enc Tryz.prog W base sp held 29 v d ps):∃ l,IsAt W v l∧∀ x∈l,L5.Ix.fits (L13.tI x):=by
 obtain⟨a,n,c,rfl⟩:=okWide_slice Tryz.underlying29 hval
 obtain⟨fuel,h⟩:=hd
 rcases open_slice Tryz.underlying29 h with ⟨hcs,-⟩|⟨a,len,cap,m,n,D,Pl,hcs,-,hl,hcm,hmm,-,hi⟩
 ·simp only [Value.cells,List.cons.injEq,and_true] at hcs
  rw [hcs]
  exact⟨[],.inr ⟨rfl,none,0,rfl⟩,by simp⟩
 ·simp only [Value.cells,List.cons.injEq,and_true] at hcs
  rw [hcs]
  rw [L10.cI] at hi
  have each:∀ i,i<len→∃ d:L9.Ins,L5.Ix.fits (L13.tI d)∧∀ k u,(L10.inL d)[k]?=some u→W.cell? (a.add (i*6+k))=some u:=by
   intro i hil
   obtain⟨cs',hc,ht⟩:=hi i (by split at hmm <;> omega)
   obtain⟨d,hd,-,-,-,-,hf⟩:=L10.open_insC ht
   obtain⟨_,hcl,hat⟩:=World.cells?_some hc
   refine⟨d,wf_imm hf,fun k u hu=>?_⟩
   have hk:k<6:=by
    have:=(List.getElem?_eq_some_iff.1 hu).1
    simpa using this
   rw [← Go.Deep.add_add,hat k hk,hd];exact hu
  obtain⟨l,hll,hp⟩:=L10.list_of len each
  subst hll
  refine⟨l,?_,fun x hx=>?_⟩
  ·by_cases h0:l=[]
   ·exact .inr ⟨h0,some a,cap,by rw [h0];rfl⟩
   ·have hpos:0<l.length:=List.length_pos_iff.2 h0
    have hc0:=(hp 0 hpos).2 0 _ rfl
    obtain⟨b,off,spot⟩:=a
    have hspot:spot=none:=by simpa [Addr.add] using World.cell?_spot hc0
    subst hspot
    have hb:=World.block_lt_of_cell? W _ hc0
    refine .inl ⟨b,off,cap,rfl,hb,fun j hj i u hu=>?_⟩
    rw [Nat.add_assoc,← add_plain]
    exact (hp j hj).2 i u hu
  ·obtain⟨i,hi,rfl⟩:=List.mem_iff_getElem.1 hx
   exact (hp i hi).1
end
end Go.Proofs.YtdgnjhhieemcaaaGreatDoor.L18
end
section
namespace Go.Proofs.YtdgnjhhieemcaaaGreatDoor
open Go.ChangeShapes Go.WideShapes Go.ChangeAt Go.RowKit
theorem sam_walk (w:World) (x0:Value) (g0:List L9.Ins) (hp0:L12.IsAt w x0 g0) (x1:Value) (g1:List L9.Ins) (hp1:L12.IsAt w x1 g1) (x2 y2:Value) (g2 e2:List L9.Df) (hp2:L10.DfAt w x2 g2) (hq2:L10.DfAt w y2 e2) (hT:L18.T18 w):Calls Tryz.prog 7 #[x0,x1,.agg #[x2,y2]] w fun e w'=>e=.returned (.bool true)∧Below w.heap.size w w' :=
 L18.same_walk _ _ _ _ g0 g1 g2 e2 w hp0 hp1 hp2 hq2 hT
theorem sam_lifted (os:Os) (started:os.Started) (H:Type) (enc:TypeId × Value→H) :
  ReturnsInHanded {} Tryz.checked os 7 .any (fun w args=>(Rows.loadSameSpec.pre enc Tryz.prog Tryz.f7 [] false w args∧laidMetH Tryz.prog laid2 w)∧sizedMet enc Tryz.prog Tryz.f7 (OpenSpec.ofChange Rows.loadSameSpec) false w args)
   (Rows.loadSameSpec.post enc Tryz.prog Tryz.f7 false true false false):=by
 refine returns_shaped_and (C:=Tryz.checked) (X:=fun w _=>laidMetH Tryz.prog laid2 w) (fun _ _ _ hh h=>h.of_heap hh) own started (by kernel_rfl) Tryz.func7
  (ChangeSpec.witness_shaped (enc:=enc) (C:=Tryz.checked) (os:=os) (X:=fun w _=>laidMetH Tryz.prog laid2 w) false (World.doorLaid Tryz.prog 4000 os) #[.slice none 0 0,.slice none 0 0,.agg #[.slice none 0 0,.slice none 0 0]] 8 rfl (World.shaped_of_RefB (by kernel_rfl) (by kernel_rfl)) (by kernel_rfl) (by kernel_rfl) (by kernel_rfl) (door_met2 os _)) ?_
 intro W base args ds gs before hval0 hW hwt hL hsh
 have hval:∀ (j:Nat) t v,Tryz.f7.params[j]?=some t→args[j]?=some v→Value.okWide Tryz.prog W .any base t v:=hval0
 have hW':=hW
 obtain⟨p,q,hA0,hV,rfl,hfz,hnd⟩:=hW
 have hA:DataW.TrodAll enc Tryz.prog W 0 (fun _=>true) true Tryz.f7.params.toList args.toList ds p:=hA0
 rw [Tryz.params7] at hA hval hwt
 obtain⟨v0,vs0,d0,ds0,p0,q0,hargs,rfl,rfl,h0,r0⟩:=trodAll_cons hA
 obtain⟨v1,vs1,d1,ds1,p1,q1,rfl,rfl,rfl,h1,r1⟩:=trodAll_cons r0
 obtain⟨v2,vs2,d2,ds2,p2,q2,rfl,rfl,rfl,h2,r2⟩:=trodAll_cons r1
 obtain⟨rfl,rfl,rfl⟩:=trodAll_nil r2
 obtain rfl:args=#[v0,v1,v2]:=by cases args;simp_all
 obtain⟨rfl,rfl⟩:=trodVars_none hV
 have k0:=h0
 obtain⟨g0,hp0,-⟩:=L12.open_isv (hval 0 29 v0 rfl rfl) h0
 have hw0:L10.Wt 29 d0:=fun n hn=>by simpa using List.all_eq_true.1 hwt n (List.mem_append_left _ hn)
 have k1:=h1
 obtain⟨g1,hp1,-⟩:=L12.open_isv (hval 1 29 v1 rfl rfl) h1
 have hw1:L10.Wt 29 d1:=fun n hn=>by simpa using List.all_eq_true.1 hwt n (List.mem_append_right _ (List.mem_append_left _ hn))
 have k2:=h2
 obtain⟨x2,y2,g2,e2,rfl,hp2,hq2⟩:=L18.open_ar (hval 2 54 v2 rfl rfl) h2
 have hw2:L10.Wt 54 d2:=fun n hn=>by simpa using List.all_eq_true.1 hwt n (List.mem_append_right _ (List.mem_append_right _ (List.mem_append_left _ hn)))
 clear hA0 hval0
 simp only [List.append_nil] at hW'
 have l0:∀ x∈p0,x.block<W.heap.size:=fun x hx=>by simpa using hW'.lt x (by simp [hx])
 have l1:∀ x∈p1,x.block<W.heap.size:=fun x hx=>by simpa using hW'.lt x (by simp [hx])
 have l2:∀ x∈p2,x.block<W.heap.size:=fun x hx=>by simpa using hW'.lt x (by simp [hx])
 refine (sam_walk W v0 g0 hp0 v1 g1 hp1 x2 y2 g2 e2 hp2 hq2 (tabs_of18 hL hsh)).mono fun e W' ⟨he,hg⟩=>?_
 subst he
 have hTA:DataW.TrodAll enc Tryz.prog W' 0 (fun b=>decide (b<W.heap.size)) true [29,29,54] [v0,v1,.agg #[x2,y2]] [d0,d1,d2] (p0++(p1++(p2))):=by
  simpa only [List.append_nil,List.nil_append] using (trodAll_cons_mk (Below.trod laidOut (by kernel_rfl) (of_decide_eq_true (by kernel_rfl)) k0 hg l0) (trodAll_cons_mk (Below.trod laidOut (by kernel_rfl) (of_decide_eq_true (by kernel_rfl)) k1 hg l1) (trodAll_cons_mk (Below.trod laidOut (by kernel_rfl) (of_decide_eq_true (by kernel_rfl)) k2 hg l2) trodAll_mk0)))
 exact⟨_,rfl,law_post_at hW' rfl rfl Tryz.underlying4 rfl hTA hg⟩
end Go.Proofs.YtdgnjhhieemcaaaGreatDoor
end
end
