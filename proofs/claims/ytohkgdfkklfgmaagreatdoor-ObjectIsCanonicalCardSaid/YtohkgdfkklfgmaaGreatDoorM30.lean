/- Lemmas and walks of L13Sa, L13Sb, L13Asm: what each theorem states; conditions stand in each theorem. -/
import Derived.Test.YtohkgdfkklfgmaaGreatDoorM28
import Derived.Test.YtohkgdfkklfgmaaGreatDoorM13
import Derived.Test.YtohkgdfkklfgmaaGreatDoorM20
import Derived.Deep.QuietTactic
import Derived.BigQuiet
import Derived.Test.YtohkgdfkklfgmaaGreatDoorM29
import Derived.Test.YtohkgdfkklfgmaaGreatDoorL10Cln
import Derived.Deep.RegionHeld
section
set_option maxRecDepth 100000
set_option maxHeartbeats 4000000
namespace Go.Proofs.YtohkgdfkklfgmaaGreatDoor.L13
open Go.RowKit Go.Shelf L12
open L10 (take_eq take_all get_ne)
attribute [local go_sem] Oper.semAt_some
structure Ob where
 maps:List L9.Df
 code:List UInt8
 rels:List (Int × Int)
abbrev roL (r:Int × Int):List Value:=[.int .i64 r.1,.int .i64 r.2]
def RoAt (w:World) (v:Value) (l:List (Int × Int)):Prop :=
 (∃ b o cap,v=.slice (some ⟨b,o,none⟩) l.length cap∧b<w.heap.size∧∀ j,(h:j<l.length)→w.cell? ⟨b,o+j*2,none⟩=some (.int .i64 l[j].1)∧w.cell? ⟨b,o+j*2+1,none⟩=some (.int .i64 l[j].2))∨(l=[]∧∃ a cap,v=.slice a 0 cap)
theorem RoAt.below {w w':World} {v:Value} {l:List (Int × Int)} (h:RoAt w v l) (hb:Below w.heap.size w w'):RoAt w' v l:=by
 rcases h with ⟨b,o,cap,rfl,hlt,hc⟩|h
 ·exact .inl ⟨b,o,cap,rfl,Nat.lt_of_lt_of_le hlt hb.size,fun j hj=>⟨cell_up hb (hc j hj).1,cell_up hb (hc j hj).2⟩⟩
 ·exact .inr h
theorem ro_form {w:World} {v:Value} {l:List (Int × Int)} {n:Nat} (hn:l.length=n) (h:RoAt w v l):∃ a c,v=.slice a n c∧(0<n→∃ b o,a=some ⟨b,o,none⟩∧b<w.heap.size∧∀ j,(h:j<l.length)→w.cell? ⟨b,o+j*2,none⟩=some (.int .i64 l[j].1)∧w.cell? ⟨b,o+j*2+1,none⟩=some (.int .i64 l[j].2)):=by
 subst hn
 rcases h with ⟨b,o,cap,rfl,hb,hc⟩|⟨rfl,a,cap,rfl⟩
 ·exact⟨_,_,rfl,fun _=>⟨b,o,rfl,hb,hc⟩⟩
 ·exact⟨a,cap,rfl,fun h=>absurd h (by simp)⟩
theorem bs_form {w:World} {v:Value} {l:List UInt8} {n:Nat} (hn:l.length=n) (h:L5.BsV w v l):∃ a c,v=.slice a n c∧(0<n→∃ b o,a=some ⟨b,o,none⟩∧b<w.heap.size∧∀ j,(h:j<l.length)→w.cell? ⟨b,o+j,none⟩=some (.int .u8 (l[j].toNat:Int))):=by
 subst hn
 obtain⟨a,c,rfl,hc⟩:=h
 refine⟨a,c,rfl,fun h0=>?_⟩
 obtain⟨k,o,rfl,hB⟩:=hc.resolve_left (fun e=>by rw [e] at h0;exact absurd h0 (by simp))
 have h1:=hB 0 h0
 exact⟨k,o,rfl,World.block_lt_of_cell? _ _ h1,hB⟩
structure ObAt (w:World) (vm vc vr:Value) (o:Ob):Prop where
 m:L10.DfAt w vm o.maps
 c:L5.BsV w vc o.code
 r:RoAt w vr o.rels
theorem ObAt.below {w w':World} {vm vc vr:Value} {o:Ob} (h:ObAt w vm vc vr o) (hb:Below w.heap.size w w'):ObAt w' vm vc vr o:=⟨h.m.below hb,h.c.below hb,h.r.below hb⟩
theorem rl_ro {w:World} {v:Value} {l:List (Nat × Int)} (h:RlAt w v l):RoAt w v (l.map fun r=>((r.1:Int),r.2)):=by
 rcases h with ⟨b,o,cap,rfl,hlt,hc⟩|⟨rfl,a,cap,rfl⟩
 ·refine .inl ⟨b,o,cap,by rw [List.length_map],hlt,fun j hj=>?_⟩
  rw [List.length_map] at hj
  rw [List.getElem_map]
  exact hc j hj
 ·exact .inr ⟨rfl,a,cap,rfl⟩
theorem byte_ne {x y:UInt8} (h:x≠y):((x.toNat:Int)==(y.toNat:Int))=false∧¬ (x.toNat:Int)=(y.toNat:Int):=by
 have:¬ (x.toNat:Int)=(y.toNat:Int):=fun e=>h (UInt8.toNat_inj.1 (by omega))
 exact⟨by simpa using this,this⟩
theorem nq_ro (d e:Int × Int) (b:Bool) (h:b=true↔d=e) (w:World):(binOp .neq 59 (.agg #[.int .i64 d.1,.int .i64 d.2]) (.agg #[.int .i64 e.1,.int .i64 e.2])).run Tryz.prog w=.ok (.bool (!b)) w:=by
 have hp:Tryz.prog.stoodInHeld 59=false:=by kernel_rfl
 have a3:∀ w,(isAgg 3).run Tryz.prog w=.ok false w:=fun w=>by kernel_rfl
 obtain⟨x1,x2⟩:=d
 obtain⟨y1,y2⟩:=e
 simp only [Prod.mk.injEq] at h ⊢
 simp [go_sem,hp,Tryz.underlying59,Tryz.underlying3,part,a3]
 by_cases e1:x1=y1 <;> by_cases e2:x2=y2 <;> cases b <;> simp_all
theorem off_len {α:Type} {l m:List α} {b:Bool} {n n':Nat} (hn:l.length=n) (hn':m.length=n') (hne:¬ n=n') (hb:b=true↔l=m):b=false:=by
 cases b with
 | false=>rfl
 | true =>
  have:=hb.1 rfl
  subst this
  omega
theorem at_ne {α:Type} {l m:List α} {b:Bool} {k:Nat} (hk1:k<l.length) (hk2:k<m.length) (he:¬ l[k]=m[k]) (hb:b=true↔l=m):b=false:=by
 cases b with
 | false=>rfl
 | true=>exact absurd (hb.1 rfl) (get_ne hk1 hk2 he)
theorem rsameB_at (v v':Value) (l m:List UInt8) (b:Bool) (w:World) (hl:l.length≤100000) (hm:m.length≤100000) (hv:L5.BsV w v l) (hv':L5.BsV w v' m) (hb:b=true↔l=m) :
  Calls Tryz.prog 14 #[v,v'] w fun e w'=>e=.returned (.bool b)∧Below w.heap.size w w':=by
 obtain⟨n,hn⟩:∃ n,l.length=n:=⟨_,rfl⟩
 obtain⟨n',hn'⟩:∃ n,m.length=n:=⟨_,rfl⟩
 obtain⟨a,c,rfl,hc⟩:=bs_form hn hv
 obtain⟨a',c',rfl,hc'⟩:=bs_form hn' hv'
 rw [hn] at hl
 rw [hn'] at hm
 by_cases hne:n=n'
 ·subst hne
  have HN:=Lib.hid hn
  have HM:=Lib.hid hn'
  have HC:=Lib.hid hc
  have HC':=Lib.hid hc'
  have HB:=Lib.hid hb
  clear hn hn' hc hc' hb hv hv'
  go_enter Tryz.func14,Tryz.ntmps14
  go_wp2
  go_loopw [5] (fun i wr=>∃ k:Nat,k≤n∧i=.int .i64 (k:Int)∧Hid (Below w.heap.size w wr)∧Hid (l.take k=m.take k)) (fun i _=>n-(intOf i).toNat)
  case atStart=>exact⟨0,Nat.zero_le _,rfl,Lib.hid (Below.refl _ _),Lib.hid rfl⟩
  case round =>
   obtain⟨k,hk,rfl,hW,hT⟩:=hrel
   by_cases hlt:k<n
   ·have hk1:k<l.length:=by rw [HN.out];exact hlt
    have hk2:k<m.length:=by rw [HM.out];exact hlt
    obtain⟨b1,o1,rfl,hb1,hc1⟩:=HC.out (by omega)
    obtain⟨b2,o2,rfl,hb2,hc2⟩:=HC'.out (by omega)
    have hx:=hc1 k hk1
    have hy:=hc2 k hk2
    clear hc1 hc2
    have hlt':(k:Int)<(n:Int):=by omega
    by_cases he:l[k]=m[k]
    ·have HT:=Lib.hid (take_eq hk1 hk2 hT.out he)
     rw [← he] at hy
     obtain⟨d,hd⟩:∃ d,l[k]=d:=⟨_,rfl⟩
     rw [hd] at hx hy
     clear he hd hT
     have x0:=cell_up hW.out hx
     have y0:=cell_up hW.out hy
     have hlx:=World.block_lt_of_cell? _ _ x0
     have hly:=World.block_lt_of_cell? _ _ y0
     simp only at hlx hly
     go_wp2
     go_quiet (fail)
     go_wp2
     go_roundw
     case rel=>exact⟨k+1,by omega,by go_num,Lib.hid (L8.bdN hW.out _),HT⟩
     case measure=>simp [intOf];omega
    ·have HB2:=Lib.hid (at_ne hk1 hk2 he HB.out)
     obtain⟨d,hd⟩:∃ d,l[k]=d:=⟨_,rfl⟩
     obtain⟨d',hd'⟩:∃ d,m[k]=d:=⟨_,rfl⟩
     rw [hd] at hx
     rw [hd'] at hy
     rw [hd,hd'] at he
     have x0:=cell_up hW.out hx
     have y0:=cell_up hW.out hy
     have hlx:=World.block_lt_of_cell? _ _ x0
     have hly:=World.block_lt_of_cell? _ _ y0
     simp only at hlx hly
     obtain⟨n1,n2⟩:=byte_ne he
     clear he hd hd' hT
     go_wp2
     go_quiet (fail)
     go_wp2
     go_ret
     rw [HB2.out]
     exact⟨rfl,L8.bdN hW.out _⟩
   ·obtain rfl:k=n:=by omega
    have HB2:Hid (b=true):=Lib.hid (HB.out.2 (take_all HN.out HM.out hT.out))
    clear hT
    go_wp2
    go_ret
    rw [HB2.out]
    exact⟨rfl,hW.out⟩
 ·obtain rfl:=off_len hn hn' hne hb
  have h1:¬ (n:Int)=(n':Int):=by omega
  have h2:((n:Int)==(n':Int))=false:=by simpa using h1
  clear hn hn' hc hc' hb hv hv'
  go_enter Tryz.func14,Tryz.ntmps14
  go_wp2
  go_ret
  exact⟨rfl,Below.refl _ _⟩
end Go.Proofs.YtohkgdfkklfgmaaGreatDoor.L13
end
section
set_option maxRecDepth 100000
set_option maxHeartbeats 8000000
namespace Go.Proofs.YtohkgdfkklfgmaaGreatDoor.L13
open Go.RowKit Go.Shelf L12
open L10 (take_eq take_all get_ne)
attribute [local go_sem] Oper.semAt_some
structure ObS (o:Ob):Prop where
 m:o.maps.length≤100000
 c:o.code.length≤100000
 r:o.rels.length≤100000
abbrev obC (vm vc vr:Value):Obj:=.cells #[vm,vc,vr] 26
theorem cells3 {w:World} {k:Nat} {a b c:Value} {t:TypeId} (h:w.heap[k]?=some (.cells #[a,b,c] t)):w.cell? ⟨k,0,none⟩=some a∧w.cell? ⟨k,1,none⟩=some b∧w.cell? ⟨k,2,none⟩=some c:=by
 simp [World.cell?,h]
theorem two_ob (w:World) (o q:Obj):((w.alloc o).alloc q).heap[w.heap.size]?=some o∧((w.alloc o).alloc q).heap[w.heap.size+1]?=some q∧Below w.heap.size w ((w.alloc o).alloc q):=by
 refine⟨?_,?_,L2.bch (L8.bnew w _) (L8.bnew _ _)⟩
 ·show ((w.heap.push o).push q)[w.heap.size]?=_
  simp [Array.getElem?_push]
 ·show ((w.heap.push o).push q)[w.heap.size+1]?=_
  simp [Array.getElem_push]
theorem ob_iff {o q:Ob} {b1 b2 b3 b:Bool} (h1:b1=true↔o.maps=q.maps) (h2:b2=true↔o.code=q.code) (h3:b3=true↔o.rels=q.rels) (h:b=true↔o=q):b=((b1 && b2) && b3):=by
 obtain⟨x1,x2,x3⟩:=o
 obtain⟨y1,y2,y3⟩:=q
 simp only [Ob.mk.injEq] at h h1 h2 h3
 rw [Bool.eq_iff_iff,h,Bool.and_eq_true,Bool.and_eq_true,h1,h2,h3,and_assoc]
theorem rsame13_at (vm vc vr vm' vc' vr':Value) (o q:Ob) (b:Bool) (w:World) (ho:ObAt w vm vc vr o) (hq:ObAt w vm' vc' vr' q) (hs:ObS o) (hs':ObS q) (hb:b=true↔o=q) :
  Calls Tryz.prog 19 #[.agg #[vm,vc,vr],.agg #[vm',vc',vr']] w fun e w'=>e=.returned (.bool b)∧Below w.heap.size w w':=by
 obtain⟨b1,h1⟩:=L10.bx (o.maps=q.maps)
 obtain⟨b2,h2⟩:=L10.bx (o.code=q.code)
 obtain⟨b3,h3⟩:=L10.bx (o.rels=q.rels)
 obtain rfl:=ob_iff h1 h2 h3 hb
 obtain⟨n1,hn1⟩:∃ n,o.maps.length=n:=⟨_,rfl⟩
 obtain⟨n2,hn2⟩:∃ n,o.code.length=n:=⟨_,rfl⟩
 obtain⟨n3,hn3⟩:∃ n,o.rels.length=n:=⟨_,rfl⟩
 obtain⟨m1,hm1⟩:∃ n,q.maps.length=n:=⟨_,rfl⟩
 obtain⟨m2,hm2⟩:∃ n,q.code.length=n:=⟨_,rfl⟩
 obtain⟨m3,hm3⟩:∃ n,q.rels.length=n:=⟨_,rfl⟩
 obtain⟨a1,c1,rfl,hc1⟩:=L10.df_form4 hn1 ho.m
 obtain⟨a2,c2,rfl,-⟩:=bs_form hn2 ho.c
 obtain⟨a3,c3,rfl,hc3⟩:=ro_form hn3 ho.r
 obtain⟨d1,e1,rfl,hd1⟩:=L10.df_form4 hm1 hq.m
 obtain⟨d2,e2,rfl,-⟩:=bs_form hm2 hq.c
 obtain⟨d3,e3,rfl,hd3⟩:=ro_form hm3 hq.r
 have HY:=Lib.hid (fun (W:World) (hb:Below w.heap.size w W)=>rsameB_at _ _ _ _ b2 W hs.c hs'.c (ho.c.below hb) (hq.c.below hb) h2)
 obtain⟨K1,K2,hB⟩:=two_ob w (obC (.slice a1 n1 c1) (.slice a2 n2 c2) (.slice a3 n3 c3)) (obC (.slice d1 m1 e1) (.slice d2 m2 e2) (.slice d3 m3 e3))
 have HB:=Lib.hid hB
 have HK1:=Lib.hid K1
 have HK2:=Lib.hid K2
 have HC1:=Lib.hid hc1
 have HC3:=Lib.hid hc3
 have HD1:=Lib.hid hd1
 have HD3:=Lib.hid hd3
 have HN1:=Lib.hid (And.intro hn1 hm1)
 have HN3:=Lib.hid (And.intro hn3 hm3)
 have H1:=Lib.hid h1
 have H3:=Lib.hid h3
 have hl1:=hs.m
 have hl3:=hs.r
 rw [hn1] at hl1
 rw [hn3] at hl3
 have f1:¬ n1=m1→b1=false:=fun h=>off_len hn1 hm1 h h1
 have f3:¬ n3=m3→b3=false:=fun h=>off_len hn3 hm3 h h3
 have F1:=Lib.hid f1
 have F3:=Lib.hid f3
 clear ho hq hs hs' hb h1 h2 h3 hn1 hn2 hn3 hm1 hm2 hm3 hB K1 K2 hc1 hc3 hd1 hd3 f1 f3
 go_enter Tryz.func19,Tryz.ntmps19
 go_upto_region 1 with (fail)
 obtain⟨k,hk⟩:∃ k,w.heap.size=k:=⟨_,rfl⟩
 rw [hk] at HK1 HK2 ⊢
 generalize (w.alloc (.cells _ 26)).alloc (.cells _ 26)=W at HK1 HK2 HB ⊢
 obtain⟨x0,x1,x2⟩:=cells3 HK1.out
 obtain⟨y0,y1,y2⟩:=cells3 HK2.out
 have l1:=World.block_lt_of_cell? _ _ x0
 have l2:=World.block_lt_of_cell? _ _ y0
 simp only at l1 l2
 clear hk
 by_cases g1:n1=m1
 case neg =>
  have hf:=F1.out g1
  subst hf
  have g1':((n1:Int)==(m1:Int))=false:=by
   have:¬ (n1:Int)=(m1:Int):=by omega
   simpa using this
  have g1'':¬ (n1:Int)=(m1:Int):=by omega
  go_wp2
  go_ret
  exact⟨rfl,HB.out⟩
 subst g1
 cases b2
 case false =>
  go_wp2_with (go_at_call 14;((with_reducible refine (HY.out _ HB.out).mono ?_);rintro e w1 ⟨rfl,b1'⟩))
  go_ret
  exact⟨by simp,L2.bch HB.out b1'⟩
 by_cases g3:n3=m3
 case neg =>
  have hf:=F3.out g3
  subst hf
  have g3':((n3:Int)==(m3:Int))=false:=by
   have:¬ (n3:Int)=(m3:Int):=by omega
   simpa using this
  have g3'':¬ (n3:Int)=(m3:Int):=by omega
  go_wp2_with (go_at_call 14;((with_reducible refine (HY.out _ HB.out).mono ?_);rintro e w1 ⟨rfl,b1'⟩;have r1:=L8.row_up HK1.out b1';have r2:=L8.row_up HK2.out b1';clear x0 x1 x2 y0 y1 y2 l1 l2;obtain⟨x0,x1,x2⟩:=cells3 r1;obtain⟨y0,y1,y2⟩:=cells3 r2;have l1:=World.block_lt_of_cell? _ _ x0;have l2:=World.block_lt_of_cell? _ _ y0;simp only at l1 l2))
  go_ret
  exact⟨by simp,L2.bch HB.out b1'⟩
 subst g3
 go_upto_region 3 with (go_at_call 14;((with_reducible refine (HY.out _ HB.out).mono ?_);rintro e w1 ⟨rfl,b1'⟩;have r1:=L8.row_up HK1.out b1';have r2:=L8.row_up HK2.out b1';clear x0 x1 x2 y0 y1 y2 l1 l2;obtain⟨x0,x1,x2⟩:=cells3 r1;obtain⟨y0,y1,y2⟩:=cells3 r2;have l1:=World.block_lt_of_cell? _ _ x0;have l2:=World.block_lt_of_cell? _ _ y0;simp only at l1 l2))
 have HI:Hid (Below w.heap.size w w1∧w1.heap[k]?=some (obC (.slice a1 n1 c1) (.slice a2 n2 c2) (.slice a3 n3 c3))∧w1.heap[k+1]?=some (obC (.slice d1 n1 e1) (.slice d2 m2 e2) (.slice d3 n3 e3))):=Lib.hid ⟨L2.bch HB.out b1',r1,r2⟩
 clear r1 r2 b1' HK1 HK2 HB HY
 go_wp2
 go_loopw [5] (fun i wr=>∃ j:Nat,j≤n1∧i=.int .i64 (j:Int)∧Hid (Below w.heap.size w wr∧wr.heap[k]?=some (obC (.slice a1 n1 c1) (.slice a2 n2 c2) (.slice a3 n3 c3))∧wr.heap[k+1]?=some (obC (.slice d1 n1 e1) (.slice d2 m2 e2) (.slice d3 n3 e3)))∧Hid (o.maps.take j=q.maps.take j)) (fun i _=>n1-(intOf i).toNat)
 case atStart=>exact⟨0,Nat.zero_le _,rfl,HI,Lib.hid rfl⟩
 case round =>
  obtain⟨j,hj,rfl,hI,hT⟩:=hrel
  clear HI x0 x1 x2 y0 y1 y2 l1 l2
  obtain⟨x0,x1,x2⟩:=cells3 hI.out.2.1
  obtain⟨y0,y1,y2⟩:=cells3 hI.out.2.2
  have l1:=World.block_lt_of_cell? _ _ x0
  have l2:=World.block_lt_of_cell? _ _ y0
  simp only at l1 l2
  by_cases hlt:j<n1
  ·have hk1:j<o.maps.length:=by rw [HN1.out.1];exact hlt
   have hk2:j<q.maps.length:=by rw [HN1.out.2];exact hlt
   obtain⟨u1,v1,rfl,hu1,hx⟩:=HC1.out (by omega)
   obtain⟨u2,v2,rfl,hu2,hy⟩:=HD1.out (by omega)
   obtain⟨z0,z1,z2,z3⟩:=hx j hk1
   obtain⟨t0,t1,t2,t3⟩:=hy j hk2
   have z0:=cell_up hI.out.1 z0
   have z1:=cell_up hI.out.1 z1
   have z2:=cell_up hI.out.1 z2
   have z3:=cell_up hI.out.1 z3
   have t0:=cell_up hI.out.1 t0
   have t1:=cell_up hI.out.1 t1
   have t2:=cell_up hI.out.1 t2
   have t3:=cell_up hI.out.1 t3
   have l3:=World.block_lt_of_cell? _ _ z0
   have l4:=World.block_lt_of_cell? _ _ t0
   simp only at l3 l4
   have hjI:(j:Int)<(n1:Int):=by omega
   clear hx hy
   by_cases he:o.maps[j]=q.maps[j]
   ·have HT:=Lib.hid (take_eq hk1 hk2 hT.out he)
    rw [← he] at t0 t1 t2 t3
    generalize o.maps[j]=d at z0 z1 z2 z3 t0 t1 t2 t3
    have hq:=L10.nq_df d d true (by simp)
    simp only [Bool.not_true] at hq
    clear he hT
    go_wp2
    go_quiet (fail)
    go_wp2
    go_roundw
    case rel=>exact⟨j+1,by omega,by go_num,Lib.hid ⟨L8.bdN hI.out.1 _,hI.out.2.1,hI.out.2.2⟩,HT⟩
    case measure=>simp [intOf];omega
   ·have HF:=Lib.hid (at_ne hk1 hk2 he H1.out)
    generalize o.maps[j]=d at z0 z1 z2 z3 he
    generalize q.maps[j]=d' at t0 t1 t2 t3 he
    have hq:=L10.nq_df d d' false (by simp [he])
    simp only [Bool.not_false] at hq
    clear he hT
    go_wp2
    go_quiet (fail)
    go_wp2
    go_ret
    rw [HF.out]
    exact⟨rfl,L8.bdN hI.out.1 _⟩
  ·obtain rfl:j=n1:=by omega
   have HF1:Hid (b1=true):=Lib.hid (H1.out.2 (take_all HN1.out.1 HN1.out.2 hT.out))
   have HI:Hid (Below w.heap.size w wr∧wr.heap[k]?=some (obC (.slice a1 j c1) (.slice a2 n2 c2) (.slice a3 n3 c3))∧wr.heap[k+1]?=some (obC (.slice d1 j e1) (.slice d2 m2 e2) (.slice d3 n3 e3))):=Lib.hid hI.out
   clear hT hI
   go_wp2
   go_loopw [6] (fun i wr=>∃ i3:Nat,i3≤n3∧i=.int .i64 (i3:Int)∧Hid (Below w.heap.size w wr∧wr.heap[k]?=some (obC (.slice a1 j c1) (.slice a2 n2 c2) (.slice a3 n3 c3))∧wr.heap[k+1]?=some (obC (.slice d1 j e1) (.slice d2 m2 e2) (.slice d3 n3 e3)))∧Hid (o.rels.take i3=q.rels.take i3)) (fun i _=>n3-(intOf i).toNat)
   case atStart=>exact⟨0,Nat.zero_le _,rfl,HI,Lib.hid rfl⟩
   case round =>
    obtain⟨i3,hi3,rfl,hI,hT⟩:=hrel
    clear HI x0 x1 x2 y0 y1 y2 l1 l2
    obtain⟨x0,x1,x2⟩:=cells3 hI.out.2.1
    obtain⟨y0,y1,y2⟩:=cells3 hI.out.2.2
    have l1:=World.block_lt_of_cell? _ _ x0
    have l2:=World.block_lt_of_cell? _ _ y0
    simp only at l1 l2
    by_cases hlt3:i3<n3
    ·have hk1:i3<o.rels.length:=by rw [HN3.out.1];exact hlt3
     have hk2:i3<q.rels.length:=by rw [HN3.out.2];exact hlt3
     obtain⟨u1,v1,rfl,hu1,hx⟩:=HC3.out (by omega)
     obtain⟨u2,v2,rfl,hu2,hy⟩:=HD3.out (by omega)
     obtain⟨z0,z1⟩:=hx i3 hk1
     obtain⟨t0,t1⟩:=hy i3 hk2
     have z0:=cell_up hI.out.1 z0
     have z1:=cell_up hI.out.1 z1
     have t0:=cell_up hI.out.1 t0
     have t1:=cell_up hI.out.1 t1
     have l3:=World.block_lt_of_cell? _ _ z0
     have l4:=World.block_lt_of_cell? _ _ t0
     simp only at l3 l4
     have hjI:(i3:Int)<(n3:Int):=by omega
     clear hx hy
     by_cases he:o.rels[i3]=q.rels[i3]
     ·have HT:=Lib.hid (take_eq hk1 hk2 hT.out he)
      rw [← he] at t0 t1
      generalize o.rels[i3]=d at z0 z1 t0 t1
      have hq:=nq_ro d d true (by simp)
      simp only [Bool.not_true] at hq
      clear he hT
      go_wp2
      go_quiet (fail)
      go_wp2
      go_roundw
      case rel=>exact⟨i3+1,by omega,by go_num,Lib.hid ⟨L8.bdN hI.out.1 _,hI.out.2.1,hI.out.2.2⟩,HT⟩
      case measure=>simp [intOf];omega
     ·have HF:=Lib.hid (at_ne hk1 hk2 he H3.out)
      generalize o.rels[i3]=d at z0 z1 he
      generalize q.rels[i3]=d' at t0 t1 he
      have hq:=nq_ro d d' false (by simp [he])
      simp only [Bool.not_false] at hq
      clear he hT
      go_wp2
      go_quiet (fail)
      go_wp2
      go_ret
      rw [HF.out]
      exact⟨by simp,L8.bdN hI.out.1 _⟩
    ·obtain rfl:i3=n3:=by omega
     have HF3:Hid (b3=true):=Lib.hid (H3.out.2 (take_all HN3.out.1 HN3.out.2 hT.out))
     clear hT
     go_wp2
     go_ret
     rw [HF1.out,HF3.out]
     exact⟨rfl,hI.out.1⟩
end Go.Proofs.YtohkgdfkklfgmaaGreatDoor.L13
end
section
set_option maxRecDepth 100000
set_option maxHeartbeats 8000000
namespace Go.Proofs.YtohkgdfkklfgmaaGreatDoor.L13
open Go.RowKit Go.Shelf L3 L4 L12
open L10 (Stm Pg jmI fmI lbK)
attribute [local go_sem] Oper.semAt_some
def obV (p:Pg):Ob:=⟨p.maps,cdB p,(rfT p p.stmts.length).map fun r=>((r.1:Int),r.2)⟩
theorem enc_le (x:L5.Ix):x.bytes.length≤16:=by
 unfold L5.Ix.bytes
 rw [L5.encL_length]
 split <;> omega
theorem joinB_le:∀ l:List L5.Ix,(L5.joinB l).length≤16*l.length
 | []=>by simp [L5.joinB]
 | x::r=>by
  have h1:=joinB_le r
  have h2:=enc_le x
  simp only [L5.joinB,List.flatMap_cons,List.length_append,List.length_cons] at h1 ⊢
  omega
theorem cdB_le (p:Pg) (n:Nat) (hn:p.stmts.length=n):(cdB p).length≤16*n:=by
 have:=joinB_le ((rsL p).map tI)
 rw [List.length_map,rsL_len,hn] at this
 exact this
theorem obV_s {p:Pg} (hf:L10.Fits p) (h:p.stmts.length≤6000):ObS (obV p) :=
 ⟨hf.maps,by have:=cdB_le p _ rfl;show (cdB p).length≤100000;omega,by show ((rfT p p.stmts.length).map _).length≤100000;rw [List.length_map];have:=rfT_len p p.stmts.length;omega⟩
theorem is_in {w:World} {v:Value} {l:List L9.Ins} (h:IsAt w v l):L5.InAt w v (l.map tI):=by
 rcases h with ⟨b,o,cap,rfl,_,hc⟩|⟨rfl,a,cap,rfl⟩
 ·refine⟨_,cap,by rw [List.length_map],.inr ⟨b,o,rfl,fun i hi m u hu=>?_⟩⟩
  rw [List.length_map] at hi
  rw [List.getElem_map] at hu
  exact hc i hi m u (by simpa [tI,L5.Ix.cs] using hu)
 ·exact⟨a,cap,rfl,.inl rfl⟩
theorem own_df {W:World} {B e:TypeId} {v:Value} {l:List L9.Df} {n:Nat} (hn:l.length=n) (h:W.ownsRow B e 4 v n (l.flatMap L10.dfL)):L10.DfAt W v l:=by
 subst hn
 rcases h.2 with ⟨rfl,h0⟩|⟨g,cap,cur,rfl,_,hh,_⟩
 ·exact .inr ⟨List.eq_nil_of_length_eq_zero h0,none,0,rfl⟩
 ·refine .inl ⟨g,0,cap,rfl,lt_of_block hh,fun j hj i u hu=>?_⟩
  have:=h.cells (g:=g) rfl (j*4+i) u (L10.flat_get L10.dfL 4 (fun _=>rfl) l j hj i u hu)
  rw [Nat.zero_add]
  rwa [L8.add0] at this
theorem join_own (v:Value) (xs:List L5.Ix) (w:World) (hw:L1.Wid w) (hm:xs.length≤100000) (hv:L5.InAt w v xs) (hf:∀ x∈xs,x.fits) (h0:∀ x∈xs,x.err=0) :
  Calls Tryz.prog 49 #[v] w fun e w'=>∃ u,e=.returned (.tuple #[u,.int .i64 0,.int .i64 0])∧w'.ownsRow w.heap.size 5 1 u (L5.joinB xs).length (L5.byL (L5.joinB xs))∧Below w.heap.size w w':=by
 refine (L5.join_at v xs w hw hm hv hf).mono fun e w' h=>?_
 obtain⟨h,hb⟩:=h
 rcases h with ⟨p,x,q,rfl,-,h,-⟩|⟨-,v',rfl,ho⟩
 ·exact absurd (h0 x (by simp)) h
 ·exact⟨v',rfl,ho,hb⟩
theorem gr_setRow (w:World) (g:Nat) (cs:Array Value):w.grownBy (w.setRow g cs) (some g):=by
 have h:=below_setRow (Below.refl 0 w) (Nat.zero_le g) cs
 exact⟨h.os,h.tape,h.output,h.size,fun k _ hk=>setRow_other _ _ _ _ (fun e=>hk (by rw [e]))⟩
theorem own_set {W:World} {B e:TypeId} {sz n kr:Nat} {v:Value} {xs:List Value} {cs cs':Array Value} {t:TypeId} (h:W.ownsRow B e sz v n xs) (hr:W.heap[kr]?=some (.cells cs t)) (ht:t≠e):(W.setRow kr cs').ownsRow B e sz v n xs :=
 L10.own_kept h (gr_setRow W kr cs') (fun g hg=>by
  obtain⟨cur,hc⟩:=L10.own_ty h hg
  exact L10.ty_ne hr hc ht)
structure ObOwn (B:Nat) (W:World) (vm vc vr:Value) (p:Pg):Prop where
 m:W.ownsRow B 62 4 vm p.maps.length (p.maps.flatMap L10.dfL)
 c:W.ownsRow B 5 1 vc (cdB p).length (L5.byL (cdB p))
 r:W.ownsRow B 59 2 vr (rfT p p.stmts.length).length (rlC (rfT p p.stmts.length))
theorem ObOwn.at {B:Nat} {W:World} {vm vc vr:Value} {p:Pg} (h:ObOwn B W vm vc vr p):ObAt W vm vc vr (obV p):=⟨own_df rfl h.m,L5.BsAt.v (L5.own_bytes h.c),rl_ro (own_rl h.r)⟩
theorem ObOwn.below {B:Nat} {W W':World} {vm vc vr:Value} {p:Pg} (h:ObOwn B W vm vc vr p) (hb:Below W.heap.size W W'):ObOwn B W' vm vc vr p:=⟨L8.own_below h.m hb,L8.own_below h.c hb,L8.own_below h.r hb⟩
theorem ObOwn.weak {B B':Nat} {W:World} {vm vc vr:Value} {p:Pg} (h:ObOwn B W vm vc vr p) (hb:B'≤B):ObOwn B' W vm vc vr p:=⟨own_weak h.m hb,own_weak h.c hb,own_weak h.r hb⟩
theorem ObOwn.set {B:Nat} {W:World} {vm vc vr:Value} {p:Pg} {kr:Nat} {cs cs':Array Value} (h:ObOwn B W vm vc vr p) (hr:W.heap[kr]?=some (.cells cs 26)):ObOwn B (W.setRow kr cs') vm vc vr p:=⟨own_set h.m hr (by decide),own_set h.c hr (by decide),own_set h.r hr (by decide)⟩
theorem ObOwn.form {B:Nat} {W:World} {vm vc vr:Value} {p:Pg} (h:ObOwn B W vm vc vr p):∃ a1 c1 a2 c2 a3 c3,vm=.slice a1 p.maps.length c1∧vc=.slice a2 (cdB p).length c2∧vr=.slice a3 (rfT p p.stmts.length).length c3:=by
 obtain⟨a1,c1,rfl⟩:=owns_slice h.m
 obtain⟨a2,c2,rfl⟩:=owns_slice h.c
 obtain⟨a3,c3,rfl⟩:=owns_slice h.r
 exact⟨_,_,_,_,_,_,rfl,rfl,rfl⟩
def AsP (w:World) (p:Pg) (k:Nat) (er:Int) (e:Ending) (w':World):Prop :=
 ((er≠0∧e=.returned (.tuple #[.agg #[.slice none 0 0,.slice none 0 0,.slice none 0 0],.int .i64 (k:Int),.int .i64 er])) ∨
  (er=0∧∃ vm vc vr,e=.returned (.tuple #[.agg #[vm,vc,vr],.int .i64 0,.int .i64 0])∧ObOwn w.heap.size w' vm vc vr p))∧Below w.heap.size w w'
def SA (w:World) (kp kr:Nat) (vm vs:Value) (X:World):Prop :=
 Below w.heap.size w X∧X.heap[kp]?=some (.cells #[vm,vs] 50)∧∃ cs:Array Value,cs.size=3∧X.heap[kr]?=some (.cells cs 26)
theorem SA.below {w X Y:World} {kp kr:Nat} {vm vs:Value} (h:SA w kp kr vm vs X) (hb:Below X.heap.size X Y):SA w kp kr vm vs Y:=by
 obtain⟨h1,h2,cs,h3,h4⟩:=h
 exact⟨L2.bch h1 hb,L8.row_up h2 hb,cs,h3,L8.row_up h4 hb⟩
theorem SA.set {w X:World} {kp kr:Nat} {vm vs:Value} (h:SA w kp kr vm vs X) (hlo:w.heap.size≤kr) (hne:kp≠kr) (cs:Array Value) (hcs:cs.size=3):SA w kp kr vm vs (X.setRow kr cs)∧(X.setRow kr cs).heap[kr]?=some (.cells cs 26):=by
 obtain⟨h1,h2,cs0,h3,h4⟩:=h
 have hs:=setRow_heap _ _ _ cs _ _ h4
 exact⟨⟨below_setRow h1 hlo _,(by rw [← h2];exact setRow_other _ _ _ _ hne),cs,hcs,hs⟩,hs⟩
theorem two_as (w:World) (vm vs:Value):(((w.alloc (.cells #[vm,vs] 50)).alloc (obC (.slice none 0 0) (.slice none 0 0) (.slice none 0 0)))).heap[w.heap.size]?=some (.cells #[vm,vs] 50)∧(((w.alloc (.cells #[vm,vs] 50)).alloc (obC (.slice none 0 0) (.slice none 0 0) (.slice none 0 0)))).heap[w.heap.size+1]?=some (obC (.slice none 0 0) (.slice none 0 0) (.slice none 0 0))∧Below w.heap.size w ((w.alloc (.cells #[vm,vs] 50)).alloc (obC (.slice none 0 0) (.slice none 0 0) (.slice none 0 0))):=two_ob w _ _
theorem assemble_at (vm vs:Value) (p:Pg) (n:Nat) (w:World) (hp:L10.PgAt w vm vs p) (hf:L10.Fits p) (hn:p.stmts.length=n) (hm:n≤6000) (hT:L1.Wid w∧L2.Regs w) (b:Bool) (k:Nat) (er:Int) (hr:L10.brV p=(b,k,er)) :
  Calls Tryz.prog 23 #[.agg #[vm,vs]] w fun e w'=>AsP w p k er e w':=by
 have HSml:L10.Sml p:=⟨hf.maps,hf.stmts,fun s hs=>by
  obtain⟨i,hi,rfl⟩:=List.mem_iff_getElem.1 hs
  exact hf.lab_le i hi⟩
 have HRs:=Lib.hid (fun (X:World) (hX:Below w.heap.size w X)=>resolve_at vm vs p n X (hp.below hX) hf hn (by omega) ⟨L4.wid_below hT.1 hX,hT.2.below hX⟩ b k er hr)
 have HJ:=Lib.hid (fun (he:er=0) (X:World) (hX:Below w.heap.size w X) (v:Value) (hv:IsAt X v (rsL p))=>show Calls Tryz.prog 49 #[v] X (fun e w'=>∃ u,e=.returned (.tuple #[u,.int .i64 0,.int .i64 0])∧w'.ownsRow X.heap.size 5 1 u (cdB p).length (L5.byL (cdB p))∧Below X.heap.size X w') from join_own v ((rsL p).map tI) X (L4.wid_below hT.1 hX) (by rw [List.length_map,rsL_len,hn];omega) (is_in hv) (rsL_fits (brV_ok hr he) (by omega)) (rsL_err (brV_ok hr he) (by omega)))
 obtain⟨n1,hn1⟩:∃ n,p.maps.length=n:=⟨_,rfl⟩
 have hfl:=hp.1.flat
 have hcl:=L10.flat_len L10.dfL 4 (fun _=>rfl) p.maps
 rw [hn1] at hfl hcl
 have hm1:=hf.maps
 rw [hn1] at hm1
 have HCl:=Lib.hid (fun (X:World) (hX:Below w.heap.size w X)=>L10.cloneD_at vm n1 (p.maps.flatMap L10.dfL) X hm1 hcl (L10.one_df p.maps) (hfl.below hX))
 have HRf:=Lib.hid (fun (X:World) (hX:Below w.heap.size w X)=>refs_at vm vs p X (hp.below hX) HSml)
 unfold RfP at HRf
 obtain⟨cl,hcL⟩:∃ c,(cdB p).length=c:=⟨_,rfl⟩
 rw [hcL] at HJ
 obtain⟨rl,hrL⟩:∃ c,(rfT p p.stmts.length).length=c:=⟨_,rfl⟩
 rw [hrL] at HRf
 obtain⟨a1,c1,rfl,-⟩:=L10.df_form hn1 hp.1
 obtain⟨a2,c2,rfl,-⟩:=L10.sm_form hn hp.2
 have HN1:=Lib.hid (And.intro hn1 hn)
 have HL:=Lib.hid (And.intro hcL hrL)
 obtain⟨K1,K2,hB⟩:=two_as w (.slice a1 n1 c1) (.slice a2 n c2)
 have HB:=Lib.hid hB
 have HK1:=Lib.hid K1
 have HK2:=Lib.hid K2
 clear hp hf hn hm hT hr hn1 hfl hcl hm1 HSml hcL hrL K1 K2 hB
 go_enter Tryz.func23,Tryz.ntmps23
 go_upto_region 1 with (fail)
 obtain⟨kp,hkp⟩:∃ k,w.heap.size=k:=⟨_,rfl⟩
 rw [hkp] at HK1 HK2 ⊢
 generalize (w.alloc (.cells _ 50)).alloc (.cells _ 26)=W at HK1 HK2 HB ⊢
 have HKP:=Lib.hid (show w.heap.size≤kp+1 by omega)
 clear hkp
 obtain⟨x0,x1⟩:=L10.cells2p HK1.out
 have l1:=World.block_lt_of_cell? _ _ x0
 simp only at l1
 by_cases h0:er=0
 case neg =>
  have h0':(er != 0)=true:=by simpa using h0
  have HRn:=Lib.hid ((HRs.out W HB.out).mono (fun e w' h=>show (e=.returned (.tuple #[.slice none 0 0,.int .i64 (k:Int),.int .i64 er]))∧Below W.heap.size W w' from ⟨by rcases h.1 with ⟨_,h⟩|⟨h,_⟩;exact h;exact absurd h h0,h.2⟩))
  clear HRs HJ HCl HRf
  go_upto_region 3 with (go_at_call 48;((with_reducible refine (HRn.out).mono ?_);rintro e w1 ⟨rfl,b1⟩))
  have q2:=L8.row_up HK2.out b1
  have B1:=L2.bch HB.out b1
  go_wp2_with (refine wpList_store_row rfl _ _ _ rfl (kp+1) #[.slice none 0 0,.slice none 0 0,.slice none 0 0] rfl rfl 26 _ q2 (by kernel_rfl) rfl (by simp [Value.oneCell']) ?_)
  obtain⟨z0,z1,z2⟩:=cells3 (setRow_heap _ _ _ #[.slice none 0 0,.slice none 0 0,.slice none 0 0] _ _ q2)
  exact bodyPost_ret (v:=.tuple #[.agg #[.slice none 0 0,.slice none 0 0,.slice none 0 0],.int .i64 (k:Int),.int .i64 er]) (by simp [results,Tryz.results23,go_sem,z0,z1,z2]) rfl ⟨.inl ⟨h0,rfl⟩,below_setRow B1 HKP.out _⟩
 subst h0
 have HJ1:=Lib.hid (HJ.out rfl)
 clear HJ
 have HRy:=Lib.hid ((HRs.out W HB.out).mono (fun e w' h=>show (∃ a c,e=.returned (.tuple #[.slice a n c,.int .i64 0,.int .i64 0])∧IsAt w' (.slice a n c) (rsL p))∧Below W.heap.size W w' from ⟨by rcases h.1 with ⟨h,_⟩|⟨_,h⟩;exact absurd rfl h;exact h,h.2⟩))
 clear HRs
 go_upto_region 4 with (go_at_call 48;((with_reducible refine (HRy.out).mono ?_);rintro e w1 ⟨⟨la,lc,rfl,hv1⟩,b1⟩))
 have B1:=L2.bch HB.out b1
 go_upto_region 5 with (go_at_call 49;((with_reducible refine (HJ1.out _ B1 _ hv1).mono ?_);rintro e w2 ⟨u2,rfl,hc2,b2⟩;obtain⟨ca,cc,rfl⟩:=owns_slice hc2))
 have B2:=L2.bch B1 b2
 have r1:=L8.row_up (L8.row_up HK1.out b1) b2
 have r2:=L8.row_up (L8.row_up HK2.out b1) b2
 have HSA:=Lib.hid (show SA w kp (kp+1) (.slice a1 n1 c1) (.slice a2 n c2) w2 from ⟨B2,r1,_,rfl,r2⟩)
 have HC2:=Lib.hid (own_weak hc2 B1.size)
 clear x0 x1 l1 b1 b2 B1 B2 r1 r2 hv1 hc2 HRy HJ1 HB HK1 HK2
 refine wp_region_held_drew (S:=SA w kp (kp+1) (.slice a1 n1 c1) (.slice a2 n c2)) (by kernel_rfl) (HSA.out.below (L8.bdN (Below.refl _ _) 1)) (fun hH=>?_)
 refine wpAnyH_take (i:=0) (oi:=⟨some 28,.fieldAddr 50 (.tmp 1) 0,_,_,_,none⟩) (v:=.pointer (some ⟨kp,0,none⟩)) rfl (by kernel_rfl) (by kernel_rfl) (by kernel_rfl) (fun _ _ _ h=>h) (Or.inl ⟨by rfl,fun wS hS=>(by go_simp)⟩) hH ?_
 simp only [Act.put,zA,zB,zC]
 refine wpAnyH_take (i:=1) (oi:=⟨some 29,.load 22 (.tmp 28),_,_,_,none⟩) (v:=.slice a1 n1 c1) rfl (by kernel_rfl) (by kernel_rfl) (by kernel_rfl) (fun _ _ _ h=>h) (Or.inl ⟨by rfl,fun wS hS=>(by obtain⟨d0,d1⟩:=L10.cells2p hS.2.1;go_simp)⟩) hH ?_
 simp only [Act.put,zA,zB,zC]
 refine wpAnyH_take (i:=3) (oi:=⟨some 31,.move (.tmp 8),_,_,_,none⟩) (v:=.slice ca cl cc) rfl (by kernel_rfl) (by kernel_rfl) (by kernel_rfl) (fun _ _ _ h=>h) (Or.inl ⟨by rfl,fun wS hS=>(by rfl)⟩) hH ?_
 simp only [Act.put,zA,zB,zC]
 refine wpAnyH_take (i:=4) (oi:=⟨some 32,.load 50 (.tmp 1),_,_,_,none⟩) (v:=.agg #[.slice a1 n1 c1,.slice a2 n c2]) rfl (by kernel_rfl) (by kernel_rfl) (by kernel_rfl) (fun _ _ _ h=>h) (Or.inl ⟨by rfl,fun wS hS=>(by obtain⟨d0,d1⟩:=L10.cells2p hS.2.1;go_simp)⟩) hH ?_
 simp only [Act.put,zA,zB,zC]
 refine wpAnyH_ready (rs:=[2]) (by kernel_rfl) (by simp) ?_
 refine AllReadyH.cons (o:=⟨some 30,.call ⟨.value (.func 50),#[.tmp 29],#[22]⟩,_,_,_,none⟩) rfl (fun K hK=>?_) AllReadyH.nil
 go_simp
 refine (HCl.out _ hH.1).mono ?_
 rintro e w3 ⟨v3,rfl,o3,b3⟩
 obtain⟨ma,mc,rfl⟩:=owns_slice o3
 refine hK.out _ _ (hH.below b3) (fun hH3=>?_)
 have HM3:=Lib.hid (own_weak o3 hH.1.size)
 have HC3:=Lib.hid (L8.own_below HC2.out (L2.bch (L8.bdN (Below.refl _ _) 1) b3))
 clear hK K hH o3 b3 HC2 HCl
 (try simp only [Act.put,zA,zB,zC])
 refine wpAnyH_ready (rs:=[5]) (by kernel_rfl) (by simp) ?_
 refine AllReadyH.cons (o:=⟨some 33,.call ⟨.value (.func 51),#[.tmp 32],#[50]⟩,_,_,_,none⟩) rfl (fun K hK=>?_) AllReadyH.nil
 go_simp
 refine (HRf.out _ hH3.1).mono ?_
 rintro e w4 ⟨u4,rfl,hr4,b4⟩
 obtain⟨ra,rc,rfl⟩:=owns_slice hr4
 refine hK.out _ _ (hH3.below b4) (fun hH4=>?_)
 have HM4:=Lib.hid (L8.own_below HM3.out b4)
 have HC4:=Lib.hid (L8.own_below HC3.out b4)
 have HR4:=Lib.hid (own_weak hr4 hH3.1.size)
 clear hK K hH3 hr4 b4 HM3 HC3 HRf
 (try simp only [Act.put,zA,zB,zC])
 refine wpAnyH_take (i:=6) (oi:=⟨some 34,.build 26 #[(0,.tmp 30),(1,.tmp 31),(2,.tmp 33)],_,_,_,none⟩) (v:=.agg #[.slice ma n1 mc,.slice ca cl cc,.slice ra rl rc]) rfl (by kernel_rfl) (by kernel_rfl) (by kernel_rfl) (fun _ _ _ h=>h) (Or.inl ⟨by rfl,fun wS hS=>(by go_simp)⟩) hH4 ?_
 simp only [Act.put,zA,zB,zC]
 refine wpAnyH_ready (rs:=[7]) (by kernel_rfl) (by simp) ?_
 refine AllReadyH.cons (o:=⟨none,.store 26 (.tmp 2) (.tmp 34),_,_,_,none⟩) rfl (fun K hK=>?_) AllReadyH.nil
 rw [if_pos (by kernel_rfl)]
 obtain⟨cs0,hcs0,hrow⟩:=hH4.2.2
 refine wp_store_row 26 (.tmp 2) (.tmp 34) rfl (kp+1) #[.slice ma n1 mc,.slice ca cl cc,.slice ra rl rc] rfl rfl 26 cs0 hrow (by kernel_rfl) hcs0 (by simp [Value.oneCell']) ?_
 have hset:=hH4.set HKP.out (by omega) #[.slice ma n1 mc,.slice ca cl cc,.slice ra rl rc] rfl
 refine hK.out _ _ hset.1 (fun hH5=>?_)
 have hob:ObOwn w.heap.size (w4.setRow (kp+1) #[.slice ma n1 mc,.slice ca cl cc,.slice ra rl rc]) (.slice ma n1 mc) (.slice ca cl cc) (.slice ra rl rc) p:=by
  refine⟨?_,?_,?_⟩
  ·rw [HN1.out.1];exact own_set HM4.out hrow (by decide)
  ·rw [HL.out.1];exact own_set HC4.out hrow (by decide)
  ·rw [HL.out.2];exact own_set HR4.out hrow (by decide)
 have HOB:=Lib.hid hob
 have HSE:=Lib.hid hset.2
 clear hK K hrow hset hob
 (try simp only [Act.put])
 refine wpAnyH_take (i:=8) (oi:=⟨some 3,.assign (.const (.int .i64 0)),_,_,_,none⟩) (v:=.int .i64 0) rfl (by kernel_rfl) (by kernel_rfl) (by kernel_rfl) (fun _ _ _ h=>h) (Or.inl ⟨by rfl,fun wS hS=>(by rfl)⟩) hH5 ?_
 simp only [Act.put,zA,zB,zC]
 refine wpAnyH_take (i:=9) (oi:=⟨some 4,.assign (.const (.int .i64 0)),_,_,_,none⟩) (v:=.int .i64 0) rfl (by kernel_rfl) (by kernel_rfl) (by kernel_rfl) (fun _ _ _ h=>h) (Or.inl ⟨by rfl,fun wS hS=>(by rfl)⟩) hH5 ?_
 simp only [Act.put,zA,zB,zC]
 refine wpAnyH_done (by kernel_rfl) ?_ _
 go_wp2
 obtain⟨z0,z1,z2⟩:=cells3 HSE.out
 exact bodyPost_ret (v:=.tuple #[.agg #[.slice ma n1 mc,.slice ca cl cc,.slice ra rl rc],.int .i64 0,.int .i64 0]) (by simp [results,Tryz.results23,go_sem,z0,z1,z2]) rfl ⟨.inr ⟨rfl,_,_,_,rfl,HOB.out⟩,hH5.1⟩
end Go.Proofs.YtohkgdfkklfgmaaGreatDoor.L13
end
