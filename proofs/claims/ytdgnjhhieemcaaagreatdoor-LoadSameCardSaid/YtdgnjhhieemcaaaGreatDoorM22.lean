/- Lemmas and walks of L12Lp, L13Sa, L13Sb, L5Alive: what each theorem states; conditions stand in each theorem. -/
import Derived.Test.YtdgnjhhieemcaaaGreatDoorM21
import Derived.Test.YtdgnjhhieemcaaaGreatDoorL5All
set_option maxHeartbeats 8000000
set_option maxRecDepth 100000
section
namespace Go.Proofs.YtdgnjhhieemcaaaGreatDoor.L12
open Go.RowKit Go.Shelf L3 L4
attribute [local go_sem] Oper.semAt_some
def RlAt (w:World) (v:Value) (l:List (Nat × Int)):Prop :=
 (∃ b o cap,v=.slice (some ⟨b,o,none⟩) l.length cap∧b<w.heap.size∧∀ j,(h:j<l.length)→w.cell? ⟨b,o+j*2,none⟩=some (.int .i64 (l[j].1:Int))∧w.cell? ⟨b,o+j*2+1,none⟩=some (.int .i64 l[j].2))∨(l=[]∧∃ a cap,v=.slice a 0 cap)
theorem rlC_get:∀ (l:List (Nat × Int)) (j:Nat) (h:j<l.length),(rlC l)[j*2]?=some (.int .i64 (l[j].1:Int))∧(rlC l)[j*2+1]?=some (.int .i64 l[j].2)
 | x::r,0,_=>by simp [rlC,rlL]
 | x::r,j+1,h=>by
  have:=rlC_get r j (by simpa using h)
  simp only [rlC,List.flatMap_cons] at this ⊢
  rw [List.getElem?_append_right (by simp [rlL];omega),List.getElem?_append_right (by simp [rlL];omega)]
  rw [show (j+1)*2-(rlL x).length=j*2 by simp [rlL];omega,show (j+1)*2+1-(rlL x).length=j*2+1 by simp [rlL];omega]
  exact this
theorem own_rl {W:World} {B e:TypeId} {v:Value} {xs:List (Nat × Int)} (h:W.ownsRow B e 2 v xs.length (rlC xs)):RlAt W v xs:=by
 rcases h.2 with ⟨rfl,h0⟩|⟨g,cap,cur,rfl,_,hh,_⟩
 ·exact .inr ⟨List.eq_nil_of_length_eq_zero h0,none,0,rfl⟩
 ·refine .inl ⟨g,0,cap,rfl,lt_of_block hh,fun j hj=>?_⟩
  have k1:=h.cells (g:=g) rfl (j*2) _ (rlC_get xs j hj).1
  have k2:=h.cells (g:=g) rfl (j*2+1) _ (rlC_get xs j hj).2
  rw [L8.add0] at k1 k2
  rw [Nat.zero_add]
  exact⟨k1,k2⟩
end Go.Proofs.YtdgnjhhieemcaaaGreatDoor.L12
end
section
namespace Go.Proofs.YtdgnjhhieemcaaaGreatDoor.L13
open Go.RowKit Go.Shelf L12
open L10 (take_eq take_all get_ne)
attribute [local go_sem] Oper.semAt_some
structure Ob where
 maps:List L9.Df
 code:List UInt8
 rels:List (Int × Int)
abbrev roL (r:Int × Int):List Value:=[.int .i64 r.1,.int .i64 r.2]
def RoAt (w:World) (v:Value) (l:List (Int × Int)):Prop :=
 (∃ b o cap,v=.slice (some ⟨b,o,none⟩) l.length cap∧b<w.heap.size∧∀ j,(h:j<l.length)→w.cell? ⟨b,o+j*2,none⟩=some (.int .i64 l[j].1)∧w.cell? ⟨b,o+j*2+1,none⟩=some (.int .i64 l[j].2))∨(l=[]∧∃ a cap,v=.slice a 0 cap)
theorem RoAt.below {w w':World} {v:Value} {l:List (Int × Int)} (h:RoAt w v l) (hb:Below w.heap.size w w'):RoAt w' v l:=by
 rcases h with ⟨b,o,cap,rfl,hlt,hc⟩|h
 ·exact .inl ⟨b,o,cap,rfl,Nat.lt_of_lt_of_le hlt hb.size,fun j hj=>⟨cell_up hb (hc j hj).1,cell_up hb (hc j hj).2⟩⟩
 ·exact .inr h
theorem ro_form {w:World} {v:Value} {l:List (Int × Int)} {n:Nat} (hn:l.length=n) (h:RoAt w v l):∃ a c,v=.slice a n c∧(0<n→∃ b o,a=some ⟨b,o,none⟩∧b<w.heap.size∧∀ j,(h:j<l.length)→w.cell? ⟨b,o+j*2,none⟩=some (.int .i64 l[j].1)∧w.cell? ⟨b,o+j*2+1,none⟩=some (.int .i64 l[j].2)):=by
 subst hn
 rcases h with ⟨b,o,cap,rfl,hb,hc⟩|⟨rfl,a,cap,rfl⟩
 ·exact⟨_,_,rfl,fun _=>⟨b,o,rfl,hb,hc⟩⟩
 ·exact⟨a,cap,rfl,fun h=>absurd h (by simp)⟩
theorem bs_form {w:World} {v:Value} {l:List UInt8} {n:Nat} (hn:l.length=n) (h:L5.BsV w v l):∃ a c,v=.slice a n c∧(0<n→∃ b o,a=some ⟨b,o,none⟩∧b<w.heap.size∧∀ j,(h:j<l.length)→w.cell? ⟨b,o+j,none⟩=some (.int .u8 (l[j].toNat:Int))):=by
 subst hn
 obtain⟨a,c,rfl,hc⟩:=h
 refine⟨a,c,rfl,fun h0=>?_⟩
 obtain⟨k,o,rfl,hB⟩:=hc.resolve_left (fun e=>by rw [e] at h0;exact absurd h0 (by simp))
 have h1:=hB 0 h0
 exact⟨k,o,rfl,World.block_lt_of_cell? _ _ h1,hB⟩
structure ObAt (w:World) (vm vc vr:Value) (o:Ob):Prop where
 m:L10.DfAt w vm o.maps
 c:L5.BsV w vc o.code
 r:RoAt w vr o.rels
theorem rl_ro {w:World} {v:Value} {l:List (Nat × Int)} (h:RlAt w v l):RoAt w v (l.map fun r=>((r.1:Int),r.2)):=by
 rcases h with ⟨b,o,cap,rfl,hlt,hc⟩|⟨rfl,a,cap,rfl⟩
 ·refine .inl ⟨b,o,cap,by rw [List.length_map],hlt,fun j hj=>?_⟩
  rw [List.length_map] at hj
  rw [List.getElem_map]
  exact hc j hj
 ·exact .inr ⟨rfl,a,cap,rfl⟩
theorem byte_ne {x y:UInt8} (h:x≠y):((x.toNat:Int)==(y.toNat:Int))=false∧¬ (x.toNat:Int)=(y.toNat:Int):=by
 have:¬ (x.toNat:Int)=(y.toNat:Int):=fun e=>h (UInt8.toNat_inj.1 (by omega))
 exact⟨by simpa using this,this⟩
theorem nq_ro (d e:Int × Int) (b:Bool) (h:b=true↔d=e) (w:World):(binOp .neq 76 (.agg #[.int .i64 d.1,.int .i64 d.2]) (.agg #[.int .i64 e.1,.int .i64 e.2])).run Tryz.prog w=.ok (.bool (!b)) w:=by
 have hp:Tryz.prog.stoodInHeld 76=false:=by kernel_rfl
 have a3:∀ w,(isAgg 3).run Tryz.prog w=.ok false w:=fun w=>by kernel_rfl
 obtain⟨x1,x2⟩:=d
 obtain⟨y1,y2⟩:=e
 simp only [Prod.mk.injEq] at h ⊢
 simp [go_sem,hp,Tryz.underlying76,Tryz.underlying3,part,a3]
 by_cases e1:x1=y1 <;> by_cases e2:x2=y2 <;> cases b <;> simp_all
theorem off_len {α:Type} {l m:List α} {b:Bool} {n n':Nat} (hn:l.length=n) (hn':m.length=n') (hne:¬ n=n') (hb:b=true↔l=m):b=false:=by
 cases b with
 | false=>rfl
 | true =>
  have:=hb.1 rfl
  subst this
  omega
theorem at_ne {α:Type} {l m:List α} {b:Bool} {k:Nat} (hk1:k<l.length) (hk2:k<m.length) (he:¬ l[k]=m[k]) (hb:b=true↔l=m):b=false:=by
 cases b with
 | false=>rfl
 | true=>exact absurd (hb.1 rfl) (get_ne hk1 hk2 he)
theorem rsameB_at (v v':Value) (l m:List UInt8) (b:Bool) (w:World) (hl:l.length≤100000) (hm:m.length≤100000) (hv:L5.BsV w v l) (hv':L5.BsV w v' m) (hb:b=true↔l=m) :
  Calls Tryz.prog 46 #[v,v'] w fun e w'=>e=.returned (.bool b)∧Below w.heap.size w w':=by
 obtain⟨n,hn⟩:∃ n,l.length=n:=⟨_,rfl⟩
 obtain⟨n',hn'⟩:∃ n,m.length=n:=⟨_,rfl⟩
 obtain⟨a,c,rfl,hc⟩:=bs_form hn hv
 obtain⟨a',c',rfl,hc'⟩:=bs_form hn' hv'
 rw [hn] at hl
 rw [hn'] at hm
 by_cases hne:n=n'
 ·subst hne
  have HN:=Lib.hid hn
  have HM:=Lib.hid hn'
  have HC:=Lib.hid hc
  have HC':=Lib.hid hc'
  have HB:=Lib.hid hb
  clear hn hn' hc hc' hb hv hv'
  go_enter Tryz.func46,Tryz.ntmps46
  go_wp2
  go_loopw [5] (fun i wr=>∃ k:Nat,k≤n∧i=.int .i64 (k:Int)∧Hid (Below w.heap.size w wr)∧Hid (l.take k=m.take k)) (fun i _=>n-(intOf i).toNat)
  case atStart=>exact⟨0,Nat.zero_le _,rfl,Lib.hid (Below.refl _ _),Lib.hid rfl⟩
  case round =>
   obtain⟨k,hk,rfl,hW,hT⟩:=hrel
   by_cases hlt:k<n
   ·have hk1:k<l.length:=by rw [HN.out];exact hlt
    have hk2:k<m.length:=by rw [HM.out];exact hlt
    obtain⟨b1,o1,rfl,hb1,hc1⟩:=HC.out (by omega)
    obtain⟨b2,o2,rfl,hb2,hc2⟩:=HC'.out (by omega)
    have hx:=hc1 k hk1
    have hy:=hc2 k hk2
    clear hc1 hc2
    have hlt':(k:Int)<(n:Int):=by omega
    by_cases he:l[k]=m[k]
    ·have HT:=Lib.hid (take_eq hk1 hk2 hT.out he)
     rw [← he] at hy
     obtain⟨d,hd⟩:∃ d,l[k]=d:=⟨_,rfl⟩
     rw [hd] at hx hy
     clear he hd hT
     have x0:=cell_up hW.out hx
     have y0:=cell_up hW.out hy
     have hlx:=World.block_lt_of_cell? _ _ x0
     have hly:=World.block_lt_of_cell? _ _ y0
     simp only at hlx hly
     go_wp2
     go_quiet (fail)
     go_wp2
     go_roundw
     case rel=>exact⟨k+1,by omega,by go_num,Lib.hid (L8.bdN hW.out _),HT⟩
     case measure=>simp [intOf];omega
    ·have HB2:=Lib.hid (at_ne hk1 hk2 he HB.out)
     obtain⟨d,hd⟩:∃ d,l[k]=d:=⟨_,rfl⟩
     obtain⟨d',hd'⟩:∃ d,m[k]=d:=⟨_,rfl⟩
     rw [hd] at hx
     rw [hd'] at hy
     rw [hd,hd'] at he
     have x0:=cell_up hW.out hx
     have y0:=cell_up hW.out hy
     have hlx:=World.block_lt_of_cell? _ _ x0
     have hly:=World.block_lt_of_cell? _ _ y0
     simp only at hlx hly
     obtain⟨n1,n2⟩:=byte_ne he
     clear he hd hd' hT
     go_wp2
     go_quiet (fail)
     go_wp2
     go_ret
     rw [HB2.out]
     exact⟨rfl,L8.bdN hW.out _⟩
   ·obtain rfl:k=n:=by omega
    have HB2:Hid (b=true):=Lib.hid (HB.out.2 (take_all HN.out HM.out hT.out))
    clear hT
    go_wp2
    go_ret
    rw [HB2.out]
    exact⟨rfl,hW.out⟩
 ·obtain rfl:=off_len hn hn' hne hb
  have h1:¬ (n:Int)=(n':Int):=by omega
  have h2:((n:Int)==(n':Int))=false:=by simpa using h1
  clear hn hn' hc hc' hb hv hv'
  go_enter Tryz.func46,Tryz.ntmps46
  go_wp2
  go_ret
  exact⟨rfl,Below.refl _ _⟩
structure ObS (o:Ob):Prop where
 m:o.maps.length≤100000
 c:o.code.length≤100000
 r:o.rels.length≤100000
abbrev obC (vm vc vr:Value):Obj:=.cells #[vm,vc,vr] 26
theorem cells3 {w:World} {k:Nat} {a b c:Value} {t:TypeId} (h:w.heap[k]?=some (.cells #[a,b,c] t)):w.cell? ⟨k,0,none⟩=some a∧w.cell? ⟨k,1,none⟩=some b∧w.cell? ⟨k,2,none⟩=some c:=by
 simp [World.cell?,h]
theorem two_ob (w:World) (o q:Obj):((w.alloc o).alloc q).heap[w.heap.size]?=some o∧((w.alloc o).alloc q).heap[w.heap.size+1]?=some q∧Below w.heap.size w ((w.alloc o).alloc q):=by
 refine⟨?_,?_,L2.bch (L8.bnew w _) (L8.bnew _ _)⟩
 ·show ((w.heap.push o).push q)[w.heap.size]?=_
  simp [Array.getElem?_push]
 ·show ((w.heap.push o).push q)[w.heap.size+1]?=_
  simp [Array.getElem_push]
theorem ob_iff {o q:Ob} {b1 b2 b3 b:Bool} (h1:b1=true↔o.maps=q.maps) (h2:b2=true↔o.code=q.code) (h3:b3=true↔o.rels=q.rels) (h:b=true↔o=q):b=((b1 && b2) && b3):=by
 obtain⟨x1,x2,x3⟩:=o
 obtain⟨y1,y2,y3⟩:=q
 simp only [Ob.mk.injEq] at h h1 h2 h3
 rw [Bool.eq_iff_iff,h,Bool.and_eq_true,Bool.and_eq_true,h1,h2,h3,and_assoc]
theorem rsame13_at (vm vc vr vm' vc' vr':Value) (o q:Ob) (b:Bool) (w:World) (ho:ObAt w vm vc vr o) (hq:ObAt w vm' vc' vr' q) (hs:ObS o) (hs':ObS q) (hb:b=true↔o=q) :
  Calls Tryz.prog 20 #[.agg #[vm,vc,vr],.agg #[vm',vc',vr']] w fun e w'=>e=.returned (.bool b)∧Below w.heap.size w w':=by
 obtain⟨b1,h1⟩:=L10.bx (o.maps=q.maps)
 obtain⟨b2,h2⟩:=L10.bx (o.code=q.code)
 obtain⟨b3,h3⟩:=L10.bx (o.rels=q.rels)
 obtain rfl:=ob_iff h1 h2 h3 hb
 obtain⟨n1,hn1⟩:∃ n,o.maps.length=n:=⟨_,rfl⟩
 obtain⟨n2,hn2⟩:∃ n,o.code.length=n:=⟨_,rfl⟩
 obtain⟨n3,hn3⟩:∃ n,o.rels.length=n:=⟨_,rfl⟩
 obtain⟨m1,hm1⟩:∃ n,q.maps.length=n:=⟨_,rfl⟩
 obtain⟨m2,hm2⟩:∃ n,q.code.length=n:=⟨_,rfl⟩
 obtain⟨m3,hm3⟩:∃ n,q.rels.length=n:=⟨_,rfl⟩
 obtain⟨a1,c1,rfl,hc1⟩:=L10.df_form4 hn1 ho.m
 obtain⟨a2,c2,rfl,-⟩:=bs_form hn2 ho.c
 obtain⟨a3,c3,rfl,hc3⟩:=ro_form hn3 ho.r
 obtain⟨d1,e1,rfl,hd1⟩:=L10.df_form4 hm1 hq.m
 obtain⟨d2,e2,rfl,-⟩:=bs_form hm2 hq.c
 obtain⟨d3,e3,rfl,hd3⟩:=ro_form hm3 hq.r
 have HY:=Lib.hid (fun (W:World) (hb:Below w.heap.size w W)=>rsameB_at _ _ _ _ b2 W hs.c hs'.c (ho.c.below hb) (hq.c.below hb) h2)
 obtain⟨K1,K2,hB⟩:=two_ob w (obC (.slice a1 n1 c1) (.slice a2 n2 c2) (.slice a3 n3 c3)) (obC (.slice d1 m1 e1) (.slice d2 m2 e2) (.slice d3 m3 e3))
 have HB:=Lib.hid hB
 have HK1:=Lib.hid K1
 have HK2:=Lib.hid K2
 have HC1:=Lib.hid hc1
 have HC3:=Lib.hid hc3
 have HD1:=Lib.hid hd1
 have HD3:=Lib.hid hd3
 have HN1:=Lib.hid (And.intro hn1 hm1)
 have HN3:=Lib.hid (And.intro hn3 hm3)
 have H1:=Lib.hid h1
 have H3:=Lib.hid h3
 have hl1:=hs.m
 have hl3:=hs.r
 rw [hn1] at hl1
 rw [hn3] at hl3
 have f1:¬ n1=m1→b1=false:=fun h=>off_len hn1 hm1 h h1
 have f3:¬ n3=m3→b3=false:=fun h=>off_len hn3 hm3 h h3
 have F1:=Lib.hid f1
 have F3:=Lib.hid f3
 clear ho hq hs hs' hb h1 h2 h3 hn1 hn2 hn3 hm1 hm2 hm3 hB K1 K2 hc1 hc3 hd1 hd3 f1 f3
 go_enter Tryz.func20,Tryz.ntmps20
 go_upto_region 1 with (fail)
 obtain⟨k,hk⟩:∃ k,w.heap.size=k:=⟨_,rfl⟩
 rw [hk] at HK1 HK2 ⊢
 generalize (w.alloc (.cells _ 26)).alloc (.cells _ 26)=W at HK1 HK2 HB ⊢
 obtain⟨x0,x1,x2⟩:=cells3 HK1.out
 obtain⟨y0,y1,y2⟩:=cells3 HK2.out
 have l1:=World.block_lt_of_cell? _ _ x0
 have l2:=World.block_lt_of_cell? _ _ y0
 simp only at l1 l2
 clear hk
 by_cases g1:n1=m1
 case neg =>
  have hf:=F1.out g1
  subst hf
  have g1':((n1:Int)==(m1:Int))=false:=by
   have:¬ (n1:Int)=(m1:Int):=by omega
   simpa using this
  have g1'':¬ (n1:Int)=(m1:Int):=by omega
  go_wp2
  go_ret
  exact⟨rfl,HB.out⟩
 subst g1
 cases b2
 case false =>
  go_wp2_with (go_at_call 46;((with_reducible refine (HY.out _ HB.out).mono ?_);rintro e w1 ⟨rfl,b1'⟩))
  go_ret
  exact⟨by simp,L2.bch HB.out b1'⟩
 by_cases g3:n3=m3
 case neg =>
  have hf:=F3.out g3
  subst hf
  have g3':((n3:Int)==(m3:Int))=false:=by
   have:¬ (n3:Int)=(m3:Int):=by omega
   simpa using this
  have g3'':¬ (n3:Int)=(m3:Int):=by omega
  go_wp2_with (go_at_call 46;((with_reducible refine (HY.out _ HB.out).mono ?_);rintro e w1 ⟨rfl,b1'⟩;have r1:=L8.row_up HK1.out b1';have r2:=L8.row_up HK2.out b1';clear x0 x1 x2 y0 y1 y2 l1 l2;obtain⟨x0,x1,x2⟩:=cells3 r1;obtain⟨y0,y1,y2⟩:=cells3 r2;have l1:=World.block_lt_of_cell? _ _ x0;have l2:=World.block_lt_of_cell? _ _ y0;simp only at l1 l2))
  go_ret
  exact⟨by simp,L2.bch HB.out b1'⟩
 subst g3
 go_upto_region 3 with (go_at_call 46;((with_reducible refine (HY.out _ HB.out).mono ?_);rintro e w1 ⟨rfl,b1'⟩;have r1:=L8.row_up HK1.out b1';have r2:=L8.row_up HK2.out b1';clear x0 x1 x2 y0 y1 y2 l1 l2;obtain⟨x0,x1,x2⟩:=cells3 r1;obtain⟨y0,y1,y2⟩:=cells3 r2;have l1:=World.block_lt_of_cell? _ _ x0;have l2:=World.block_lt_of_cell? _ _ y0;simp only at l1 l2))
 have HI:Hid (Below w.heap.size w w1∧w1.heap[k]?=some (obC (.slice a1 n1 c1) (.slice a2 n2 c2) (.slice a3 n3 c3))∧w1.heap[k+1]?=some (obC (.slice d1 n1 e1) (.slice d2 m2 e2) (.slice d3 n3 e3))):=Lib.hid ⟨L2.bch HB.out b1',r1,r2⟩
 clear r1 r2 b1' HK1 HK2 HB HY
 go_wp2
 go_loopw [5] (fun i wr=>∃ j:Nat,j≤n1∧i=.int .i64 (j:Int)∧Hid (Below w.heap.size w wr∧wr.heap[k]?=some (obC (.slice a1 n1 c1) (.slice a2 n2 c2) (.slice a3 n3 c3))∧wr.heap[k+1]?=some (obC (.slice d1 n1 e1) (.slice d2 m2 e2) (.slice d3 n3 e3)))∧Hid (o.maps.take j=q.maps.take j)) (fun i _=>n1-(intOf i).toNat)
 case atStart=>exact⟨0,Nat.zero_le _,rfl,HI,Lib.hid rfl⟩
 case round =>
  obtain⟨j,hj,rfl,hI,hT⟩:=hrel
  clear HI x0 x1 x2 y0 y1 y2 l1 l2
  obtain⟨x0,x1,x2⟩:=cells3 hI.out.2.1
  obtain⟨y0,y1,y2⟩:=cells3 hI.out.2.2
  have l1:=World.block_lt_of_cell? _ _ x0
  have l2:=World.block_lt_of_cell? _ _ y0
  simp only at l1 l2
  by_cases hlt:j<n1
  ·have hk1:j<o.maps.length:=by rw [HN1.out.1];exact hlt
   have hk2:j<q.maps.length:=by rw [HN1.out.2];exact hlt
   obtain⟨u1,v1,rfl,hu1,hx⟩:=HC1.out (by omega)
   obtain⟨u2,v2,rfl,hu2,hy⟩:=HD1.out (by omega)
   obtain⟨z0,z1,z2,z3⟩:=hx j hk1
   obtain⟨t0,t1,t2,t3⟩:=hy j hk2
   have z0:=cell_up hI.out.1 z0
   have z1:=cell_up hI.out.1 z1
   have z2:=cell_up hI.out.1 z2
   have z3:=cell_up hI.out.1 z3
   have t0:=cell_up hI.out.1 t0
   have t1:=cell_up hI.out.1 t1
   have t2:=cell_up hI.out.1 t2
   have t3:=cell_up hI.out.1 t3
   have l3:=World.block_lt_of_cell? _ _ z0
   have l4:=World.block_lt_of_cell? _ _ t0
   simp only at l3 l4
   have hjI:(j:Int)<(n1:Int):=by omega
   clear hx hy
   by_cases he:o.maps[j]=q.maps[j]
   ·have HT:=Lib.hid (take_eq hk1 hk2 hT.out he)
    rw [← he] at t0 t1 t2 t3
    generalize o.maps[j]=d at z0 z1 z2 z3 t0 t1 t2 t3
    have hq:=L10.nq_df d d true (by simp)
    simp only [Bool.not_true] at hq
    clear he hT
    go_wp2
    go_quiet (fail)
    go_wp2
    go_roundw
    case rel=>exact⟨j+1,by omega,by go_num,Lib.hid ⟨L8.bdN hI.out.1 _,hI.out.2.1,hI.out.2.2⟩,HT⟩
    case measure=>simp [intOf];omega
   ·have HF:=Lib.hid (at_ne hk1 hk2 he H1.out)
    generalize o.maps[j]=d at z0 z1 z2 z3 he
    generalize q.maps[j]=d' at t0 t1 t2 t3 he
    have hq:=L10.nq_df d d' false (by simp [he])
    simp only [Bool.not_false] at hq
    clear he hT
    go_wp2
    go_quiet (fail)
    go_wp2
    go_ret
    rw [HF.out]
    exact⟨rfl,L8.bdN hI.out.1 _⟩
  ·obtain rfl:j=n1:=by omega
   have HF1:Hid (b1=true):=Lib.hid (H1.out.2 (take_all HN1.out.1 HN1.out.2 hT.out))
   have HI:Hid (Below w.heap.size w wr∧wr.heap[k]?=some (obC (.slice a1 j c1) (.slice a2 n2 c2) (.slice a3 n3 c3))∧wr.heap[k+1]?=some (obC (.slice d1 j e1) (.slice d2 m2 e2) (.slice d3 n3 e3))):=Lib.hid hI.out
   clear hT hI
   go_wp2
   go_loopw [6] (fun i wr=>∃ i3:Nat,i3≤n3∧i=.int .i64 (i3:Int)∧Hid (Below w.heap.size w wr∧wr.heap[k]?=some (obC (.slice a1 j c1) (.slice a2 n2 c2) (.slice a3 n3 c3))∧wr.heap[k+1]?=some (obC (.slice d1 j e1) (.slice d2 m2 e2) (.slice d3 n3 e3)))∧Hid (o.rels.take i3=q.rels.take i3)) (fun i _=>n3-(intOf i).toNat)
   case atStart=>exact⟨0,Nat.zero_le _,rfl,HI,Lib.hid rfl⟩
   case round =>
    obtain⟨i3,hi3,rfl,hI,hT⟩:=hrel
    clear HI x0 x1 x2 y0 y1 y2 l1 l2
    obtain⟨x0,x1,x2⟩:=cells3 hI.out.2.1
    obtain⟨y0,y1,y2⟩:=cells3 hI.out.2.2
    have l1:=World.block_lt_of_cell? _ _ x0
    have l2:=World.block_lt_of_cell? _ _ y0
    simp only at l1 l2
    by_cases hlt3:i3<n3
    ·have hk1:i3<o.rels.length:=by rw [HN3.out.1];exact hlt3
     have hk2:i3<q.rels.length:=by rw [HN3.out.2];exact hlt3
     obtain⟨u1,v1,rfl,hu1,hx⟩:=HC3.out (by omega)
     obtain⟨u2,v2,rfl,hu2,hy⟩:=HD3.out (by omega)
     obtain⟨z0,z1⟩:=hx i3 hk1
     obtain⟨t0,t1⟩:=hy i3 hk2
     have z0:=cell_up hI.out.1 z0
     have z1:=cell_up hI.out.1 z1
     have t0:=cell_up hI.out.1 t0
     have t1:=cell_up hI.out.1 t1
     have l3:=World.block_lt_of_cell? _ _ z0
     have l4:=World.block_lt_of_cell? _ _ t0
     simp only at l3 l4
     have hjI:(i3:Int)<(n3:Int):=by omega
     clear hx hy
     by_cases he:o.rels[i3]=q.rels[i3]
     ·have HT:=Lib.hid (take_eq hk1 hk2 hT.out he)
      rw [← he] at t0 t1
      generalize o.rels[i3]=d at z0 z1 t0 t1
      have hq:=nq_ro d d true (by simp)
      simp only [Bool.not_true] at hq
      clear he hT
      go_wp2
      go_quiet (fail)
      go_wp2
      go_roundw
      case rel=>exact⟨i3+1,by omega,by go_num,Lib.hid ⟨L8.bdN hI.out.1 _,hI.out.2.1,hI.out.2.2⟩,HT⟩
      case measure=>simp [intOf];omega
     ·have HF:=Lib.hid (at_ne hk1 hk2 he H3.out)
      generalize o.rels[i3]=d at z0 z1 he
      generalize q.rels[i3]=d' at t0 t1 he
      have hq:=nq_ro d d' false (by simp [he])
      simp only [Bool.not_false] at hq
      clear he hT
      go_wp2
      go_quiet (fail)
      go_wp2
      go_ret
      rw [HF.out]
      exact⟨by simp,L8.bdN hI.out.1 _⟩
    ·obtain rfl:i3=n3:=by omega
     have HF3:Hid (b3=true):=Lib.hid (H3.out.2 (take_all HN3.out.1 HN3.out.2 hT.out))
     clear hT
     go_wp2
     go_ret
     rw [HF1.out,HF3.out]
     exact⟨rfl,hI.out.1⟩
end Go.Proofs.YtdgnjhhieemcaaaGreatDoor.L13
end
section
namespace Go.Proofs.YtdgnjhhieemcaaaGreatDoor.L5
open Go.RowKit L3 L1 L4
def insL (l:List Ix):List Value:=l.flatMap fun x=>x.cs.toList
theorem insL_map (r:List Rdg):insC r=insL (r.map fun x=>x.x):=by simp [insC,insL,List.flatMap_map]
theorem insL_at:∀ (l:List Ix) (i:Nat) (h:i<l.length) (m:Nat) (u:Value),l[i].cs[m]?=some u→(insL l)[i*6+m]?=some u
 | x::l,0,_,m,u,hu=>by
  have hm:m<6:=by
   have:=(Array.getElem?_eq_some_iff.1 hu).1
   simpa using this
  simp only [insL,List.flatMap_cons]
  rw [List.getElem?_append_left (by simpa using hm)]
  simpa using hu
 | x::l,i+1,h,m,u,hu=>by
  have:=insL_at l i (by simpa using h) m u (by simpa using hu)
  simp only [insL,List.flatMap_cons]
  rw [List.getElem?_append_right (by simp;omega)]
  have e:(i+1)*6+m-x.cs.toList.length=i*6+m:=by simp;omega
  rw [e]
  exact this
theorem insL_length:∀ l:List Ix,(insL l).length=6*l.length
 | []=>rfl
 | x::l=>by
  have:=insL_length l
  simp only [insL,List.flatMap_cons,List.length_append,List.length_cons] at this ⊢
  rw [this]
  simp
  omega
theorem own_ins {w:World} {base:Nat} {v:Value} {n:Nat} {l:List Ix} (h:w.ownsRow base 45 6 v n (insL l)):InAt w v l:=by
 have hl:l.length=n:=by have:=h.1;rw [insL_length] at this;omega
 subst hl
 rcases h.2 with ⟨rfl,h0⟩|⟨g,cap,cur,rfl,hb,hg,hnc,hcm,hcs,htk⟩
 ·have:l=[]:=List.eq_nil_of_length_eq_zero h0
  subst this
  exact⟨none,0,rfl,.inl rfl⟩
 ·refine⟨_,cap,rfl,.inr ⟨g,0,rfl,fun i hi m u hu=>?_⟩⟩
  have h1:=insL_at l i hi m u hu
  rw [← htk,List.getElem?_take] at h1
  split at h1
  ·rw [Nat.zero_add]
   exact cell_of hg (by simpa using h1)
  ·cases h1
end Go.Proofs.YtdgnjhhieemcaaaGreatDoor.L5
end
