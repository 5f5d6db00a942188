/- Lemmas and walks of L10Sam, L10Lb, L5Pre, L5Dec, L9Eqv: what each theorem states; conditions stand in each theorem. -/
import Derived.Test.YtdgnjhhieemcaaaGreatDoorM12
import Derived.Test.YtdgnjhhieemcaaaGreatDoorM17
set_option maxHeartbeats 4000000
set_option maxRecDepth 100000
section
namespace Go.Proofs.YtdgnjhhieemcaaaGreatDoor.L10
open Go.RowKit Go.Maps
attribute [local go_sem] Oper.semAt_some
theorem bx (P:Prop):∃ b:Bool,b=true↔P:=by
 by_cases h:P
 ·exact⟨true,by simp [h]⟩
 ·exact⟨false,by simp [h]⟩
theorem tl_iff {a b:ByteArray}:a.toList=b.toList↔a=b :=
 ⟨fun h=>Classical.byContradiction fun hn=>by have:=L2.txt_ne hn;rw [h] at this;simp at this,fun h=>by rw [h]⟩
theorem nq_df (d e:L9.Df) (b:Bool) (h:b=true↔d=e) (w:World):(binOp .neq 83 (.agg #[.string d.nm,.int .i64 d.key,.int .i64 d.val,.int .i64 d.ent]) (.agg #[.string e.nm,.int .i64 e.key,.int .i64 e.val,.int .i64 e.ent])).run Tryz.prog w=.ok (.bool (!b)) w:=by
 have hp:Tryz.prog.stoodInHeld 83=false:=by kernel_rfl
 have a9:∀ w,(isAgg 9).run Tryz.prog w=.ok false w:=fun w=>by kernel_rfl
 have a3:∀ w,(isAgg 3).run Tryz.prog w=.ok false w:=fun w=>by kernel_rfl
 obtain⟨x1,x2,x3,x4⟩:=d
 obtain⟨y1,y2,y3,y4⟩:=e
 simp only [L9.Df.mk.injEq] at h ⊢
 simp [go_sem,hp,Tryz.underlying83,Tryz.underlying9,Tryz.underlying3,part,a9,a3]
 simp only [tl_iff]
 by_cases e1:x1=y1 <;> by_cases e2:x2=y2 <;> by_cases e3:x3=y3 <;> by_cases e4:x4=y4 <;> cases b <;> simp_all
theorem nq_ins (x y:L9.Ins) (b:Bool) (h:b=true↔x=y) (w:World):(binOp .neq 45 (.agg #[.int .i64 x.op,.bool x.reg,.int .i64 x.dst,.int .i64 x.src,.int .i64 x.off,.int .i64 x.imm]) (.agg #[.int .i64 y.op,.bool y.reg,.int .i64 y.dst,.int .i64 y.src,.int .i64 y.off,.int .i64 y.imm])).run Tryz.prog w=.ok (.bool (!b)) w:=by
 have hp:Tryz.prog.stoodInHeld 45=false:=by kernel_rfl
 have a4:∀ w,(isAgg 4).run Tryz.prog w=.ok false w:=fun w=>by kernel_rfl
 have a3:∀ w,(isAgg 3).run Tryz.prog w=.ok false w:=fun w=>by kernel_rfl
 have a2:∀ w,(isAgg 2).run Tryz.prog w=.ok false w:=fun w=>by kernel_rfl
 obtain⟨x1,x2,x3,x4,x5,x6⟩:=x
 obtain⟨y1,y2,y3,y4,y5,y6⟩:=y
 simp only [L9.Ins.mk.injEq] at h ⊢
 simp [go_sem,hp,Tryz.underlying45,Tryz.underlying4,Tryz.underlying3,Tryz.underlying2,part,a4,a3,a2]
 by_cases e1:x1=y1 <;> by_cases e2:x2=y2 <;> by_cases e3:x3=y3 <;> by_cases e4:x4=y4 <;> by_cases e5:x5=y5 <;> by_cases e6:x6=y6 <;> cases b <;> simp_all
theorem take_eq {α:Type} {l m:List α} {k:Nat} (h1:k<l.length) (h2:k<m.length) (h:l.take k=m.take k) (e:l[k]=m[k]):l.take (k+1)=m.take (k+1):=by
 rw [List.take_add_one,List.take_add_one,h,List.getElem?_eq_getElem h1,List.getElem?_eq_getElem h2,e]
theorem take_all {α:Type} {l m:List α} {n:Nat} (h1:l.length=n) (h2:m.length=n) (h:l.take n=m.take n):l=m:=by
 rwa [List.take_of_length_le (by omega),List.take_of_length_le (by omega)] at h
theorem get_ne {α:Type} {l m:List α} {k:Nat} (h1:k<l.length) (h2:k<m.length) (h:l[k]≠m[k]):l≠m:=by
 rintro rfl;exact h rfl
theorem df_form4 {w:World} {v:Value} {l:List L9.Df} {n:Nat} (hn:l.length=n) (h:DfAt w v l):∃ a c,v=.slice a n c∧(0<n→∃ b o,a=some ⟨b,o,none⟩∧b<w.heap.size∧∀ j,(h:j<l.length)→w.cell? ⟨b,o+j*4,none⟩=some (.string l[j].nm)∧w.cell? ⟨b,o+j*4+1,none⟩=some (.int .i64 l[j].key)∧w.cell? ⟨b,o+j*4+2,none⟩=some (.int .i64 l[j].val)∧w.cell? ⟨b,o+j*4+3,none⟩=some (.int .i64 l[j].ent)):=by
 obtain⟨a,c,rfl,hc⟩:=df_form hn h
 refine⟨a,c,rfl,fun h0=>?_⟩
 obtain⟨b,o,rfl,hb,hc⟩:=hc h0
 exact⟨b,o,rfl,hb,fun j hj=>⟨hc j hj 0 _ rfl,hc j hj 1 _ rfl,hc j hj 2 _ rfl,hc j hj 3 _ rfl⟩⟩
theorem equalD_at (v v':Value) (l m:List L9.Df) (b:Bool) (w:World) (hl:l.length≤100000) (hm:m.length≤100000) (hv:DfAt w v l) (hv':DfAt w v' m) (hb:b=true↔l=m) :
  Calls Tryz.prog 47 #[v,v'] w fun e w'=>e=.returned (.bool b)∧Below w.heap.size w w':=by
 obtain⟨n,hn⟩:∃ n,l.length=n:=⟨_,rfl⟩
 obtain⟨n',hn'⟩:∃ n,m.length=n:=⟨_,rfl⟩
 obtain⟨a,c,rfl,hc⟩:=df_form4 hn hv
 obtain⟨a',c',rfl,hc'⟩:=df_form4 hn' hv'
 rw [hn] at hl
 rw [hn'] at hm
 by_cases hne:n=n'
 ·subst hne
  have HN:=Lib.hid hn
  have HM:=Lib.hid hn'
  have HC:=Lib.hid hc
  have HC':=Lib.hid hc'
  have HB:=Lib.hid hb
  clear hn hn' hc hc' hb hv hv'
  go_enter Tryz.func47,Tryz.ntmps47
  go_wp2
  go_loopw [5,13] (fun _ i wr=>∃ (k q:Nat),k≤n∧i=.int .i64 (k:Int)∧wr=w.drewN q∧Hid (l.take k=m.take k)) (fun _ i _=>n-(intOf i).toNat)
  case atStart=>exact⟨0,0,Nat.zero_le _,rfl,rfl,Lib.hid rfl⟩
  case round =>
   obtain⟨k,q,hk,rfl,rfl,hT⟩:=hrel
   by_cases hlt:k<n
   ·have hk1:k<l.length:=by rw [HN.out];exact hlt
    have hk2:k<m.length:=by rw [HM.out];exact hlt
    obtain⟨b1,o1,rfl,hb1,hc1⟩:=HC.out (by omega)
    obtain⟨b2,o2,rfl,hb2,hc2⟩:=HC'.out (by omega)
    have hx:=hc1 k hk1
    have hy:=hc2 k hk2
    clear hc1 hc2
    have hlt':(k:Int)<(n:Int):=by omega
    by_cases he:l[k]=m[k]
    ·have HT:=Lib.hid (take_eq hk1 hk2 hT.out he)
     rw [← he] at hy
     obtain⟨d,hd⟩:∃ d,l[k]=d:=⟨_,rfl⟩
     rw [hd] at hx hy
     clear he hd hT
     obtain⟨x0,x1,x2,x3⟩:=hx
     obtain⟨y0,y1,y2,y3⟩:=hy
     have hq:=nq_df d d true (by simp)
     simp only [Bool.not_true] at hq
     go_wp2
     go_quiet (fail)
     go_wp2
     go_roundw
     case rel=>exact⟨k+1,q+nq,by omega,by go_num,rfl,HT⟩
     case measure=>simp [intOf];omega
    ·have HB2:Hid (b=false):=Lib.hid (by
      cases b with
      | false=>rfl
      | true=>exact absurd (HB.out.1 rfl) (get_ne hk1 hk2 he))
     obtain⟨d,hd⟩:∃ d,l[k]=d:=⟨_,rfl⟩
     obtain⟨d',hd'⟩:∃ d,m[k]=d:=⟨_,rfl⟩
     rw [hd] at hx
     rw [hd'] at hy
     rw [hd,hd'] at he
     obtain⟨x0,x1,x2,x3⟩:=hx
     obtain⟨y0,y1,y2,y3⟩:=hy
     have hq:=nq_df d d' false (by simp [he])
     simp only [Bool.not_false] at hq
     clear he
     clear hd hd' hT
     go_wp2
     go_quiet (fail)
     go_wp2
     go_ret
     rw [HB2.out]
     exact⟨rfl,L8.bdN (L8.bdN (Below.refl _ _) _) _⟩
   ·obtain rfl:k=n:=by omega
    have HB2:Hid (b=true):=Lib.hid (HB.out.2 (take_all HN.out HM.out hT.out))
    clear hT
    go_wp2
    go_ret
    rw [HB2.out]
    exact⟨rfl,L8.bdN (Below.refl _ _) _⟩
 ·have hbf:b=false:=by
   cases b with
   | false=>rfl
   | true =>
    have:=hb.1 rfl
    subst this
    omega
  subst hbf
  have h1:¬ (n:Int)=(n':Int):=by omega
  have h2:((n:Int)==(n':Int))=false:=by simpa using h1
  clear hn hn' hc hc' hb hv hv'
  go_enter Tryz.func47,Tryz.ntmps47
  go_wp2
  go_ret
  exact⟨rfl,Below.refl _ _⟩
structure Sml (p:Pg):Prop where
 maps:p.maps.length≤100000
 stmts:p.stmts.length≤100000
 labs:∀ s∈p.stmts,s.labs.length≤100000
end Go.Proofs.YtdgnjhhieemcaaaGreatDoor.L10
end
section
section
namespace Go.Proofs.YtdgnjhhieemcaaaGreatDoor.L10
open Go.RowKit Go.Maps
def labsAt (l:List Stm) (k:Nat):List ByteArray:=(l[k]?.map (fun s=>s.labs)).getD []
theorem labsAt_get (l:List Stm) (k:Nat) (h:k<l.length):labsAt l k=l[k].labs:=by simp [labsAt,List.getElem?_eq_getElem h]
def lbK (l:List Stm) (s:ByteArray):Nat→Int
 | 0=>-1
 | k+1=>if L2.on (labsAt l k) s then (k:Int) else lbK l s k
theorem lbK_lt (l:List Stm) (s:ByteArray):∀ k,-1≤lbK l s k∧lbK l s k<k
 | 0=>by simp [lbK]
 | k+1=>by
  have:=lbK_lt l s k
  rw [lbK]
  split <;> omega
theorem lbK_in (l:List Stm) (s:ByteArray):∀ n k,k<n→L2.on (labsAt l k) s=true→∃ m,m<n∧lbK l s n=(m:Int)∧L2.on (labsAt l m) s=true
 | 0,k,h,_=>by omega
 | n+1,k,h,hon=>by
  rw [lbK]
  by_cases hn:L2.on (labsAt l n) s=true
  ·rw [if_pos hn];exact⟨n,by omega,rfl,hn⟩
  ·rw [if_neg hn]
   have:k≠n:=by rintro rfl;exact hn hon
   obtain⟨m,h1,h2,h3⟩:=lbK_in l s n k (by omega) hon
   exact⟨m,by omega,h2,h3⟩
def prs:Nat→List Stm→List (ByteArray × Nat)
 | _,[]=>[]
 | i,s::r=>s.labs.map (fun x=>(x,i))++prs (i+1) r
theorem prs_app:∀ (a b:List Stm) (i:Nat),prs i (a++b)=prs i a++prs (i+a.length) b
 | [],b,i=>by simp [prs]
 | s::r,b,i=>by
  rw [List.cons_append,prs,prs,prs_app r b (i+1),List.append_assoc,List.length_cons,show i+1+r.length=i+(r.length+1) by omega]
theorem prs_snoc (l:List Stm) (k:Nat) (h:k<l.length):prs 0 (l.take (k+1))=prs 0 (l.take k)++(labsAt l k).map (fun x=>(x,k)):=by
 rw [List.take_add_one,List.getElem?_eq_getElem h,Option.toList,prs_app,labsAt_get l k h]
 simp only [prs,List.append_nil,List.length_take,Nat.zero_add]
 rw [Nat.min_eq_left (by omega)]
theorem txk (x:ByteArray):WideAt.IsKeyLit (L2.txt x):=trivial
def mpF (m:DataW Unit) (y:ByteArray × Nat):DataW Unit:=m.put (L2.txt y.1) (.lit (.int .i64 (y.2:Int)))
def Mp (L:List (ByteArray × Nat)):DataW Unit:=L.foldl mpF (.map [])
theorem Mp_snoc (L:List (ByteArray × Nat)) (y:ByteArray × Nat):Mp (L++[y])=(Mp L).put (L2.txt y.1) (.lit (.int .i64 (y.2:Int))):=by simp [Mp,mpF,List.foldl_append]
theorem tidy_mpF:∀ (L:List (ByteArray × Nat)) (m:DataW Unit),Tidy m→Tidy (L.foldl mpF m)
 | [],_,h=>h
 | _::r,_,h=>tidy_mpF r _ (h.put (txk _) _)
theorem on_cons (x s:ByteArray) (r:List ByteArray):L2.on (x::r) s=(decide (x=s) || L2.on r s):=rfl
theorem fold_labs (k:Nat) (s:ByteArray):∀ (labs:List ByteArray) (m:DataW Unit),Tidy m →
  has ((labs.map (fun x=>(x,k))).foldl mpF m) (L2.txt s)=(has m (L2.txt s) || L2.on labs s) ∧
  ∀ z,((labs.map (fun x=>(x,k))).foldl mpF m).atKey (L2.txt s) z=if L2.on labs s then .lit (.int .i64 (k:Int)) else m.atKey (L2.txt s) z
 | [],m,_=>by simp [L2.on]
 | x::r,m,h=>by
  obtain⟨h1,h2⟩:=fold_labs k s r (mpF m (x,k)) (h.put (txk _) _)
  rw [List.map_cons,List.foldl_cons]
  refine⟨?_,fun z=>?_⟩
  ·rw [h1,on_cons]
   by_cases e:x=s
   ·subst e
    rw [mpF,has_put_same h.isMap (txk _)]
    simp
   ·rw [mpF,has_put_other (by intro e';exact e (L2.txt_inj e').symm)]
    simp [e]
  ·rw [h2,on_cons]
   by_cases hr:L2.on r s=true
   ·rw [if_pos hr,hr,Bool.or_true,if_pos rfl]
   ·rw [if_neg hr]
    have hr:L2.on r s=false:=by simpa using hr
    rw [hr,Bool.or_false]
    by_cases e:x=s
    ·subst e
     rw [mpF,atKey_put_same h.isMap (txk _)]
     simp
    ·rw [mpF,atKey_put_other (by intro e';exact e (L2.txt_inj e').symm)]
     simp [e]
theorem Mp_at (l:List Stm) (s:ByteArray):∀ k,k≤l.length→has (Mp (prs 0 (l.take k))) (L2.txt s)=decide (0≤lbK l s k)∧(0≤lbK l s k→∀ z,(Mp (prs 0 (l.take k))).atKey (L2.txt s) z=.lit (.int .i64 (lbK l s k)))
 | 0,_=>by simp [lbK,Mp,prs,has]
 | k+1,hk=>by
  obtain⟨h1,h2⟩:=Mp_at l s k (by omega)
  rw [prs_snoc l k (by omega),Mp,List.foldl_append]
  obtain⟨h3,h4⟩:=fold_labs k s (labsAt l k) (Mp (prs 0 (l.take k))) (tidy_mpF _ _ tidy_empty)
  unfold Mp at h1 h2 h3 h4
  rw [lbK]
  refine⟨?_,fun hp z=>?_⟩
  ·rw [h3,h1]
   by_cases ho:L2.on (labsAt l k) s=true
   ·rw [if_pos ho,ho];simp
   ·rw [if_neg ho]
    have ho:L2.on (labsAt l k) s=false:=by simpa using ho
    rw [ho,Bool.or_false]
  ·rw [h4]
   by_cases ho:L2.on (labsAt l k) s=true
   ·rw [if_pos ho,if_pos ho]
   ·rw [if_neg ho] at hp ⊢
    rw [if_neg ho]
    exact h2 hp z
end Go.Proofs.YtdgnjhhieemcaaaGreatDoor.L10
end
section
namespace Go.Proofs.YtdgnjhhieemcaaaGreatDoor.L10
open Go.RowKit Go.Maps
attribute [local go_sem] Oper.semAt_some
abbrev MapAt (w:World) (g n:Nat) (L:List (ByteArray × Nat)):Prop:=w.ownsMap Tryz.prog 9 (plainElem Tryz.prog 3) g n (Mp L)
theorem zeroI (w:World):(zeroValue 3).run Tryz.prog w=.ok (.int .i64 0) w:=by kernel_rfl
theorem MapAt.below {w w':World} {g n:Nat} {L:List (ByteArray × Nat)} (h:MapAt w g n L) (hb:Below w.heap.size w w'):MapAt w' g n L:=h.kept (gr_of hb none) (by simp)
def LI (w W:World) (m:Nat) (L:List (ByteArray × Nat)):Prop:=∃ n,n≤m∧MapAt W (w.heap.size+1) n L∧Below w.heap.size w W
theorem LI.up {w W W':World} {m:Nat} {L:List (ByteArray × Nat)} (h:LI w W m L) (hb:Below W.heap.size W W'):LI w W' m L:=by
 obtain⟨n,h1,h2,h3⟩:=h
 exact⟨n,h1,h2.below hb,L2.bch h3 hb⟩
theorem LI.le {w W:World} {m m':Nat} {L:List (ByteArray × Nat)} (h:LI w W m L) (hm:m≤m'):LI w W m' L:=by
 obtain⟨n,h1,h2⟩:=h
 exact⟨n,Nat.le_trans h1 hm,h2⟩
theorem pl_snoc (PL:List (ByteArray × Nat)) (l:List ByteArray) (k j:Nat) (h:j<l.length):PL++(l.take (j+1)).map (fun x=>(x,k))=(PL++(l.take j).map (fun x=>(x,k)))++[(l[j],k)]:=by
 rw [List.take_add_one,List.getElem?_eq_getElem h,Option.toList,List.map_append,List.append_assoc]
 rfl
theorem wf_nat {k:Nat} (h:k≤100000):(Lit.int .i64 (k:Int)).wf=true:=by
 simp [Lit.wf,IntKind.min,IntKind.max,IntKind.bits,IntKind.signed]
 omega
theorem labels_at (vm vs:Value) (p:Pg) (w:World) (hp:PgAt w vm vs p) (hs:Sml p) (hz:∀ s∈p.stmts,∀ t∈s.labs,t.size≤maxLen) :
  Calls Tryz.prog 195 #[.agg #[vm,vs]] w fun e w'=>∃ g n,e=.returned (.map (some g))∧MapAt w' g n (prs 0 p.stmts)∧Below w.heap.size w w':=by
 obtain⟨n1,hn1⟩:∃ n,p.maps.length=n:=⟨_,rfl⟩
 obtain⟨n2,hn2⟩:∃ n,p.stmts.length=n:=⟨_,rfl⟩
 obtain⟨a1,c1,rfl,-⟩:=df_form hn1 hp.1
 obtain⟨a2,c2,rfl,hc⟩:=sm_form hn2 hp.2
 have hm2:=hs.stmts
 rw [hn2] at hm2
 have HC:=Lib.hid hc
 have HN:=Lib.hid hn2
 have HZ:=Lib.hid hz
 have HL:=Lib.hid hs.labs
 have hmm:=@run_makeMap Tryz.prog
 have hb0:Below w.heap.size w ((w.alloc (.cells #[.slice a1 n1 c1,.slice a2 n2 c2] 58)).alloc (.map #[] 0)):=L2.bch (L8.bnew w _) (L8.bnew _ _)
 have hown:=World.ownsMap_made (w.alloc (.cells #[.slice a1 n1 c1,.slice a2 n2 c2] 58)) Tryz.prog 9 (plainElem (H:=Unit) Tryz.prog 3)
 have hi:Hid (LI w ((w.alloc (.cells #[.slice a1 n1 c1,.slice a2 n2 c2] 58)).alloc (.map #[] 0)) (0*100000) (prs 0 (p.stmts.take 0))):=Lib.hid ⟨0,by omega,by unfold MapAt;simpa [prs,Mp] using hown,hb0⟩
 have hrow:Hid (((w.alloc (.cells #[.slice a1 n1 c1,.slice a2 n2 c2] 58)).alloc (.map #[] 0)).heap[w.heap.size]?=some (.cells #[.slice a1 n1 c1,.slice a2 n2 c2] 58)):=Lib.hid (L8.row_up (heap_alloc_last w _) (L8.bnew _ _))
 clear hp hs hz hn1 hn2 hc hb0 hown
 go_enter Tryz.func195,Tryz.ntmps195
 go_upto_region 2 with (fail)
 obtain⟨x0,x1⟩:=cells2p hrow.out
 generalize ((w.alloc (.cells #[.slice a1 n1 c1,.slice a2 n2 c2] 58)).alloc (.map #[] 0))=W at hi hrow x0 x1 ⊢
 clear hrow
 go_wp2
 go_loopw [4,5,12] (fun _ _ i wr=>∃ k:Nat,k≤n2∧i=.int .i64 (k:Int)∧Hid (LI w wr (k*100000) (prs 0 (p.stmts.take k)))) (fun _ _ i _=>n2-(intOf i).toNat)
 case atStart=>exact⟨0,Nat.zero_le _,rfl,hi⟩
 case round =>
  obtain⟨k,hk,rfl,hI⟩:=hrel
  clear hi x0 x1
  by_cases hlt:k<n2
  ·have hkl:k<p.stmts.length:=by rw [HN.out];exact hlt
   obtain⟨b,o,rfl,hbl,hc⟩:=HC.out (by omega)
   obtain⟨lv,hst,hx⟩:=hc k hkl
   obtain⟨n0,hn0,hm0,hbw⟩:=hI.out
   have hX:=fun i u hu=>(hbw.cell (by exact hbl)).trans (hx i u hu)
   have x0:=hX 0 _ rfl
   have x1:=hX 1 _ rfl
   have x2:=hX 2 _ rfl
   have x3:=hX 3 _ rfl
   have x4:=hX 4 _ rfl
   have x5:=hX 5 _ rfl
   have x6:=hX 6 _ rfl
   have x7:=hX 7 _ rfl
   have x8:=hX 8 _ rfl
   rw [Nat.add_zero] at x0
   have hw1:=World.block_lt_of_cell? wr _ x0
   simp only at hw1
   have hz:=HZ.out _ (List.getElem_mem hkl)
   have hll:=HL.out _ (List.getElem_mem hkl)
   have hpr:=prs_snoc p.stmts k hkl
   rw [labsAt_get _ _ hkl] at hpr
   have HB:=Lib.hid hbw
   obtain⟨s,hs⟩:∃ s,p.stmts[k]=s:=⟨_,rfl⟩
   rw [hs] at x1 x2 x3 x4 x5 x6 x7 x8 hst hz hll hpr
   obtain⟨ln,hln⟩:∃ ln,s.labs.length=ln:=⟨_,rfl⟩
   obtain⟨la,lc,rfl,hla⟩:=st_form hln hst
   rw [hln] at hll
   obtain⟨PL,hPL⟩:∃ PL,prs 0 (p.stmts.take k)=PL:=⟨_,rfl⟩
   rw [hPL] at hI hpr
   have HI:=Lib.hid (hI.out.up (L8.bnew wr (.cells #[.slice la ln lc,.int .i64 s.x.op,.bool s.x.reg,.int .i64 s.x.dst,.int .i64 s.x.src,.int .i64 s.x.off,.int .i64 s.x.imm,.string s.tg,.string s.mp] 65)))
   have HLA:=Lib.hid hla
   have HPR:=Lib.hid hpr
   have HZ2:=Lib.hid hz
   have HLN:=Lib.hid hln
   have R5:=heap_alloc_last wr (.cells #[.slice la ln lc,.int .i64 s.x.op,.bool s.x.reg,.int .i64 s.x.dst,.int .i64 s.x.src,.int .i64 s.x.off,.int .i64 s.x.imm,.string s.tg,.string s.mp] 65)
   clear hx hX hc hst hs hPL hla hpr hz hln hI hn0 hm0 hbw
   go_upto_region 5 with (fail)
   clear x0 x1 x2 x3 x4 x5 x6 x7 x8 hw1
   obtain⟨y0,-⟩:=cells9 R5
   clear R5
   generalize hWk:(wr.alloc (.cells #[.slice la ln lc,.int .i64 s.x.op,.bool s.x.reg,.int .i64 s.x.dst,.int .i64 s.x.src,.int .i64 s.x.off,.int .i64 s.x.imm,.string s.tg,.string s.mp] 65))=wk at HI y0 ⊢
   clear hWk
   have HJ:Hid (LI w wk (k*100000+0) (PL++(s.labs.take 0).map (fun x=>(x,k)))):=Lib.hid (by rw [List.take_zero,List.map_nil,List.append_nil];exact HI.out.le (Nat.le_add_right _ 0))
   clear HI
   go_wp2
   go_loopw [7,20] (fun _ i wi=>∃ j:Nat,j≤ln∧i=.int .i64 (j:Int)∧Hid (LI w wi (k*100000+j) (PL++(s.labs.take j).map (fun x=>(x,k))))) (fun _ i _=>ln-(intOf i).toNat)
   case atStart=>exact⟨0,Nat.zero_le _,rfl,HJ⟩
   case round =>
    obtain⟨j,hj,rfl,hJ⟩:=hrel
    clear HJ y0
    by_cases hjn:j<ln
    ·have hjl:j<s.labs.length:=by rw [HLN.out];exact hjn
     obtain⟨bb,oo,rfl,hbb,hcc⟩:=HLA.out (by omega)
     obtain⟨n0,hn0,hown,hbw⟩:=hJ.out
     have z0:=(hbw.cell (by exact hbb)).trans (hcc j hjl)
     have hkey:=key_of (HZ2.out s.labs[j] (List.getElem_mem hjl))
     have hsn:PL++(s.labs.take (j+1)).map (fun x=>(x,k))=(PL++(s.labs.take j).map (fun x=>(x,k)))++[(s.labs[j],k)]:=pl_snoc PL s.labs k j hjl
     obtain⟨x,hx⟩:∃ x,s.labs[j]=x:=⟨_,rfl⟩
     obtain⟨Q,hQ⟩:∃ Q,PL++(s.labs.take j).map (fun x=>(x,k))=Q:=⟨_,rfl⟩
     rw [hx] at z0 hkey hsn
     rw [hQ] at hown hsn
     have HS:=Lib.hid hsn
     have HBW:=Lib.hid hbw
     have HN0:=Lib.hid hn0
     have hwf:(Lit.int .i64 (k:Int)).wf=true:=wf_nat (by omega)
     have hn1:n0+1≤maxLen:=by unfold maxLen;omega
     clear hx hQ hsn hbw hn0 hJ hcc
     unfold MapAt at hown
     go_wp2_with (first
      | (at_mapUpdate;refine wpList_mapUpdate_own _ rfl _ _ _ 274 rfl 9 3 L2.law9 Tryz.underlying274 (plainElem (H:=Unit) Tryz.prog 3) (w.heap.size+1) _ _ rfl hown (by omega) _ _ _ rfl rfl hkey _ [] (plainElem_int Tryz.underlying3 hwf) ?_;intro w1 hown1 hgrow1)
      | go_in)
     go_roundw
     case rel =>
      refine⟨j+1,by omega,by go_num,Lib.hid ?_⟩
      rw [HS.out]
      refine⟨n0+1,by have:=HN0.out;omega,?_,bel_gr HBW.out hgrow1 (by omega)⟩
      unfold MapAt
      rw [Mp_snoc]
      exact hown1
     case measure=>simp [intOf];omega
    ·obtain rfl:j=ln:=by omega
     have HJ2:Hid (LI w wr ((k+1)*100000) (prs 0 (p.stmts.take (k+1)))):=Lib.hid (by
      have h:=hJ.out
      rw [List.take_of_length_le (by rw [HLN.out];exact Nat.le_refl _),← HPR.out] at h
      exact h.le (by omega))
     clear hJ
     go_wp2
     go_roundw
     case rel=>exact⟨k+1,by omega,by go_num,HJ2⟩
     case measure=>simp [intOf];omega
  ·obtain rfl:k=n2:=by omega
   have HI2:=Lib.hid hI.out
   clear hI
   go_wp2
   go_ret
   obtain⟨n,h1,h2,h3⟩:=HI2.out
   rw [List.take_of_length_le (by rw [HN.out];exact Nat.le_refl _)] at h2
   exact⟨_,_,rfl,h2,h3⟩
end Go.Proofs.YtdgnjhhieemcaaaGreatDoor.L10
end
section
namespace Go.Proofs.YtdgnjhhieemcaaaGreatDoor.L10
open Go.RowKit
attribute [local go_sem] Oper.semAt_some
end Go.Proofs.YtdgnjhhieemcaaaGreatDoor.L10
end
end
section
namespace Go.Proofs.YtdgnjhhieemcaaaGreatDoor.L5
open Go.RowKit L3 L1 L4
def Bytes (w:World) (k o:Nat) (l:List UInt8):Prop:=∀ j,(h:j<l.length)→w.cell? ⟨k,o+j,none⟩=some (.int .u8 (l[j].toNat:Int))
theorem equal_at (k o n cap k2 o2 m cap2:Nat) (l l2:List UInt8) (r:Bool) (w:World) (hn:l.length=n) (hm:l2.length=m) (h:Bytes w k o l) (h2:Bytes w k2 o2 l2) (hr:(l==l2)=r) :
  Calls Tryz.prog 73 #[.slice (some ⟨k,o,none⟩) n cap,.slice (some ⟨k2,o2,none⟩) m cap2] w fun e w'=>e=.returned (.bool r)∧w=w':=by
 subst hn;subst hm
 have c1:=run_convert_bytes_back w 23 9 5 ⟨k,o,none⟩ cap l Tryz.underlying23 Tryz.underlying5 Tryz.underlying9 (fun j hj=>by rw [show (⟨k,o,none⟩:Addr).add j=⟨k,o+j,none⟩ by unfold Addr.add;split <;> simp_all];exact h j hj)
 have c2:=run_convert_bytes_back w 23 9 5 ⟨k2,o2,none⟩ cap2 l2 Tryz.underlying23 Tryz.underlying5 Tryz.underlying9 (fun j hj=>by rw [show (⟨k2,o2,none⟩:Addr).add j=⟨k2,o2+j,none⟩ by unfold Addr.add;split <;> simp_all];exact h2 j hj)
 have HR:=Lib.hid hr
 clear h h2 hr
 go_enter Tryz.func73,Tryz.ntmps73
 go_wp2
 go_ret
 exact⟨ret_bool HR.out,rfl⟩
theorem sl_to (k o n cap m:Nat) (h:m≤cap) (w:World):(Instr.slice 23 (.slice (some ⟨k,o,none⟩) n cap) none (some (.int .i64 (m:Int))) none).run Tryz.prog w=.ok (.slice (some ⟨k,o,none⟩) m cap) w:=by
 simp [go_sem,Tryz.underlying23,h]
theorem Bytes.take {w:World} {k o:Nat} {l:List UInt8} (h:Bytes w k o l) (m:Nat):Bytes w k o (l.take m):=fun j hj=>by
 rw [List.length_take] at hj
 rw [List.getElem_take]
 exact h j (by omega)
theorem pre_yes (k o n cap k2 m cap2:Nat) (l l2:List UInt8) (r:Bool) (w:World) (hn:l.length=n) (hm:l2.length=m) (h:Bytes w k o l) (h2:Bytes w k2 0 l2) (hc:m≤cap) (hmn:m≤n) (hr:(l.take m==l2)=r) :
  Calls Tryz.prog 211 #[.slice (some ⟨k,o,none⟩) n cap,.slice (some ⟨k2,0,none⟩) m cap2] w fun e w'=>e=.returned (.bool r)∧w=w':=by
 have s1:=sl_to k o n cap m hc
 have HE:=Lib.hid (equal_at k o m cap k2 0 m cap2 (l.take m) l2 r w (by rw [List.length_take];omega) hm (h.take m) h2 hr)
 have h3:m≤n:=hmn
 have h3':(m:Int)≤(n:Int):=by omega
 clear h h2 hr hn hm hc hmn
 go_enter Tryz.func211,Tryz.ntmps211
 go_wp2_with (go_at_call 73;((with_reducible refine (HE.out).mono ?_);rintro e w1 ⟨rfl,rfl⟩))
 go_ret
 exact⟨rfl,rfl⟩
end Go.Proofs.YtdgnjhhieemcaaaGreatDoor.L5
end
section
namespace Go.Proofs.YtdgnjhhieemcaaaGreatDoor.L5
open Go.RowKit L3 L1 L4
theorem ident_is (code src off imm n:Int) (r ok:Bool) (w:World) (h:idF code src off imm 86 0=(n,r,ok)):Calls Tryz.prog 263 #[.int .u8 code,.int .i64 src,.int .i64 off,.int .i64 imm] w fun e w' =>
  e=.returned (.tuple #[.int .i64 n,.bool r,.bool ok])∧Below w.heap.size w w':=by
 have:=ident_any code src off imm w
 rw [h] at this
 exact this
structure DecS (w W:World) (g:Nat) (X:Array Value):Prop where
 hb:Below w.heap.size w W
 hg:W.heap[g]?=some (.cells X 45)
 le:w.heap.size≤g
theorem DecS.below {w W W':World} {g:Nat} {X:Array Value} (h:DecS w W g X) (hb:Below W.heap.size W W'):DecS w W' g X :=
 ⟨bch h.hb hb,(hb.block _ (lt_of_block h.hg)).trans h.hg,h.le⟩
theorem DecS.set {w W:World} {g:Nat} {X:Array Value} (h:DecS w W g X) (cs:Array Value):DecS w (W.setRow g cs) g cs :=
 ⟨below_setRow h.hb h.le cs,setRow_heap W g _ cs _ _ h.hg,h.le⟩
theorem DecS.setc {w W:World} {g:Nat} {X:Array Value} (h:DecS w W g X) (i:Nat) (v:Value):DecS w (W.setCell ⟨g,i,none⟩ v) g (X.setIfInBounds i v) :=
 ⟨h.hb.setCell h.le v,cells_set h.hg,h.le⟩
theorem DecS.start (w:World) (X:Array Value):DecS w (w.alloc (.cells X 45)) w.heap.size X:=⟨bnew w _,heap_alloc_last w _,Nat.le_refl _⟩
def DecK (w:World) (g g5:Nat) (X X5:Array Value) (W:World):Prop:=DecS w W g X∧W.heap[g5]?=some (.cells X5 45)
theorem DecK.below {w W W':World} {g g5:Nat} {X X5:Array Value} (h:DecK w g g5 X X5 W) (hb:Below W.heap.size W W'):DecK w g g5 X X5 W' :=
 ⟨h.1.below hb,(hb.block _ (lt_of_block h.2)).trans h.2⟩
theorem keepI {w W W':World} {g g5 k o:Nat} {X:Array Value} {op dst src off imm:Int} {reg:Bool} {c0:Value} (hb:Below W.heap.size W W') (h:DecK w g g5 X (insA op reg dst src off imm) W) (hc:W.cell? ⟨k,o,none⟩=some c0) :
  DecK w g g5 X (insA op reg dst src off imm) W'∧W'.cell? ⟨k,o,none⟩=some c0∧W'.cell? ⟨g5,3,none⟩=some (.int .i64 src)∧W'.cell? ⟨g5,4,none⟩=some (.int .i64 off)∧W'.cell? ⟨g5,5,none⟩=some (.int .i64 imm):=by
 have h2:=h.below hb
 obtain⟨-,-,-,a3,a4,a5⟩:=cells6 h2.2
 exact⟨h2,(hb.cell (p:=⟨k,o,none⟩) (World.block_lt_of_cell? W _ hc)).trans hc,a3,a4,a5⟩
theorem keepJ {w W W':World} {g g5 k o:Nat} {X:Array Value} {op dst src off imm:Int} {reg:Bool} {c0:Value} (hb:Below W.heap.size W W')
  (h:DecK w g g5 X (insA op reg dst src off imm) W∧W.cell? ⟨k,o,none⟩=some c0∧W.cell? ⟨g5,3,none⟩=some (.int .i64 src)∧W.cell? ⟨g5,4,none⟩=some (.int .i64 off)∧W.cell? ⟨g5,5,none⟩=some (.int .i64 imm)) :
  DecK w g g5 X (insA op reg dst src off imm) W'∧W'.cell? ⟨k,o,none⟩=some c0∧W'.cell? ⟨g5,3,none⟩=some (.int .i64 src)∧W'.cell? ⟨g5,4,none⟩=some (.int .i64 off)∧W'.cell? ⟨g5,5,none⟩=some (.int .i64 imm):=keepI hb h.1 h.2.1
section
variable (k o n cap:Nat) (c0 c1 c2 c3 c4 c5 c6 c7:UInt8) (off imm:Int) (w:World) (hw:Wid w) (h:Eight w k o c0 c1 c2 c3 c4 c5 c6 c7) (hn:8≤n) (hc:n≤cap) (hm:n≤9223372036854775807) (ho:sx 16 ((c2.toNat:Int)*1+(c3.toNat:Int)*256)=off) (hi:sx 32 ((c4.toNat:Int)*1+(c5.toNat:Int)*256+(c6.toNat:Int)*65536+(c7.toNat:Int)*16777216)=imm) (op:Int) (r ok:Bool) (hid:idF (c0.toNat:Int) ((c1.toNat:Int) / 16) off imm 86 0=(op,r,ok))
include k o n cap c0 c1 c2 c3 c4 c5 c6 c7 off imm w hw h hn hc hm ho hi op r ok hid
theorem dec_op (hok:ok=false) :
  Calls Tryz.prog 233 #[.slice (some ⟨k,o,none⟩) n cap] w fun e w'=>e=.returned (.tuple #[.agg #[.int .i64 0,.bool false,.int .i64 0,.int .i64 0,.int .i64 0,.int .i64 0],.int .i64 0,.int .i64 6])∧Below w.heap.size w w':=by
 have HH:=Lib.hid h
 have HW:=Lib.hid hw
 have HF:=Lib.hid (fun (W:World) (hb:Below w.heap.size w W)=>fields_at k o n cap c0 c1 c2 c3 c4 c5 c6 c7 off imm W (wid_below hw hb) (h.below hb) hn hc hm ho hi)
 have HD:=Lib.hid (fun (W:World)=>ident_is (c0.toNat:Int) ((c1.toNat:Int) / 16) off imm op r ok W hid)
 have n8:¬ (n:Int)<8:=by omega
 have n0:0<n:=by omega
 have b1:=c1.toNat_lt
 clear hw h ho hi hid hn hc hm
 go_enter Tryz.func233,Tryz.ntmps233
 go_upto_region 4 with (go_at_call 262;((with_reducible refine (HF.out _ (bnew _ _)).mono ?_);rintro e w1 ⟨rfl,hb1⟩))
 have S:=(DecS.start w #[.int .i64 0,.bool false,.int .i64 0,.int .i64 0,.int .i64 0,.int .i64 0]).below (bch hb1 (bnew w1 (.cells (insA 0 false ((c1.toNat:Int) % 16) ((c1.toNat:Int) / 16) off imm) 45)))
 have h5:=heap_alloc_last w1 (.cells (insA 0 false ((c1.toNat:Int) % 16) ((c1.toNat:Int) / 16) off imm) 45)
 obtain⟨g,hg⟩:∃ g,g=w.heap.size:=⟨_,rfl⟩
 obtain⟨g5,hg5⟩:∃ g5,g5=w1.heap.size:=⟨_,rfl⟩
 have hs1:=hb1.size
 simp only [World.size_alloc] at hs1
 have hne:g≠g5:=by omega
 have hle5:w.heap.size≤g5:=by omega
 rw [← hg] at S ⊢
 rw [← hg5] at h5 ⊢
 generalize w1.alloc (.cells _ 45)=W at S h5 ⊢
 clear hb1 hg hg5 hs1
 have n8':=n8
 have K:DecK w g g5 #[.int .i64 0,.bool false,.int .i64 0,.int .i64 0,.int .i64 0,.int .i64 0] (insA 0 false ((c1.toNat:Int) % 16) ((c1.toNat:Int) / 16) off imm) W:=⟨S,h5⟩
 have d0:=(HH.out.below S.hb).a0
 have HL:=Lib.hid hle5
 have HN:=Lib.hid hne
 clear S h5 hle5 hne
 go_region_held3 (fun w'=>DecK w g g5 #[.int .i64 0,.bool false,.int .i64 0,.int .i64 0,.int .i64 0,.int .i64 0] (insA 0 false ((c1.toNat:Int) % 16) ((c1.toNat:Int) / 16) off imm) w'∧w'.cell? ⟨k,o,none⟩=some (.int .u8 (c0.toNat:Int))∧w'.cell? ⟨g5,3,none⟩=some (.int .i64 ((c1.toNat:Int) / 16))∧w'.cell? ⟨g5,4,none⟩=some (.int .i64 off)∧w'.cell? ⟨g5,5,none⟩=some (.int .i64 imm))
  (first|exact keepI (Below.refl _ _).drew K d0|exact keepJ hb9 (by assumption)|assumption)
  (first|(go_at_call 263;((with_reducible refine (HD.out _).mono ?_);rintro e w9 ⟨rfl,hb9⟩)))
 all_goals
  rename_i hh
  replace K:=hh.1
  clear hh d0
  have S:=K.1
  go_wp2_with (first|(refine wpList_store_row rfl _ _ _ rfl g #[.int .i64 0,.bool false,.int .i64 0,.int .i64 0,.int .i64 0,.int .i64 0] rfl rfl 45 _ S.hg (by kernel_rfl) rfl (ins_one _ _ _ _ _ _) ?_;replace S:=S.set #[.int .i64 0,.bool false,.int .i64 0,.int .i64 0,.int .i64 0,.int .i64 0];obtain⟨x0,x1,x2,x3,x4,x5⟩:=cells6 S.hg))
  exact bodyPost_ret (v:=.tuple #[.agg #[.int .i64 0,.bool false,.int .i64 0,.int .i64 0,.int .i64 0,.int .i64 0],.int .i64 0,.int .i64 6]) (by simp [results,Tryz.results233,go_sem,x0,x1,x2,x3,x4,x5]) rfl ⟨rfl,S.hb⟩
theorem dec_short2 (hok:ok=true) (f:Int) (hf:frm (ix op)=f) (hs:slo f=2) (h16:n<16) :
  Calls Tryz.prog 233 #[.slice (some ⟨k,o,none⟩) n cap] w fun e w'=>e=.returned (.tuple #[.agg #[.int .i64 0,.bool false,.int .i64 0,.int .i64 0,.int .i64 0,.int .i64 0],.int .i64 0,.int .i64 17])∧Below w.heap.size w w':=by
 have HT:=Lib.hid (fun (W:World)=>slots_at op f 2 W hf hs)
 have n16:(n:Int)<16:=by omega
 clear hf hs h16
 have HH:=Lib.hid h
 have HW:=Lib.hid hw
 have HF:=Lib.hid (fun (W:World) (hb:Below w.heap.size w W)=>fields_at k o n cap c0 c1 c2 c3 c4 c5 c6 c7 off imm W (wid_below hw hb) (h.below hb) hn hc hm ho hi)
 have HD:=Lib.hid (fun (W:World)=>ident_is (c0.toNat:Int) ((c1.toNat:Int) / 16) off imm op r ok W hid)
 have n8:¬ (n:Int)<8:=by omega
 have n0:0<n:=by omega
 have b1:=c1.toNat_lt
 clear hw h ho hi hid hn hc hm
 go_enter Tryz.func233,Tryz.ntmps233
 go_upto_region 4 with (go_at_call 262;((with_reducible refine (HF.out _ (bnew _ _)).mono ?_);rintro e w1 ⟨rfl,hb1⟩))
 have S:=(DecS.start w #[.int .i64 0,.bool false,.int .i64 0,.int .i64 0,.int .i64 0,.int .i64 0]).below (bch hb1 (bnew w1 (.cells (insA 0 false ((c1.toNat:Int) % 16) ((c1.toNat:Int) / 16) off imm) 45)))
 have h5:=heap_alloc_last w1 (.cells (insA 0 false ((c1.toNat:Int) % 16) ((c1.toNat:Int) / 16) off imm) 45)
 obtain⟨g,hg⟩:∃ g,g=w.heap.size:=⟨_,rfl⟩
 obtain⟨g5,hg5⟩:∃ g5,g5=w1.heap.size:=⟨_,rfl⟩
 have hs1:=hb1.size
 simp only [World.size_alloc] at hs1
 have hne:g≠g5:=by omega
 have hle5:w.heap.size≤g5:=by omega
 rw [← hg] at S ⊢
 rw [← hg5] at h5 ⊢
 generalize w1.alloc (.cells _ 45)=W at S h5 ⊢
 clear hb1 hg hg5 hs1
 have n8':=n8
 have K:DecK w g g5 #[.int .i64 0,.bool false,.int .i64 0,.int .i64 0,.int .i64 0,.int .i64 0] (insA 0 false ((c1.toNat:Int) % 16) ((c1.toNat:Int) / 16) off imm) W:=⟨S,h5⟩
 have d0:=(HH.out.below S.hb).a0
 have HL:=Lib.hid hle5
 have HN:=Lib.hid hne
 clear S h5 hle5 hne
 go_region_held3 (fun w'=>DecK w g g5 #[.int .i64 0,.bool false,.int .i64 0,.int .i64 0,.int .i64 0,.int .i64 0] (insA 0 false ((c1.toNat:Int) % 16) ((c1.toNat:Int) / 16) off imm) w'∧w'.cell? ⟨k,o,none⟩=some (.int .u8 (c0.toNat:Int))∧w'.cell? ⟨g5,3,none⟩=some (.int .i64 ((c1.toNat:Int) / 16))∧w'.cell? ⟨g5,4,none⟩=some (.int .i64 off)∧w'.cell? ⟨g5,5,none⟩=some (.int .i64 imm))
  (first|exact keepI (Below.refl _ _).drew K d0|exact keepJ hb9 (by assumption)|assumption)
  (first|(go_at_call 263;((with_reducible refine (HD.out _).mono ?_);rintro e w9 ⟨rfl,hb9⟩)))
 all_goals
  rename_i hh
  replace K:=hh.1
  clear hh d0
  go_wp2_with (first|(go_at_call 148;((with_reducible refine (HT.out _).mono ?_);rintro e w2 ⟨rfl,hb2⟩;replace K:=K.below hb2;obtain⟨a0,a1,a2,a3,a4,a5⟩:=cells6 K.2))|(have S:=K.1;refine wpList_store_row rfl _ _ _ rfl g #[.int .i64 0,.bool false,.int .i64 0,.int .i64 0,.int .i64 0,.int .i64 0] rfl rfl 45 _ S.hg (by kernel_rfl) rfl (ins_one _ _ _ _ _ _) ?_;replace S:=S.set #[.int .i64 0,.bool false,.int .i64 0,.int .i64 0,.int .i64 0,.int .i64 0];obtain⟨x0,x1,x2,x3,x4,x5⟩:=cells6 S.hg))
  exact bodyPost_ret (v:=.tuple #[.agg #[.int .i64 0,.bool false,.int .i64 0,.int .i64 0,.int .i64 0,.int .i64 0],.int .i64 0,.int .i64 17]) (by simp [results,Tryz.results233,go_sem,x0,x1,x2,x3,x4,x5]) rfl ⟨rfl,S.hb⟩
theorem dec_reg1 (hok:ok=true) (f:Int) (hf:frm (ix op)=f) (hs:slo f=1) (hr:11≤(c1.toNat:Int) % 16∨11≤(c1.toNat:Int) / 16) :
  Calls Tryz.prog 233 #[.slice (some ⟨k,o,none⟩) n cap] w fun e w'=>e=.returned (.tuple #[.agg #[.int .i64 0,.bool false,.int .i64 0,.int .i64 0,.int .i64 0,.int .i64 0],.int .i64 0,.int .i64 5])∧Below w.heap.size w w':=by
 have HT:=Lib.hid (fun (W:World)=>slots_at op f 1 W hf hs)
 clear hf hs
 have HH:=Lib.hid h
 have HW:=Lib.hid hw
 have HF:=Lib.hid (fun (W:World) (hb:Below w.heap.size w W)=>fields_at k o n cap c0 c1 c2 c3 c4 c5 c6 c7 off imm W (wid_below hw hb) (h.below hb) hn hc hm ho hi)
 have HD:=Lib.hid (fun (W:World)=>ident_is (c0.toNat:Int) ((c1.toNat:Int) / 16) off imm op r ok W hid)
 have n8:¬ (n:Int)<8:=by omega
 have n0:0<n:=by omega
 have b1:=c1.toNat_lt
 clear hw h ho hi hid hn hc hm
 go_enter Tryz.func233,Tryz.ntmps233
 go_upto_region 4 with (go_at_call 262;((with_reducible refine (HF.out _ (bnew _ _)).mono ?_);rintro e w1 ⟨rfl,hb1⟩))
 have S:=(DecS.start w #[.int .i64 0,.bool false,.int .i64 0,.int .i64 0,.int .i64 0,.int .i64 0]).below (bch hb1 (bnew w1 (.cells (insA 0 false ((c1.toNat:Int) % 16) ((c1.toNat:Int) / 16) off imm) 45)))
 have h5:=heap_alloc_last w1 (.cells (insA 0 false ((c1.toNat:Int) % 16) ((c1.toNat:Int) / 16) off imm) 45)
 obtain⟨g,hg⟩:∃ g,g=w.heap.size:=⟨_,rfl⟩
 obtain⟨g5,hg5⟩:∃ g5,g5=w1.heap.size:=⟨_,rfl⟩
 have hs1:=hb1.size
 simp only [World.size_alloc] at hs1
 have hne:g≠g5:=by omega
 have hle5:w.heap.size≤g5:=by omega
 rw [← hg] at S ⊢
 rw [← hg5] at h5 ⊢
 generalize w1.alloc (.cells _ 45)=W at S h5 ⊢
 clear hb1 hg hg5 hs1
 have n8':=n8
 have K:DecK w g g5 #[.int .i64 0,.bool false,.int .i64 0,.int .i64 0,.int .i64 0,.int .i64 0] (insA 0 false ((c1.toNat:Int) % 16) ((c1.toNat:Int) / 16) off imm) W:=⟨S,h5⟩
 have d0:=(HH.out.below S.hb).a0
 have HL:=Lib.hid hle5
 have HN:=Lib.hid hne
 clear S h5 hle5 hne
 go_region_held3 (fun w'=>DecK w g g5 #[.int .i64 0,.bool false,.int .i64 0,.int .i64 0,.int .i64 0,.int .i64 0] (insA 0 false ((c1.toNat:Int) % 16) ((c1.toNat:Int) / 16) off imm) w'∧w'.cell? ⟨k,o,none⟩=some (.int .u8 (c0.toNat:Int))∧w'.cell? ⟨g5,3,none⟩=some (.int .i64 ((c1.toNat:Int) / 16))∧w'.cell? ⟨g5,4,none⟩=some (.int .i64 off)∧w'.cell? ⟨g5,5,none⟩=some (.int .i64 imm))
  (first|exact keepI (Below.refl _ _).drew K d0|exact keepJ hb9 (by assumption)|assumption)
  (first|(go_at_call 263;((with_reducible refine (HD.out _).mono ?_);rintro e w9 ⟨rfl,hb9⟩)))
 all_goals
  rename_i hh
  replace K:=hh.1
  clear hh d0
  by_cases hd:11≤(c1.toNat:Int) % 16
  ·clear hr
   go_wp2_with (first|(go_at_call 148;((with_reducible refine (HT.out _).mono ?_);rintro e w2 ⟨rfl,hb2⟩;replace K:=K.below hb2;obtain⟨a0,a1,a2,a3,a4,a5⟩:=cells6 K.2))|(have S:=K.1;refine wpList_store_row rfl _ _ _ rfl g #[.int .i64 0,.bool false,.int .i64 0,.int .i64 0,.int .i64 0,.int .i64 0] rfl rfl 45 _ S.hg (by kernel_rfl) rfl (ins_one _ _ _ _ _ _) ?_;replace S:=S.set #[.int .i64 0,.bool false,.int .i64 0,.int .i64 0,.int .i64 0,.int .i64 0];obtain⟨x0,x1,x2,x3,x4,x5⟩:=cells6 S.hg))
   exact bodyPost_ret (v:=.tuple #[.agg #[.int .i64 0,.bool false,.int .i64 0,.int .i64 0,.int .i64 0,.int .i64 0],.int .i64 0,.int .i64 5]) (by simp [results,Tryz.results233,go_sem,x0,x1,x2,x3,x4,x5]) rfl ⟨rfl,S.hb⟩
  ·replace hr:11≤(c1.toNat:Int) / 16:=by omega
   go_wp2_with (first|(go_at_call 148;((with_reducible refine (HT.out _).mono ?_);rintro e w2 ⟨rfl,hb2⟩;replace K:=K.below hb2;obtain⟨a0,a1,a2,a3,a4,a5⟩:=cells6 K.2))|(have S:=K.1;refine wpList_store_row rfl _ _ _ rfl g #[.int .i64 0,.bool false,.int .i64 0,.int .i64 0,.int .i64 0,.int .i64 0] rfl rfl 45 _ S.hg (by kernel_rfl) rfl (ins_one _ _ _ _ _ _) ?_;replace S:=S.set #[.int .i64 0,.bool false,.int .i64 0,.int .i64 0,.int .i64 0,.int .i64 0];obtain⟨x0,x1,x2,x3,x4,x5⟩:=cells6 S.hg))
   exact bodyPost_ret (v:=.tuple #[.agg #[.int .i64 0,.bool false,.int .i64 0,.int .i64 0,.int .i64 0,.int .i64 0],.int .i64 0,.int .i64 5]) (by simp [results,Tryz.results233,go_sem,x0,x1,x2,x3,x4,x5]) rfl ⟨rfl,S.hb⟩
theorem dec_reg2 (hok:ok=true) (f:Int) (hf:frm (ix op)=f) (hs:slo f=2) (h16:16≤n) (hr:11≤(c1.toNat:Int) % 16∨11≤(c1.toNat:Int) / 16) :
  Calls Tryz.prog 233 #[.slice (some ⟨k,o,none⟩) n cap] w fun e w'=>e=.returned (.tuple #[.agg #[.int .i64 0,.bool false,.int .i64 0,.int .i64 0,.int .i64 0,.int .i64 0],.int .i64 0,.int .i64 5])∧Below w.heap.size w w':=by
 have HT:=Lib.hid (fun (W:World)=>slots_at op f 2 W hf hs)
 have n16:¬ (n:Int)<16:=by omega
 clear hf hs h16
 have HH:=Lib.hid h
 have HW:=Lib.hid hw
 have HF:=Lib.hid (fun (W:World) (hb:Below w.heap.size w W)=>fields_at k o n cap c0 c1 c2 c3 c4 c5 c6 c7 off imm W (wid_below hw hb) (h.below hb) hn hc hm ho hi)
 have HD:=Lib.hid (fun (W:World)=>ident_is (c0.toNat:Int) ((c1.toNat:Int) / 16) off imm op r ok W hid)
 have n8:¬ (n:Int)<8:=by omega
 have n0:0<n:=by omega
 have b1:=c1.toNat_lt
 clear hw h ho hi hid hn hc hm
 go_enter Tryz.func233,Tryz.ntmps233
 go_upto_region 4 with (go_at_call 262;((with_reducible refine (HF.out _ (bnew _ _)).mono ?_);rintro e w1 ⟨rfl,hb1⟩))
 have S:=(DecS.start w #[.int .i64 0,.bool false,.int .i64 0,.int .i64 0,.int .i64 0,.int .i64 0]).below (bch hb1 (bnew w1 (.cells (insA 0 false ((c1.toNat:Int) % 16) ((c1.toNat:Int) / 16) off imm) 45)))
 have h5:=heap_alloc_last w1 (.cells (insA 0 false ((c1.toNat:Int) % 16) ((c1.toNat:Int) / 16) off imm) 45)
 obtain⟨g,hg⟩:∃ g,g=w.heap.size:=⟨_,rfl⟩
 obtain⟨g5,hg5⟩:∃ g5,g5=w1.heap.size:=⟨_,rfl⟩
 have hs1:=hb1.size
 simp only [World.size_alloc] at hs1
 have hne:g≠g5:=by omega
 have hle5:w.heap.size≤g5:=by omega
 rw [← hg] at S ⊢
 rw [← hg5] at h5 ⊢
 generalize w1.alloc (.cells _ 45)=W at S h5 ⊢
 clear hb1 hg hg5 hs1
 have n8':=n8
 have K:DecK w g g5 #[.int .i64 0,.bool false,.int .i64 0,.int .i64 0,.int .i64 0,.int .i64 0] (insA 0 false ((c1.toNat:Int) % 16) ((c1.toNat:Int) / 16) off imm) W:=⟨S,h5⟩
 have d0:=(HH.out.below S.hb).a0
 have HL:=Lib.hid hle5
 have HN:=Lib.hid hne
 clear S h5 hle5 hne
 go_region_held3 (fun w'=>DecK w g g5 #[.int .i64 0,.bool false,.int .i64 0,.int .i64 0,.int .i64 0,.int .i64 0] (insA 0 false ((c1.toNat:Int) % 16) ((c1.toNat:Int) / 16) off imm) w'∧w'.cell? ⟨k,o,none⟩=some (.int .u8 (c0.toNat:Int))∧w'.cell? ⟨g5,3,none⟩=some (.int .i64 ((c1.toNat:Int) / 16))∧w'.cell? ⟨g5,4,none⟩=some (.int .i64 off)∧w'.cell? ⟨g5,5,none⟩=some (.int .i64 imm))
  (first|exact keepI (Below.refl _ _).drew K d0|exact keepJ hb9 (by assumption)|assumption)
  (first|(go_at_call 263;((with_reducible refine (HD.out _).mono ?_);rintro e w9 ⟨rfl,hb9⟩)))
 all_goals
  rename_i hh
  replace K:=hh.1
  clear hh d0
  by_cases hd:11≤(c1.toNat:Int) % 16
  ·clear hr
   go_wp2_with (first|(go_at_call 148;((with_reducible refine (HT.out _).mono ?_);rintro e w2 ⟨rfl,hb2⟩;replace K:=K.below hb2;obtain⟨a0,a1,a2,a3,a4,a5⟩:=cells6 K.2))|(have S:=K.1;refine wpList_store_row rfl _ _ _ rfl g #[.int .i64 0,.bool false,.int .i64 0,.int .i64 0,.int .i64 0,.int .i64 0] rfl rfl 45 _ S.hg (by kernel_rfl) rfl (ins_one _ _ _ _ _ _) ?_;replace S:=S.set #[.int .i64 0,.bool false,.int .i64 0,.int .i64 0,.int .i64 0,.int .i64 0];obtain⟨x0,x1,x2,x3,x4,x5⟩:=cells6 S.hg))
   exact bodyPost_ret (v:=.tuple #[.agg #[.int .i64 0,.bool false,.int .i64 0,.int .i64 0,.int .i64 0,.int .i64 0],.int .i64 0,.int .i64 5]) (by simp [results,Tryz.results233,go_sem,x0,x1,x2,x3,x4,x5]) rfl ⟨rfl,S.hb⟩
  ·replace hr:11≤(c1.toNat:Int) / 16:=by omega
   go_wp2_with (first|(go_at_call 148;((with_reducible refine (HT.out _).mono ?_);rintro e w2 ⟨rfl,hb2⟩;replace K:=K.below hb2;obtain⟨a0,a1,a2,a3,a4,a5⟩:=cells6 K.2))|(have S:=K.1;refine wpList_store_row rfl _ _ _ rfl g #[.int .i64 0,.bool false,.int .i64 0,.int .i64 0,.int .i64 0,.int .i64 0] rfl rfl 45 _ S.hg (by kernel_rfl) rfl (ins_one _ _ _ _ _ _) ?_;replace S:=S.set #[.int .i64 0,.bool false,.int .i64 0,.int .i64 0,.int .i64 0,.int .i64 0];obtain⟨x0,x1,x2,x3,x4,x5⟩:=cells6 S.hg))
   exact bodyPost_ret (v:=.tuple #[.agg #[.int .i64 0,.bool false,.int .i64 0,.int .i64 0,.int .i64 0,.int .i64 0],.int .i64 0,.int .i64 5]) (by simp [results,Tryz.results233,go_sem,x0,x1,x2,x3,x4,x5]) rfl ⟨rfl,S.hb⟩
end
end Go.Proofs.YtdgnjhhieemcaaaGreatDoor.L5
end
section
namespace Go.Proofs.YtdgnjhhieemcaaaGreatDoor.L9
open Go.RowKit
theorem lab_len:∀ (ts acc:List ByteArray),(lab acc ts).2.1.length≤acc.length+ts.length
 | [],acc=>by rw [lab];simp
 | [_],acc=>by rw [lab];simp
 | a::b::r,acc=>by
  rw [lab]
  split
  ·split
   ·have:=lab_len r (acc++[a])
    simp only [List.length_append,List.length_cons,List.length_nil] at this ⊢
    omega
   ·simp
  ·simp
theorem txB_tok (s:ByteArray):(txB s).length≤s.size∧(∀ t∈txB s,L8.TokT t.data.toList)∧∀ t∈txB s,t.size≤s.size:=by
 obtain⟨h1,h2,h3⟩:=toks_ok s
 refine⟨by unfold txB;rw [List.length_map];exact h1,fun t ht=>h2 _ ?_,h3⟩
 unfold txB at ht
 rw [List.mem_map] at ht
 obtain⟨x,hx,rfl⟩:=ht
 exact List.mem_map.2 ⟨x,hx,rfl⟩
theorem itB_iface (t:ByteArray) (q:List ByteArray):∃ ty iu er,itB t q=(.iface ty iu,er):=by
 unfold itB
 split
 ·exact⟨_,_,_,rfl⟩
 ·exact⟨_,_,_,rfl⟩
theorem line_at (s:ByteArray) (hs:s.size≤100000) (w:World) (hT:Tab w) (l:List Value) (er:Int) (h:prL s=(l,er)):Calls Tryz.prog 128 #[.string s] w fun e w'=>LinP l er w e w':=by
 have N:∀ {er:Int} {w:World},(Calls Tryz.prog 128 #[.string s] w fun e w'=>e=.returned (.tuple #[.slice none 0 0,.int .i64 er])∧Below w.heap.size w w')→Calls Tryz.prog 128 #[.string s] w fun e w'=>LinP [] er w e w':=fun h=>h.mono fun _ _ ⟨he,hb⟩=>⟨_,he,.inr ⟨rfl,_,_,rfl⟩,hb,fun b h=>by cases h⟩
 unfold prL at h
 rcases L8.bad_cases s with hb|hb
 ·rw [if_neg (by omega)] at h
  unfold prV at h
  by_cases h1:(lab [] (txB s)).1=0
  ·rw [if_neg (by simpa using h1)] at h
   cases h0:(lab [] (txB s)).2.2 with
   | nil =>
    rw [h0] at h
    cases h
    exact line_none s hs w hT hb h1 h0
   | cons t q =>
    rw [h0] at h
    simp only at h
    cases hw:wdB t
    ·rw [hw,if_pos rfl] at h
     cases h
     exact N (line_no s hs w hT hb h1 t q h0 hw)
    ·rw [hw,if_neg (by simp)] at h
     obtain⟨ty,iu,er',hI⟩:=itB_iface t q
     rw [hI] at h
     by_cases hne:er'=0
     ·subst hne
      rw [if_neg (by simp)] at h
      cases h
      refine line_yes s hs w hT hb h1 t q h0 hw ty iu hI _ rfl ?_
      have:=lab_len (txB s) []
      have:=(txB_tok s).1
      simp only [List.length_nil] at *
      omega
     ·rw [if_pos hne] at h
      cases h
      exact N (line_err s hs w hT hb h1 t q h0 hw _ _ hI hne)
  ·rw [if_pos h1] at h
   cases h
   exact N (line_label s hs w hT hb h1)
 ·rw [if_pos hb] at h
  cases h
  exact N (line_bad s hs w hb)
end Go.Proofs.YtdgnjhhieemcaaaGreatDoor.L9
end
