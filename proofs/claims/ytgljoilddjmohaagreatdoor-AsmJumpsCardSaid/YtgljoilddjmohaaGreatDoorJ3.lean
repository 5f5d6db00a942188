/- Lemmas and walks of L12Slj, L12Memj, L12Staj, L12Atj, L12Disj, L5Itrj, L5Allj, L5Alivej, L13Asmj, L5Invj, L5Rjoinj: what each theorem states; conditions stand in each theorem. -/
import Derived.Test.YtgljoilddjmohaaGreatDoorM27
import Derived.Test.YtgljoilddjmohaaGreatDoorJ1
import Derived.Test.YtgljoilddjmohaaGreatDoorM20
import Derived.Test.YtgljoilddjmohaaGreatDoorJ2
import Derived.Test.YtgljoilddjmohaaGreatDoorM30
import Derived.Test.YtgljoilddjmohaaGreatDoorM32
section
namespace Go.Proofs.YtgljoilddjmohaaGreatDoor.L12
open L3 L4
def atN:Nat→Nat→List L9.Ins→Int→Int
 | _,_,[],_=>-1
 | k,a,x::r,s=>if (a:Int)=s then (k:Int) else atN (k+1) (a+slN x) r s
def inB (n:Nat) (i:Int):Bool:=decide (0≤i) && decide (i<(n:Int))
def diV (l:List L9.Ins) (i j:Int):Int × Bool :=
 if inB l.length i && inB l.length j then ((stN l j.toNat:Int)-(stN l (i.toNat+1):Int),true) else (0,false)
def taI (l:List L9.Ins) (i o:Int):Int:=atN 0 0 l (IntKind.i64.wrap ((stN l (i.toNat+1):Int)+o))
def taV (l:List L9.Ins) (i o:Int):Int × Bool :=
 if inB l.length i then (if taI l i o<0 then (0,false) else (taI l i o,true)) else (0,false)
theorem atN_hit:∀ (l:List L9.Ins) (k a i:Nat),(∀ x∈l,slN x≠0)→i<l.length→atN k a l ((a+stN l i:Nat):Int)=((k+i:Nat):Int)
 | x::r,k,a,0,_,_=>by
  rw [atN,if_pos (by simp [stN,smN])]
  rfl
 | x::r,k,a,i+1,h,hi=>by
  have hx:=h x (by simp)
  have e:a+stN (x::r) (i+1)=(a+slN x)+stN r i:=by
   unfold stN
   rw [List.take_succ_cons,smN];omega
  rw [e,atN,if_neg (by omega),atN_hit r (k+1) (a+slN x) i (fun y hy=>h y (by simp [hy])) (by simpa using hi)]
  omega
theorem ta_di (l:List L9.Ins) (i j:Nat) (hi:i<l.length) (hj:j<l.length) (hm:l.length≤1000000) (h:∀ x∈l,slN x≠0) :
  taV l (i:Int) (diV l (i:Int) (j:Int)).1=((j:Int),true):=by
 have b1:inB l.length (i:Int)=true:=by unfold inB;simp;omega
 have b2:inB l.length (j:Int)=true:=by unfold inB;simp;omega
 have h1:=stN_le l (i+1)
 have h2:=stN_le l j
 have e:taI l (i:Int) (diV l (i:Int) (j:Int)).1=(j:Int):=by
  unfold taI diV
  rw [b1,b2]
  simp only [Bool.and_self,if_true,Int.toNat_natCast]
  have:((stN l (i+1):Int)+((stN l j:Int)-(stN l (i+1):Int)))=((0+stN l j:Nat):Int):=by omega
  rw [this]
  have w:IntKind.i64.wrap ((0+stN l j:Nat):Int)=((0+stN l j:Nat):Int):=IntWalk.i64_in _ (by omega)
  rw [w,atN_hit l 0 0 j h hj]
  omega
 unfold taV
 rw [b1,e]
 simp
end Go.Proofs.YtgljoilddjmohaaGreatDoor.L12
end
section
namespace Go.Proofs.YtgljoilddjmohaaGreatDoor.L12
open Go.RowKit L3 L4
attribute [local go_sem] Oper.semAt_some
theorem isIndex_at (a:Option Addr) (n cap:Nat) (i:Int) (b:Bool) (w:World) (hb:inB n i=b) :
  Calls Tryz.prog 42 #[.slice a n cap,.int .i64 i] w fun e w'=>e=.returned (.bool b)∧w=w':=by
 subst hb
 unfold inB
 cases h1:decide (0≤i) <;> cases h2:decide (i<(n:Int))
 all_goals
  go_enter Tryz.func42,Tryz.ntmps42
  go_wp2
  go_ret
  exact⟨rfl,rfl⟩
end Go.Proofs.YtgljoilddjmohaaGreatDoor.L12
end
section
namespace Go.Proofs.YtgljoilddjmohaaGreatDoor.L12
open Go.RowKit Go.Shelf L3 L4
attribute [local go_sem] Oper.semAt_some
theorem box_putObj {W:World} {B:Nat} {t:TypeId} {v:Value} (h:Boxed W B t v) {l:Nat} {o:Obj} (o':Obj) (hl:W.heap[l]?=some o) (ho:o.isCells=false):Boxed (W.putObj l o') B t v :=
 h.kept (grownBy_putObj' W l o') (fun e=>by
  cases e
  have h':W.heap[B]?=some (.cells #[v] t (0,0)):=h
  rw [h'] at hl;cases hl;cases ho)
end Go.Proofs.YtgljoilddjmohaaGreatDoor.L12
end
section
set_option maxRecDepth 100000
set_option maxHeartbeats 4000000
namespace Go.Proofs.YtgljoilddjmohaaGreatDoor.L12
open Go.RowKit Go.Shelf L3 L4
attribute [local go_sem] Oper.semAt_some
theorem sls_small (l:List L9.Ins) (h:l.length≤1000000) (r:Sl) (hr:r∈sls 0 l):r.a=r.at':=by
 obtain⟨i,hi,rfl⟩:=List.mem_iff_getElem.1 hr
 rw [sls_len] at hi
 have e:=sls_get l 0 i hi
 rw [List.getElem?_eq_getElem (by rw [sls_len];exact hi),Option.some.injEq] at e
 rw [e]
 have:=stN_le l i
 simp only [Sl.a]
 rw [Nat.min_eq_left (by omega)]
theorem atN_none:∀ (l:List L9.Ins) (k a:Nat) (s:Int),(∀ r∈sls a l,(r.at':Int)≠s)→atN k a l s=-1
 | [],_,_,_,_=>rfl
 | x::r,k,a,s,h=>by
  rw [atN,if_neg (h ⟨a,x⟩ (by simp [sls]))]
  exact atN_none r _ _ _ fun y hy=>h y (by simp [sls,hy])
theorem atN_pre:∀ (l:List L9.Ins) (k a:Nat) (s:Int) (p:List Sl) (x:Sl),p++[x] <+: sls a l→(x.at':Int)=s→(∀ r∈p,(r.at':Int)≠s)→atN k a l s=((k+p.length:Nat):Int)
 | [],_,_,_,p,x,h,_,_=>by
  rw [sls,List.prefix_nil] at h
  simp at h
 | y::r,k,a,s,p,x,h,hx,hp=>by
  cases p with
  | nil =>
   rw [sls,List.nil_append,List.cons_prefix_cons] at h
   rw [h.1] at hx
   rw [atN,if_pos hx]
   simp
  | cons z q =>
   rw [sls,List.cons_append,List.cons_prefix_cons] at h
   have hz:=hp z (by simp)
   rw [h.1] at hz
   rw [atN,if_neg hz,atN_pre r (k+1) _ s q x h.2 hx (fun r hr=>hp r (by simp [hr]))]
   simp only [List.length_cons]
   omega
def AtI (w:World) (g:Nat) (s:Int) (pre:List Sl) (W:World):Prop :=
 (Boxed W g 3 (.int .i64 s)∧Boxed W (g+1) 3 (.int .i64 0)∧Boxed W (g+1+1) 3 (.int .i64 (pre.length:Int))∧∀ r∈pre,(r.a:Int)≠s)∧Below w.heap.size w W
def AtX (w:World) (g:Nat) (s:Int) (c:Code) (pre:List Sl) (W:World):Prop :=
 ((c=.ret∧∃ p x,pre=p++[x]∧(x.a:Int)=s∧∀ r∈p,(r.a:Int)≠s)∧Boxed W (g+1) 3 (.int .i64 ((pre.length:Int)-1)))∧Below w.heap.size w W
theorem atI_own (w:World) (s:Int) (B:Nat) (hB:w.heap.size≤B):OwnFrom B (AtI w w.heap.size s) :=
 OwnFrom.and (OwnFrom.and (Own.from (boxed_own _ _ _) _) (OwnFrom.and (Own.from (boxed_own _ _ _) _) (OwnFrom.and (Own.from (boxed_own _ _ (fun pre:List Sl=>.int .i64 (pre.length:Int))) _) (ownFrom_pure _ _)))) (ownFrom_below (Nat.le_refl _) hB)
theorem atX_own (w:World) (s:Int) (B:Nat) (hB:w.heap.size≤B) (c:Code):OwnFrom B (AtX w w.heap.size s c) :=
 OwnFrom.and (OwnFrom.and (ownFrom_pure _ _) (Own.from (boxed_own _ _ (fun pre:List Sl=>.int .i64 ((pre.length:Int)-1))) _)) (ownFrom_below (Nat.le_refl _) hB)
theorem at_at (v:Value) (l:List L9.Ins) (s R:Int) (hl:l.length≤1000000) (w:World) (hv:IsAt w v l) (hR:atN 0 0 l s=R) :
  Calls Tryz.prog 44 #[v,.int .i64 s] w fun e w'=>e=.returned (.int .i64 R)∧Below w.heap.size w w':=by
 obtain⟨n,hn⟩:∃ n,l.length=n:=⟨_,rfl⟩
 have hL:=hv.low
 obtain⟨ad,cap,rfl,-⟩:=is_form hn hv
 clear hv
 refine (callsIn_wide (n:=6)).1 ?_
 refine callsIn_of_wp_marks Tryz.func44 rfl trivial ?_ rfl
 simp only [Tryz.ntmps44,List.size_toArray,List.length_cons,List.length_nil,Nat.reduceAdd,Nat.reduceSub,Array.replicate_succ,Array.replicate_zero,List.push_toArray,List.append_toArray,List.nil_append,List.cons_append]
 gi_wp2_with (refine⟨trivial,?_⟩;gi_at_call 85;refine (callsIn_wide.2 (slots_fn ad n cap _)).mono ?_;rintro e w1 ⟨rfl,rfl⟩)
 have b0:=(((Boxed.new w 3 (.int .i64 s)).alloc (.cells #[.int .i64 0] 3)).alloc (.cells #[.int .i64 0] 3)).alloc (.cells #[.slice ad n cap] 28)
 have b1:=(((Boxed.new (w.alloc (.cells #[.int .i64 s] 3)) 3 (.int .i64 0))).alloc (.cells #[.int .i64 0] 3)).alloc (.cells #[.slice ad n cap] 28)
 have b2:=(Boxed.new ((w.alloc (.cells #[.int .i64 s] 3)).alloc (.cells #[.int .i64 0] 3)) 3 (.int .i64 0)).alloc (.cells #[.slice ad n cap] 28)
 have b3:=Boxed.new (((w.alloc (.cells #[.int .i64 s] 3)).alloc (.cells #[.int .i64 0] 3)).alloc (.cells #[.int .i64 0] 3)) 28 (.slice ad n cap)
 simp only [World.size_alloc] at b1 b2 b3
 have hB0:Below w.heap.size w ((((w.alloc (.cells #[.int .i64 s] 3)).alloc (.cells #[.int .i64 0] 3)).alloc (.cells #[.int .i64 0] 3)).alloc (.cells #[.slice ad n cap] 28)) :=
  ((((Below.refl _ w).alloc (Nat.le_refl _) _).alloc (by simp) _).alloc (by simp;omega) _).alloc (by simp;omega) _
 have hsz:((((w.alloc (.cells #[.int .i64 s] 3)).alloc (.cells #[.int .i64 0] 3)).alloc (.cells #[.int .i64 0] 3)).alloc (.cells #[.slice ad n cap] 28)).heap.size=w.heap.size+1+1+1+1:=by simp
 obtain⟨W0,hW0⟩:∃ W0,(((w.alloc (.cells #[.int .i64 s] 3)).alloc (.cells #[.int .i64 0] 3)).alloc (.cells #[.int .i64 0] 3)).alloc (.cells #[.slice ad n cap] 28)=W0:=⟨_,rfl⟩
 rw [hW0] at b0 b1 b2 b3 hB0 hsz
 have HSZ:=Lib.hid hsz
 have hsz1:w.heap.size+1+1+1<W0.heap.size:=by omega
 simp only [hW0]
 clear hsz
 clear hW0
 refine wpIn_rangeFunc_ownH rfl (by omega) (gf:=132) (lb:=#[.pointer (some ⟨w.heap.size+1+1+1,0,none⟩)]) rfl trivial (enters_of Tryz.func132 (by kernel_rfl) rfl)
  (stops_at _ (by omega) (w.heap.size+1+1+1) w.heap.size (.slice ad n cap) l hl W0 (by omega) (by omega) b3.cell (hL.below hB0)) (fun h k=>Kq.t h k) (fun W l o o' h1 h2 h3 h4=>Kq.b (w:=W0) (by omega) W l o o' h1 h2 h3 h4) (Below.refl _ _) (fun _=>rfl)
  (AtI w w.heap.size s) (AtX w w.heap.size s) (atI_own w s _ (by omega)) (atX_own w s _ (by omega))
  ⟨⟨b0,b1,b2,fun r hr=>by cases hr⟩,hB0⟩
  (fun x a' _=>a'={ tmps:=#[.slice ad n cap,.int .i64 s,undef,.pointer (some ⟨w.heap.size,0,none⟩),.pointer (some ⟨w.heap.size+1,0,none⟩),.pointer (some ⟨w.heap.size+1+1,0,none⟩),.int .i64 (x.a:Int),.slice ad n cap,.func (.func 132) #[] #[.pointer (some ⟨w.heap.size+1+1+1,0,none⟩)],.int .i64 (x.a:Int),.agg (xcs x.x),undef,undef,undef,undef,undef,undef],defers:=[] })
  (fun x a'=>ownFrom_pure _ _)
  ?assign ?body ?done ?stop
 case assign =>
  rintro lp pre x W K ⟨⟨c0,c1,c2,hz⟩,hB1⟩ hK
  gi_wp2
  exact hK _ _ ((KeepsOthers.refl _).from _) ⟨Below.refl _ W,fun _ _ _ h=>h⟩ ⟨⟨c0,c1,c2,hz⟩,hB1⟩ rfl
 case body =>
  rintro lp pre x a' W hlp - ⟨⟨c0,c1,c2,hz⟩,hB1⟩ rfl hlt
  rw [sls_len,hn] at hlt
  have d0:=c0.cell
  have d1:=c1.cell
  have d2:=c2.cell
  have f1:=c1.frozen
  have f2:=c2.frozen
  have hpl:pre.length<1000000:=by omega
  have hB2:=Lib.hid hB1
  have HZ:=Lib.hid hz
  obtain⟨s',hs'⟩:∃ s',x.a=s':=⟨_,rfl⟩
  by_cases he:(x.a:Int)=s
  ·have heb:((x.a:Int)==s)=true:=by simpa using he
   have HE:=Lib.hid he
   rw [hs'] at heb ⊢
   clear hz he
   gi_wp2
   have e1:(((pre++[x]).length:Nat):Int)-1=(pre.length:Int):=by simp
   exact⟨(KeepsOthers.setCell _ _ _).from _,⟨⟨rfl,pre,x,rfl,HE.out,HZ.out⟩,by rw [e1];exact c1.set _⟩,hB2.out.setCell (p:=⟨_,0,none⟩) (Nat.le_succ _) _⟩
  ·have heb:((x.a:Int)==s)=false:=by simpa using he
   have HE:=Lib.hid he
   rw [hs'] at heb ⊢
   clear hz he
   gi_wp2
   have e1:(((pre++[x]).length:Nat):Int)=(pre.length:Int)+1:=by simp
   refine⟨(KeepsOthers.setCell _ _ _).from _,⟨(Below.refl _ W).setCell (p:=⟨_,0,none⟩) (by show w.heap.size≤w.heap.size+1+1;omega) _,KI.set c2 (by decide) _⟩,⟨c0.other (by omega) _,c1.other (by omega) _,by rw [e1];exact c2.set _,?_⟩,hB2.out.setCell (p:=⟨_,0,none⟩) (by show w.heap.size≤w.heap.size+1+1;omega) _⟩
   intro r hr
   rcases List.mem_append.1 hr with h|h
   ·exact HZ.out r h
   ·rw [List.mem_singleton.1 h];exact HE.out
 case done =>
  rintro D ys W hD rfl ⟨⟨c0,c1,c2,hz⟩,hB1⟩ hK
  have d1:=c1.cell
  have f1:=c1.frozen
  have hr:R=-1:=by rw [← hR];exact atN_none l 0 0 s fun r hr=>by rw [← sls_small l hl r hr];exact hz r hr
  gi_wp2
  have hK2:=(KeepsOthers.setCell W ⟨w.heap.size+1,0,none⟩ (.int .i64 (-1))).same D _ hK rfl
  have c1':=c1.set (.int .i64 (-1))
  have hBE:=hB1.setCell (p:=⟨w.heap.size+1,0,none⟩) (Nat.le_succ _) (.int .i64 (-1))
  generalize W.setCell ⟨w.heap.size+1,0,none⟩ _=E at hK2 c1' hBE ⊢
  refine⟨by simp,.inl ⟨_,_,rfl,run_takeDeferred hK2,?_⟩⟩
  have k1:=(box_putObj c1' (.deferred none) hK2 rfl).cell
  exact⟨.int .i64 (-1),by simp [results,Tryz.results44,go_sem,k1],by rw [hr],hBE.trans (belowK_b (w:=w) (Nat.le_refl _) E D _ _ (by have:=HSZ.out;omega) hK2 rfl rfl)⟩
 case stop =>
  rintro D c pre W hD hp ⟨⟨⟨rfl,p,x,rfl,hx,hpz⟩,c1⟩,hB1⟩ hK
  gi_wp2
  have sm:∀ r∈p++[x],r.a=r.at':=fun r hr=>sls_small l hl r (hp.mem hr)
  have hr:R=(p.length:Int):=by
   rw [← hR,atN_pre l 0 0 s p x hp (by rw [← sm x (by simp)];exact hx) (fun r hr=>by rw [← sm r (by simp [hr])];exact hpz r hr),Nat.zero_add]
  have e1:(((p++[x]).length:Nat):Int)-1=(p.length:Int):=by simp
  rw [e1] at c1
  refine⟨by simp,.inl ⟨_,_,rfl,run_takeDeferred hK,?_⟩⟩
  have k1:=(box_putObj c1 (.deferred none) hK rfl).cell
  exact⟨.int .i64 (p.length:Int),by simp [results,Tryz.results44,go_sem,k1],by rw [hr],hB1.trans (belowK_b (w:=w) (Nat.le_refl _) W D _ _ (by have:=HSZ.out;omega) hK rfl rfl)⟩
end Go.Proofs.YtgljoilddjmohaaGreatDoor.L12
end
section
set_option maxHeartbeats 4000000
namespace Go.Proofs.YtgljoilddjmohaaGreatDoor.L12
open Go.RowKit Go.Shelf L3 L4
attribute [local go_sem] Oper.semAt_some
theorem keepK {w W W':World} {b p q k o:Nat} {s t:Int} {op dst src off imm:Int} {reg:Bool} (hb:Below W.heap.size W W') (h:Below w.heap.size w W∧W.cell? ⟨b,p,none⟩=some (.int .i64 s)∧W.cell? ⟨b,q,none⟩=some (.int .i64 t)∧W.cell? ⟨k,o,none⟩=some (.int .i64 op)∧W.cell? ⟨k,o+1,none⟩=some (.bool reg)∧W.cell? ⟨k,o+2,none⟩=some (.int .i64 dst)∧W.cell? ⟨k,o+3,none⟩=some (.int .i64 src)∧W.cell? ⟨k,o+4,none⟩=some (.int .i64 off)∧W.cell? ⟨k,o+5,none⟩=some (.int .i64 imm)) :
  Below w.heap.size w W'∧W'.cell? ⟨b,p,none⟩=some (.int .i64 s)∧W'.cell? ⟨b,q,none⟩=some (.int .i64 t)∧W'.cell? ⟨k,o,none⟩=some (.int .i64 op)∧W'.cell? ⟨k,o+1,none⟩=some (.bool reg)∧W'.cell? ⟨k,o+2,none⟩=some (.int .i64 dst)∧W'.cell? ⟨k,o+3,none⟩=some (.int .i64 src)∧W'.cell? ⟨k,o+4,none⟩=some (.int .i64 off)∧W'.cell? ⟨k,o+5,none⟩=some (.int .i64 imm):=by
 obtain⟨h0,h1,h2,x0,x1,x2,x3,x4,x5⟩:=h
 exact⟨L2.bch h0 hb,cell_up hb h1,cell_up hb h2,cell_up hb x0,cell_up hb x1,cell_up hb x2,cell_up hb x3,cell_up hb x4,cell_up hb x5⟩
theorem inB_nat {n:Nat} {i:Int} (h:inB n i=true):∃ k:Nat,i=(k:Int)∧k<n:=by
 unfold inB at h
 simp only [Bool.and_eq_true,decide_eq_true_eq] at h
 exact⟨i.toNat,by omega,by omega⟩
theorem target_no (v:Value) (l:List L9.Ins) (i o:Int) (w:World) (hv:IsAt w v l) (h:inB l.length i=false) :
  Calls Tryz.prog 20 #[v,.int .i64 i,.int .i64 o] w fun e w'=>e=.returned (.tuple #[.int .i64 0,.bool false])∧Below w.heap.size w w':=by
 obtain⟨n,hn⟩:∃ n,l.length=n:=⟨_,rfl⟩
 obtain⟨ad,cap,rfl,-⟩:=is_form hn hv
 rw [hn] at h
 have H1:=Lib.hid (fun w=>isIndex_at ad n cap i false w h)
 clear hv hn h
 go_enter Tryz.func20,Tryz.ntmps20
 go_wp2_with (go_at_call 42;((with_reducible refine (H1.out _).mono ?_);rintro e w1 ⟨rfl,rfl⟩))
 exact bodyPost_ret (v:=.tuple #[.int .i64 0,.bool false]) (by simp [results,Tryz.results20,go_sem]) rfl ⟨rfl,Below.refl _ _⟩
theorem target_in (v:Value) (l:List L9.Ins) (i:Nat) (o d:Int) (b:Bool) (w:World) (hv:IsAt w v l) (hl:l.length≤1000000) (hi:i<l.length) (hR:(if taI l (i:Int) o<0 then (0,false) else (taI l (i:Int) o,true))=(d,b)) :
  Calls Tryz.prog 20 #[v,.int .i64 (i:Int),.int .i64 o] w fun e w'=>e=.returned (.tuple #[.int .i64 d,.bool b])∧Below w.heap.size w w':=by
 obtain⟨n,hn⟩:∃ n,l.length=n:=⟨_,rfl⟩
 have HV:=Lib.hid hv
 obtain⟨ad,cap,rfl,hc⟩:=is_form hn hv
 have hil:=hi
 rw [hn] at hl hi
 have H1:=Lib.hid (fun w=>isIndex_at ad n cap (i:Int) true w (by unfold inB;simp;omega))
 have HS:=Lib.hid (starts_is (.slice ad n cap) l n hn hl w hv)
 obtain⟨kb,ko,rfl,hkb,hx⟩:=hc (by omega)
 have hX:=hx i hil
 have hle:=stN_le l i
 have hsu:=stN_succ l i hil
 obtain⟨x,hxx⟩:∃ x,l[i]=x:=⟨_,rfl⟩
 rw [hxx] at hX hsu
 have hs2:=slN_le x
 rw [hn] at hle
 have HBe:=Lib.hid (fun W=>behind_at (stN l i) x (stN l (i+1):Int) W (by omega) (by rw [hsu];omega))
 obtain⟨r,hr⟩:∃ r,taI l (i:Int) o=r:=⟨_,rfl⟩
 rw [hr] at hR
 unfold taI at hr
 rw [Int.toNat_natCast] at hr
 obtain⟨y,hy⟩:∃ y,IntKind.i64.wrap ((stN l (i+1):Int)+o)=y:=⟨_,rfl⟩
 rw [hy] at hr
 have HAt:=Lib.hid (fun (W:World) (hb:Below w.heap.size w W)=>at_at (.slice (some ⟨kb,ko,none⟩) n cap) l y r (by omega) W (hv.below hb) hr)
 have HN:=Lib.hid hn
 have HX:=Lib.hid hX
 obtain⟨t,ht⟩:∃ t,stN l i=t:=⟨_,rfl⟩
 obtain⟨z,hz⟩:∃ z,stN l (i+1)=z:=⟨_,rfl⟩
 have HT:=Lib.hid ht
 rw [ht] at hle hsu HBe
 rw [hz] at hsu HBe hy
 have HR:=Lib.hid hR
 clear hv hn hx hxx hsu ht hz hX hc hr hR
 go_enter Tryz.func20,Tryz.ntmps20
 go_upto_region 4 with (first|(go_at_call 42;((with_reducible refine (H1.out _).mono ?_);rintro e w1 ⟨rfl,rfl⟩))|(go_at_call 43;((with_reducible refine (HS.out).mono ?_);rintro e w1 ⟨⟨sa,sc,rfl,hin⟩,b1⟩)))
 obtain⟨sb,so,rfl,hsb,hcl⟩:=st_cell HN.out hin hi
 have c1:=hcl i hi
 rw [HT.out] at c1
 have X:=HX.out.below hkb b1
 have hkb1:=Nat.lt_of_lt_of_le hkb b1.size
 have HB1:=Lib.hid b1
 clear hcl hin b1
 obtain⟨op,reg,dst,src,off,imm⟩:=x
 obtain⟨x0,x1,x2,x3,x4,x5⟩:=X
 have Y:=And.intro (Below.refl w1.heap.size w1) (And.intro c1 (And.intro c1 (And.intro x0 (And.intro x1 (And.intro x2 (And.intro x3 (And.intro x4 x5)))))))
 go_region_held3 (fun W=>Below w1.heap.size w1 W∧W.cell? ⟨sb,so+i,none⟩=some (.int .i64 (t:Int))∧W.cell? ⟨sb,so+i,none⟩=some (.int .i64 (t:Int))∧W.cell? ⟨kb,ko+i*6,none⟩=some (.int .i64 op)∧W.cell? ⟨kb,ko+i*6+1,none⟩=some (.bool reg)∧W.cell? ⟨kb,ko+i*6+2,none⟩=some (.int .i64 dst)∧W.cell? ⟨kb,ko+i*6+3,none⟩=some (.int .i64 src)∧W.cell? ⟨kb,ko+i*6+4,none⟩=some (.int .i64 off)∧W.cell? ⟨kb,ko+i*6+5,none⟩=some (.int .i64 imm))
  (first|exact keepK (Below.refl _ _).drew Y|exact keepK hb9 (keepK (Below.refl _ _).drew Y)|exact keepK hb9 (by assumption)|assumption)
  (first|(go_at_call 45;((with_reducible refine (HBe.out _).mono ?_);rintro e w9 ⟨rfl,hb9⟩))|(go_at_call 44;((with_reducible refine (HAt.out _ (L2.bch HB1.out (And.left (by assumption)))).mono ?_);rintro e w9 ⟨rfl,hb9⟩)))
 all_goals
  rename_i hh
  by_cases hr0:r<0
  ·have hr:=HR.out
   rw [if_pos hr0] at hr
   cases hr
   have hr1:¬ 0≤r:=by omega
   go_wp2
   exact bodyPost_ret (v:=.tuple #[.int .i64 0,.bool false]) (by simp [results,Tryz.results20,go_sem]) rfl ⟨rfl,L2.bch HB1.out hh.1⟩
  ·have hr:=HR.out
   rw [if_neg hr0] at hr
   cases hr
   go_wp2
   exact bodyPost_ret (v:=.tuple #[.int .i64 d,.bool true]) (by simp [results,Tryz.results20,go_sem]) rfl ⟨rfl,L2.bch HB1.out hh.1⟩
theorem target_at (v:Value) (l:List L9.Ins) (i o:Int) (d:Int) (b:Bool) (w:World) (hv:IsAt w v l) (hl:l.length≤1000000) (hR:taV l i o=(d,b)) :
  Calls Tryz.prog 20 #[v,.int .i64 i,.int .i64 o] w fun e w'=>e=.returned (.tuple #[.int .i64 d,.bool b])∧Below w.heap.size w w':=by
 unfold taV at hR
 by_cases h:inB l.length i=true
 ·rw [if_pos h] at hR
  obtain⟨i',rfl,hi⟩:=inB_nat h
  exact target_in v l i' o d b w hv hl hi hR
 ·rw [if_neg h] at hR
  cases hR
  exact target_no v l i o w hv (by simpa using h)
end Go.Proofs.YtgljoilddjmohaaGreatDoor.L12
end
section
set_option maxRecDepth 100000
set_option maxHeartbeats 2000000
namespace Go.Proofs.YtgljoilddjmohaaGreatDoor.L5
open Go.RowKit Go.Shelf L3 L1 L4
attribute [local go_sem] Oper.semAt_some
structure Rdg where
 at':Nat
 x:Ix
 e:Int
abbrev Rdg.cs (r:Rdg):Array Value:=#[.int .i64 r.x.op,.bool r.x.reg,.int .i64 r.x.dst,.int .i64 r.x.src,.int .i64 r.x.off,.int .i64 r.x.imm,.int .i64 r.e]
abbrev Rdg.vs (r:Rdg):Array Value:=#[.int .i64 (r.at':Int),.agg r.cs]
def rds:Nat→Nat→List UInt8→List Rdg
 | 0,_,_=>[]
 | n+1,a,l=>if l=[] then [] else if (decF l).2.2≠0 then [⟨a,(decF l).1,(decF l).2.2⟩] else ⟨a,(decF l).1,0⟩::rds n (a+(decF l).2.1.toNat) (l.drop (8*(decF l).2.1.toNat))
theorem grown_of_below {w w':World} (h:Below w.heap.size w w'):w.grownBy w' none:=⟨h.os,h.tape,h.output,h.size,fun k hk _=>h.block k hk⟩
theorem decF_ok (l:List UInt8) (h:(decF l).2.2=0):∃ s:Nat,(decF l).2.1=(s:Int)∧1≤s∧s≤2∧8*s≤l.length:=by
 unfold decF at h ⊢
 by_cases h8:l.length<8
 ·rw [if_pos h8] at h
  exact absurd h (by decide)
 rw [if_neg h8] at h ⊢
 by_cases hi:(idL l).2.2=false
 ·rw [if_pos hi] at h
  exact absurd h (by decide)
 rw [if_neg hi] at h ⊢
 by_cases h16:slo (fL l)=2∧l.length<16
 ·rw [if_pos h16] at h
  exact absurd h (by decide)
 rw [if_neg h16] at h ⊢
 by_cases hr:11≤((bt' l 1).toNat:Int) % 16∨11≤((bt' l 1).toNat:Int) / 16
 ·rw [if_pos hr] at h
  exact absurd h (by decide)
 rw [if_neg hr] at h ⊢
 split at h
 ·rename_i hh
  rw [if_pos hh]
  have hop:fL l≠-1:=((chk_ok _ _ _ _ _ _).1 hh.1).hop
  have hs:=(tab4 _ (frm_lt hop)).1
  rw [← frm_fm (frm_lt hop)] at hs
  change slo (fL l)=1∨slo (fL l)=2 at hs
  rcases hs with hs|hs
  ·exact⟨1,hs,by omega,by omega,by omega⟩
  ·refine⟨2,hs,by omega,by omega,?_⟩
   have:¬ l.length<16:=fun h=>h16 ⟨hs,h⟩
   omega
 ·exact absurd h (by decide)
theorem sl_from (k o n cap a:Nat) (h:a≤n) (hc:n≤cap) (w:World) :
  (Instr.slice 35 (.slice (some ⟨k,o,none⟩) n cap) (some (.int .i64 (a:Int))) none none).run Tryz.prog w=.ok (.slice (some ⟨k,if cap=a then o else o+a,none⟩) (n-a) (cap-a)) w:=by
 have h2:a≤cap:=by omega
 by_cases hq:cap=a <;> simp [go_sem,Tryz.underlying35,h,hq]
def BsL (n:Nat) (w:World) (v:Value) (l:List UInt8):Prop :=
 ∃ a cap,v=.slice a l.length cap∧l.length≤cap∧cap≤maxLen∧(l=[]∨∃ k o,a=some ⟨k,o,none⟩∧k<n∧Bytes w k o l)
theorem BsL.at {n:Nat} {w:World} {v:Value} {l:List UInt8} (h:BsL n w v l):BsAt w v l:=by
 obtain⟨a,cap,rfl,h1,h2,h3⟩:=h
 refine⟨a,cap,rfl,h1,h2,?_⟩
 rcases h3 with h3|⟨k,o,rfl,_,h3⟩
 ·exact .inl h3
 ·exact .inr ⟨k,o,rfl,h3⟩
theorem BsL.below {n:Nat} {w w':World} {v:Value} {l:List UInt8} (h:BsL n w v l) (hb:Below n w w'):BsL n w' v l:=by
 obtain⟨a,cap,rfl,h1,h2,h3⟩:=h
 refine⟨a,cap,rfl,h1,h2,?_⟩
 rcases h3 with h3|⟨k,o,rfl,hk,h3⟩
 ·exact .inl h3
 ·exact .inr ⟨k,o,rfl,hk,fun j hj=>(hb.cell (p:=⟨k,o+j,none⟩) hk).trans (h3 j hj)⟩
theorem BsAt.low {w:World} {v:Value} {l:List UInt8} (h:BsAt w v l):BsL w.heap.size w v l:=by
 obtain⟨a,cap,rfl,h1,h2,h3⟩:=h
 refine⟨a,cap,rfl,h1,h2,?_⟩
 rcases h3 with h3|⟨k,o,rfl,h3⟩
 ·exact .inl h3
 ·by_cases h0:l=[]
  ·exact .inl h0
  ·have hp:0<l.length:=List.length_pos_iff.2 h0
   exact .inr ⟨k,o,rfl,World.block_lt_of_cell? w _ (h3 0 hp),h3⟩
theorem wid_low {n:Nat} {w w':World} (h:Wid w) (hb:Below n w w') (hn:0<n):Wid w':=by
 obtain⟨t,fr,hw⟩:=h
 exact⟨t,fr,(hb.block _ hn).trans hw⟩
theorem rds_nil (n a:Nat):rds n a []=[]:=by cases n <;> simp [rds]
theorem rds_bad (n a:Nat) (l:List UInt8) (h:l≠[]) (he:(decF l).2.2≠0):rds (n+1) a l=[⟨a,(decF l).1,(decF l).2.2⟩]:=by simp [rds,h,he]
theorem rds_go (n a s:Nat) (l:List UInt8) (h:l≠[]) (he:(decF l).2.2=0) (hs:(decF l).2.1=(s:Int)):rds (n+1) a l=⟨a,(decF l).1,0⟩::rds n (a+s) (l.drop (8*s)):=by simp [rds,h,he,hs]
theorem readings_in (n:Nat) (hn:2≤n) (lp Bn n₀:Nat) (v:Value) (l:List UInt8) (fu:Nat) (hfu:l.length≤fu) (J Jx:List Rdg→World→Prop) (W:World) (hJ:AbidesFrom W.heap.size J)
  (hY:∀ pre x W1,J pre W1→pre.length<(rds fu 0 l).length→YieldAt Fence.wide (n-1) Tryz.prog lp (Rdg.vs x) W1 fun e W' =>
   (e=.returned (.bool true)∧J (pre++[x]) W'∧Below n₀ W1 W')∨(e=.returned (.bool false)∧Jx (pre++[x]) W'))
  (hBn:W.cell? ⟨Bn,0,none⟩=some v) (hv:BsL n₀ W v l) (hn₀:n₀≤W.heap.size) (h0n:0<n₀) (hw:Wid W) (h0:J [] W) :
  CallsIn Fence.wide n Tryz.prog 83 #[.func (.yield lp) #[] #[],.pointer (some ⟨Bn,0,none⟩)] W fun e W'=>(∃ v,e=.returned v) ∧
   ((∃ ys,ys=rds fu 0 l∧J ys W')∨(∃ pre,pre <+: rds fu 0 l∧Jx pre W')):=by
 refine callsIn_of_wp Tryz.func83 rfl trivial ?_ rfl
 simp only [Tryz.ntmps83,List.size_toArray,List.length_cons,List.length_nil,Nat.reduceAdd,Nat.reduceSub,Array.replicate_succ,Array.replicate_zero,List.push_toArray,List.append_toArray,List.nil_append,List.cons_append]
 gi_wp2
 gi_region
 gi_wp2
 have hD:Below W.heap.size W W.drew:=(Below.refl _ _).drew
 have hJD:=hJ _ _ _ none h0 (grown_of_below hD) (fun r e=>by cases e)
 have h1n:1≤n:=by omega
 have hLm:l.length≤9223372036854775807:=by
  obtain⟨a,cap,-,h1,h2,-⟩:=hv
  unfold maxLen at h2
  omega
 gi_loopw [3,4] (fun a r wr=>∃ (pre:List Rdg) (k:Nat) (l':List UInt8) (fu':Nat),a=.int .i64 (k:Int)∧BsL n₀ wr r l'∧Wid wr∧n₀≤wr.heap.size∧Hid (rds fu 0 l=pre++rds fu' k l')∧l'.length≤fu'∧8*k+l'.length=l.length∧J pre wr) (fun a _ _=>l.length-8*(intOf a).toNat)
 case atStart=>exact⟨[],0,l,fu,rfl,hv.below (hD.mono hn₀),wid_below hw hD,hn₀,Lib.hid rfl,hfu,by omega,hJD⟩
 case round =>
  obtain⟨pre,k,l',fu',rfl,hr,hwr,hnr,hR,hf',hk8,hJr⟩:=hrel
  have hra:=hr
  obtain⟨ad,cap,rfl,hc1,hc2,hc3⟩:=hra
  by_cases hl0:l'=[]
  ·subst hl0
   gi_wp2
   go_end0
   exact⟨⟨_,rfl⟩,.inl (by rw [hR.out,rds_nil,List.append_nil];exact hJr)⟩
  ·have hp:0<l'.length:=List.length_pos_iff.2 hl0
   have hDC:=Lib.hid (callsIn_wide (n:=n-1).2 (decode_any _ l' wr hwr hr.at))
   obtain⟨⟨x,sl,er⟩,hd⟩:∃ d,decF l'=d:=⟨_,rfl⟩
   rw [hd] at hDC
   obtain⟨fu1,rfl⟩:∃ q,fu'=q+1:=⟨fu'-1,by omega⟩
   have hlt:pre.length<(rds fu 0 l).length:=by
    rw [hR.out,List.length_append]
    by_cases he:(decF l').2.2=0
    ·obtain⟨q,hq,-⟩:=decF_ok l' he
     rw [rds_go _ _ _ _ hl0 he hq]
     simp
    ·rw [rds_bad _ _ _ hl0 he]
     simp
   have hJn:=Lib.hid (fun (w1:World) (hb:Below wr.heap.size wr w1)=>hJ _ _ _ none hJr (grown_of_below (bch hb (bnew w1 (.cells x.cs 50)))) (fun r e=>by cases e))
   have hYn:=Lib.hid (fun (w1:World) (hb:Below wr.heap.size wr w1)=>hY pre ⟨k,x,er⟩ _ (hJn.out w1 hb) hlt)
   have hN:=Lib.hid (fun (w1:World) (hb:Below wr.heap.size wr w1)=>(bch hb (bnew w1 (.cells x.cs 50))).mono hnr)
   by_cases he:er=0
   ·subst he
    gi_wp2_with (refine⟨trivial,?_⟩;gi_at_call 84;((with_reducible refine (hDC.out).mono ?_);rintro e w1 ⟨rfl,hb1⟩;obtain⟨fn,tmps,assign,body,hy,hYR⟩:=hYn.out w1 hb1))
    obtain⟨s,hs,s1,s2,s8⟩:=decF_ok l' (by rw [hd])
    rw [hd] at hs
    obtain rfl:sl=(s:Int):=hs
    obtain⟨kk,oo,rfl,hkk,hby⟩:∃ kk oo,ad=some ⟨kk,oo,none⟩∧kk<n₀∧Bytes wr kk oo l':=by
     rcases hc3 with h|h
     ·exact absurd h hl0
     ·exact h
    have hpre:rds fu 0 l=(pre++[⟨k,x,0⟩])++rds fu1 (k+s) (l'.drop (8*s)):=by
     rw [hR.out,rds_go fu1 k s l' hl0 (by rw [hd]) (by rw [hd]),hd]
     simp
    refine hYR.mono ?_
    rintro e W3 (⟨rfl,hJ3,hk3⟩|⟨rfl,hJx3⟩)
    ·have hB3:=(hN.out w1 hb1).trans hk3
     have hsl:=sl_from kk oo l'.length cap (8*s) (by omega) hc1
     have e1:((8*s:Nat):Int)=(s:Int)*8:=by omega
     rw [e1] at hsl
     have hnew:BsL n₀ W3 (.slice (some ⟨kk,if cap=8*s then oo else oo+8*s,none⟩) (l'.length-8*s) (cap-8*s)) (l'.drop (8*s)):=by
      refine⟨_,_,by rw [List.length_drop],by rw [List.length_drop];omega,by omega,?_⟩
      by_cases hcap:cap=8*s
      ·exact .inl (List.drop_eq_nil_of_le (by omega))
      ·refine .inr ⟨kk,oo+8*s,by rw [if_neg hcap],hkk,fun j hj=>?_⟩
       rw [List.length_drop] at hj
       have:=hby (8*s+j) (by omega)
       rw [List.getElem_drop,Nat.add_assoc]
       exact (hB3.cell (p:=⟨kk,_,none⟩) hkk).trans this
     have hW3:=wid_low hwr hB3 h0n
     have hz3:n₀≤W3.heap.size:=by have:=hB3.size;omega
     have hP:=Lib.hid hpre
     have hq:l'.length-8*s≤fu1:=by omega
     generalize (if cap=8*s then oo else oo+8*s)=o2 at hsl hnew
     clear hpre hd hR hY hYn hJn hN hYR hby hc3 hr hDC
     gi_wp2
     go_roundw
     case rel=>exact⟨pre++[⟨k,x,0⟩],k+s,l'.drop (8*s),fu1,by go_num,hnew,hW3,hz3,hP,by rw [List.length_drop];exact hq,by rw [List.length_drop];omega,hJ3⟩
     case measure=>simp [intOf];omega
    ·have hP:=Lib.hid hpre
     clear hpre hd hR hY hYn hJn hN hYR hby hc3 hr hDC
     gi_wp2
     refine bodyPost_ret (results_none rfl _ _ _) rfl ?_
     exact⟨⟨_,rfl⟩,.inr ⟨pre++[⟨k,x,0⟩],⟨_,hP.out.symm⟩,hJx3⟩⟩
   ·have hen:(er != 0)=true:=by simpa using he
    have hpre:rds fu 0 l=pre++[⟨k,x,er⟩]:=by
     rw [hR.out,rds_bad fu1 k l' hl0 (by rw [hd];exact he),hd]
    have hP:=Lib.hid hpre
    clear hpre hd hR
    gi_wp2_with (refine⟨trivial,?_⟩;gi_at_call 84;((with_reducible refine (hDC.out).mono ?_);rintro e w1 ⟨rfl,hb1⟩;obtain⟨fn,tmps,assign,body,hy,hYR⟩:=hYn.out w1 hb1))
    refine hYR.mono ?_
    rintro e W3 (⟨rfl,hJ3,hk3⟩|⟨rfl,hJx3⟩)
    ·clear hY hYn hJn hN hYR hc3 hr hDC
     gi_wp2
     refine bodyPost_ret (results_none rfl _ _ _) rfl ?_
     exact⟨⟨_,rfl⟩,.inl ⟨_,hP.out.symm,hJ3⟩⟩
    ·clear hY hYn hJn hN hYR hc3 hr hDC
     gi_wp2
     refine bodyPost_ret (results_none rfl _ _ _) rfl ?_
     exact⟨⟨_,rfl⟩,.inr ⟨pre++[⟨k,x,er⟩],by rw [hP.out];exact List.prefix_refl _,hJx3⟩⟩
end Go.Proofs.YtgljoilddjmohaaGreatDoor.L5
end
section
set_option maxRecDepth 100000
set_option maxHeartbeats 4000000
namespace Go.Proofs.YtgljoilddjmohaaGreatDoor.L5
open Go.RowKit Go.Shelf L3 L1 L4
attribute [local go_sem] Oper.semAt_some
theorem Tryz.info50:(Tryz.prog.info? 50).map (fun i=>(i.zero,i.size,i.bytes))=some (some (.agg #[.int .i64 0,.bool false,.int .i64 0,.int .i64 0,.int .i64 0,.int .i64 0]),6,48):=by kernel_rfl
def la (l:List Rdg):Rdg:=l.getLastD ⟨0,.z,0⟩
theorem la_snoc (l:List Rdg) (x:Rdg):la (l++[x])=x:=by simp [la]
def insC (l:List Rdg):List Value:=l.flatMap fun r=>r.x.cs.toList
theorem insC_snoc (l:List Rdg) (x:Rdg):insC (l++[x])=insC l++x.x.cs.toList:=by simp [insC]
theorem readings_at (v:Value) (a:Option Addr) (n cap:Nat) (hv:v=.slice a n cap) (w:World):Calls Tryz.prog 41 #[v] w fun e w'=>e=.returned (.func (.func 83) #[] #[.pointer (some ⟨w.heap.size,0,none⟩)])∧w'=w.alloc (.cells #[v] 35):=by
 subst hv
 have hmf:(Instr.makeFunc (.func 83) #[] #[.pointer (some ⟨w.heap.size,0,none⟩)]).run Tryz.prog (w.alloc (.cells #[.slice a n cap] 35))=.ok (.func (.func 83) #[] #[.pointer (some ⟨w.heap.size,0,none⟩)]) (w.alloc (.cells #[.slice a n cap] 35)):=by rfl
 go_enter Tryz.func41,Tryz.ntmps41
 go_wp2
 go_ret
 exact⟨rfl,rfl⟩
theorem stops_at (n:Nat) (hn:2≤n) (Bn n₀:Nat) (v:Value) (l:List UInt8) (fu:Nat) (hfu:l.length≤fu) (w:World) (hBn:Bn<w.heap.size) (hn₀:n₀≤w.heap.size) (h0:0<n₀) (hc:w.cell? ⟨Bn,0,none⟩=some v) (hv:BsL n₀ w v l) (hw:Wid w) :
  SeqStopsK Fence.wide n Tryz.prog 83 #[.pointer (some ⟨Bn,0,none⟩)] Rdg.vs (Below n₀) (fun ys=>ys=rds fu 0 l) (fun pre=>pre <+: rds fu 0 l) (rds fu 0 l).length w:=fun lp J Jx W hW hJ _ hY hj =>
 readings_in n hn lp Bn n₀ v l fu hfu J Jx W hJ hY ((hW.cell (p:=⟨Bn,0,none⟩) hBn).trans hc) (hv.below (hW.mono hn₀)) (Nat.le_trans hn₀ hW.size) h0 (wid_below hw hW) hj
theorem cells_own {β:Type} (B:Nat) (t:TypeId) (f:β→Array Value):Own (fun s W=>W.heap[B]?=some (.cells (f s) t)):=fun s X Y row hs hg hrow=>by
 have hs':X.heap[B]?=some (.cells (f s) t):=hs
 exact (hg.block B (lt_of_block hs') (fun e'=>by obtain⟨o,ho,hc⟩:=hrow B e'.symm;rw [hs'] at ho;cases ho;cases hc)).trans hs'
theorem cells7 {w:World} {k:Nat} {a b c d e f g:Value} {t:TypeId} (h:w.heap[k]?=some (.cells #[a,b,c,d,e,f,g] t)) :
  w.cell? ⟨k,0,none⟩=some a∧w.cell? ⟨k,1,none⟩=some b∧w.cell? ⟨k,2,none⟩=some c∧w.cell? ⟨k,3,none⟩=some d∧w.cell? ⟨k,4,none⟩=some e∧w.cell? ⟨k,5,none⟩=some f∧w.cell? ⟨k,6,none⟩=some g:=by
 simp [World.cell?,h]
theorem rds_length:∀ (n a:Nat) (l:List UInt8),(rds n a l).length≤l.length
 | 0,_,_=>by simp [rds]
 | n+1,a,l=>by
  by_cases hl:l=[]
  ·subst hl
   simp [rds]
  have hp:0<l.length:=List.length_pos_iff.2 hl
  by_cases he:(decF l).2.2=0
  ·obtain⟨s,hs,h1,h2,h3⟩:=decF_ok l he
   rw [rds_go n a s l hl he hs]
   have:=rds_length n (a+s) (l.drop (8*s))
   rw [List.length_drop] at this
   simp only [List.length_cons]
   omega
  ·rw [rds_bad n a l hl he]
   simp only [List.length_cons,List.length_nil]
   omega
theorem owns_slice {w:World} {base e:TypeId} {size:Nat} {v:Value} {n:Nat} {xs:List Value} (h:w.ownsRow base e size v n xs):∃ a c,v=.slice a n c:=by
 rcases h.2 with ⟨rfl,rfl⟩|⟨g,cap,cur,rfl,_⟩
 ·exact⟨_,_,rfl⟩
 ·exact⟨_,_,rfl⟩
theorem box_putObj {W:World} {B:Nat} {t:TypeId} {v:Value} (h:Boxed W B t v) {l:Nat} {o:Obj} (o':Obj) (hl:W.heap[l]?=some o) (ho:o.isCells=false):Boxed (W.putObj l o') B t v :=
 h.kept (grownBy_putObj' W l o') (fun e=>by
  cases e
  have h':W.heap[B]?=some (.cells #[v] t (0,0)):=h
  rw [h'] at hl;cases hl;cases ho)
def AllI (w:World) (g:Nat) (pre:List Rdg) (W:World):Prop :=
 ((Boxed W g 28 (.slice none 0 0)∧Boxed W (g+1) 3 (.int .i64 0)∧Boxed W (g+1+1) 29 (.int .i64 0))∧(∀ r∈pre,r.e=0)) ∧
  (∃ v,Boxed W (g+1+1+1) 28 v∧W.ownsRow w.heap.size 50 6 v pre.length (insC pre)∧True)∧Below w.heap.size w W
def AllX (w:World) (g:Nat) (c:Code) (pre:List Rdg) (W:World):Prop :=
 ((c=.ret∧(la pre).e≠0)∧Boxed W g 28 (.slice none 0 0)∧Boxed W (g+1) 3 (.int .i64 ((la pre).at':Int))∧Boxed W (g+1+1) 29 (.int .i64 (la pre).e))∧Below w.heap.size w W
theorem allI_own (w:World) (B:Nat) (hB:w.heap.size≤B):OwnFrom B (AllI w w.heap.size) :=
 OwnFrom.and (OwnFrom.and (OwnFrom.and (Own.from (boxed_own _ _ _) _) (OwnFrom.and (Own.from (boxed_own _ _ _) _) (Own.from (boxed_own _ _ _) _))) (ownFrom_pure _ _))
  (OwnFrom.and (Own.from (holdsRow_own _ _ _ _ _ (fun pre:List Rdg=>pre.length) (fun pre=>insC pre) (fun _ _=>True)) _) (ownFrom_below (Nat.le_refl _) hB))
theorem allX_own (w:World) (B:Nat) (hB:w.heap.size≤B) (c:Code):OwnFrom B (AllX w w.heap.size c) :=
 OwnFrom.and (OwnFrom.and (ownFrom_pure _ _) (OwnFrom.and (Own.from (boxed_own _ _ _) _) (OwnFrom.and (Own.from (boxed_own _ _ (fun pre=>.int .i64 ((la pre).at':Int))) _) (Own.from (boxed_own _ _ (fun pre=>.int .i64 (la pre).e)) _))))
  (ownFrom_below (Nat.le_refl _) hB)
def AllP (w:World) (r:List Rdg) (e:Ending) (w':World):Prop :=
 (((la r).e≠0∧e=.returned (.tuple #[.slice none 0 0,.int .i64 ((la r).at':Int),.int .i64 (la r).e])) ∨
  ((∀ x∈r,x.e=0)∧∃ v,e=.returned (.tuple #[v,.int .i64 0,.int .i64 0])∧w'.ownsRow w.heap.size 50 6 v r.length (insC r)))∧Below w.heap.size w w'
theorem rds_last:∀ (n a:Nat) (l:List UInt8) (p:List Rdg),p <+: rds n a l→(la p).e≠0→p=rds n a l
 | 0,a,l,p,h,he=>by
  simp only [rds,List.prefix_nil] at h
  subst h
  exact absurd rfl he
 | n+1,a,l,p,h,he=>by
  by_cases hl:l=[]
  ·subst hl
   simp only [rds,if_true,List.prefix_nil] at h
   subst h
   exact absurd rfl he
  cases p with
  | nil=>exact absurd rfl he
  | cons x q =>
   by_cases hd:(decF l).2.2=0
   ·obtain⟨s,hs,-⟩:=decF_ok l hd
    rw [rds_go n a s l hl hd hs] at h ⊢
    obtain⟨h1,h2⟩:=List.cons_prefix_cons.1 h
    subst h1
    congr 1
    refine rds_last n _ _ q h2 ?_
    cases q with
    | nil=>exact absurd rfl he
    | cons y r=>simpa [la] using he
   ·rw [rds_bad n a l hl hd] at h ⊢
    obtain⟨h1,h2⟩:=List.cons_prefix_cons.1 h
    subst h1
    rw [List.prefix_nil.1 h2]
theorem all_at (ad:Option Addr) (cap:Nat) (l:List UInt8) (fu:Nat) (hfu:l.length≤fu) (hl:l.length≤100000) (w:World) (hw:Wid w) (hv:BsAt w (.slice ad l.length cap) l) :
  Calls Tryz.prog 19 #[.slice ad l.length cap] w fun e w'=>AllP w (rds fu 0 l) e w':=by
 have hL:=hv.low
 have hw0:0<w.heap.size:=by
  obtain⟨t,fr,hg⟩:=hw
  have:=lt_of_block hg
  omega
 obtain⟨i0,hi,hz0,hz1,hz2⟩:=info_parts Tryz.info50
 refine (callsIn_wide (n:=6)).1 ?_
 refine callsIn_of_wp_marks Tryz.func19 rfl trivial ?_ rfl
 simp only [Tryz.ntmps19,List.size_toArray,List.length_cons,List.length_nil,Nat.reduceAdd,Nat.reduceSub,Array.replicate_succ,Array.replicate_zero,List.push_toArray,List.append_toArray,List.nil_append,List.cons_append]
 gi_wp2_with (refine⟨trivial,?_⟩;gi_at_call 41;refine (callsIn_wide.2 (readings_at _ ad l.length cap rfl _)).mono ?_;rintro e w1 ⟨rfl,rfl⟩)
 have b0:=((((Boxed.new w 28 (.slice none 0 0)).alloc (.cells #[.int .i64 0] 3)).alloc (.cells #[.int .i64 0] 29)).alloc (.cells #[.slice none 0 0] 28)).alloc (.cells #[.slice ad l.length cap] 35)
 have b1:=(((Boxed.new (w.alloc (.cells #[.slice none 0 0] 28)) 3 (.int .i64 0)).alloc (.cells #[.int .i64 0] 29)).alloc (.cells #[.slice none 0 0] 28)).alloc (.cells #[.slice ad l.length cap] 35)
 have b2:=((Boxed.new ((w.alloc (.cells #[.slice none 0 0] 28)).alloc (.cells #[.int .i64 0] 3)) 29 (.int .i64 0)).alloc (.cells #[.slice none 0 0] 28)).alloc (.cells #[.slice ad l.length cap] 35)
 have b3:=(Boxed.new (((w.alloc (.cells #[.slice none 0 0] 28)).alloc (.cells #[.int .i64 0] 3)).alloc (.cells #[.int .i64 0] 29)) 28 (.slice none 0 0)).alloc (.cells #[.slice ad l.length cap] 35)
 have b4:=Boxed.new ((((w.alloc (.cells #[.slice none 0 0] 28)).alloc (.cells #[.int .i64 0] 3)).alloc (.cells #[.int .i64 0] 29)).alloc (.cells #[.slice none 0 0] 28)) 35 (.slice ad l.length cap)
 simp only [World.size_alloc] at b1 b2 b3 b4
 have hB0:Below w.heap.size w (((((w.alloc (.cells #[.slice none 0 0] 28)).alloc (.cells #[.int .i64 0] 3)).alloc (.cells #[.int .i64 0] 29)).alloc (.cells #[.slice none 0 0] 28)).alloc (.cells #[.slice ad l.length cap] 35)) :=
  (((((Below.refl _ w).alloc (Nat.le_refl _) _).alloc (by simp) _).alloc (by simp;omega) _).alloc (by simp;omega) _).alloc (by simp;omega) _
 have hsz:(((((w.alloc (.cells #[.slice none 0 0] 28)).alloc (.cells #[.int .i64 0] 3)).alloc (.cells #[.int .i64 0] 29)).alloc (.cells #[.slice none 0 0] 28)).alloc (.cells #[.slice ad l.length cap] 35)).heap.size=w.heap.size+1+1+1+1+1:=by simp
 obtain⟨W0,hW0⟩:∃ W0,((((w.alloc (.cells #[.slice none 0 0] 28)).alloc (.cells #[.int .i64 0] 3)).alloc (.cells #[.int .i64 0] 29)).alloc (.cells #[.slice none 0 0] 28)).alloc (.cells #[.slice ad l.length cap] 35)=W0:=⟨_,rfl⟩
 rw [hW0] at b0 b1 b2 b3 b4 hB0 hsz
 have HSZ:=Lib.hid hsz
 have hsz1:w.heap.size+1+1+1+1<W0.heap.size:=by omega
 simp only [hW0]
 clear hsz
 clear hW0
 refine wpIn_rangeFunc_ownH rfl (by omega) (gf:=83) (lb:=#[.pointer (some ⟨w.heap.size+1+1+1+1,0,none⟩)]) rfl trivial (enters_of Tryz.func83 (by kernel_rfl) rfl)
  (stops_at _ (by omega) (w.heap.size+1+1+1+1) w.heap.size (.slice ad l.length cap) l fu hfu W0 (by omega) (by omega) hw0 b4.cell (hL.below hB0) (wid_below hw hB0)) belowK_t (belowK_b (by omega)) (Below.refl _ _) (fun _=>rfl)
  (AllI w w.heap.size) (AllX w w.heap.size) (allI_own w _ (by omega)) (allX_own w _ (by omega))
  ⟨⟨⟨b0,b1,b2⟩,fun r hr=>by cases hr⟩,⟨_,b3,World.ownsRow_nil _ _ _ _,trivial⟩,hB0⟩
  (fun x a' W=>∃ Bx,w.heap.size+1+1+1<Bx∧W.heap[Bx]?=some (.cells x.cs 88)∧a'={ tmps:=#[.slice ad l.length cap,undef,.pointer (some ⟨w.heap.size,0,none⟩),.pointer (some ⟨w.heap.size+1,0,none⟩),.pointer (some ⟨w.heap.size+1+1,0,none⟩),.pointer (some ⟨w.heap.size+1+1+1,0,none⟩),.int .i64 (x.at':Int),.pointer (some ⟨Bx,0,none⟩),.slice ad l.length cap,.func (.func 83) #[] #[.pointer (some ⟨w.heap.size+1+1+1+1,0,none⟩)],.int .i64 (x.at':Int),.agg x.cs,undef,undef,undef,undef,undef,undef,undef,undef,undef,undef,undef,undef],defers:=[] })
  (fun x a' _ X Y row hs hg hr=>by obtain⟨Bx,h1,h2,h3⟩:=hs;exact⟨Bx,h1,cells_own Bx 88 (fun (_:Unit)=>x.cs) () X Y row h2 hg (fun r e=>(hr r e).2),h3⟩)
  ?assign ?body ?done ?stop
 case assign =>
  rintro lp pre x W K ⟨⟨⟨c0,c1,c2⟩,hz⟩,⟨vv,c3,hrow,-⟩,hB1⟩ hK
  gi_wp2
  exact hK _ _ ((KeepsOthers.alloc _ _).from _) ((Below.refl _ W).alloc hB1.size _) ⟨⟨⟨c0.alloc _,c1.alloc _,c2.alloc _⟩,hz⟩,⟨vv,c3.alloc _,hrow.alloc _,trivial⟩,hB1.alloc hB1.size _⟩ ⟨W.heap.size,c3.lt,heap_alloc_last _ _,rfl⟩
 case body =>
  rintro lp pre x a' W hlp - ⟨⟨⟨c0,c1,c2⟩,hz⟩,⟨vv,c3,hrow,-⟩,hB1⟩ ⟨Bx,hBx,bX,rfl⟩ hlt
  obtain⟨x0,x1,x2,x3,x4,x5,x6⟩:=cells7 bX
  have d0:=c0.cell
  have d1:=c1.cell
  have d2:=c2.cell
  have d3:=c3.cell
  have f0:=c0.frozen
  have f1:=c1.frozen
  have f2:=c2.frozen
  by_cases he:x.e=0
  ·have heb:(x.e != 0)=false:=by simpa using he
   have hpl:pre.length<100000:=by have:=rds_length fu 0 l;omega
   have hle:w.heap.size≤w.heap.size+1+1+1:=by omega
   gi_wp2_with (gi_at_builtin;refine wpListIn_append_own _ rfl _ _ 28 rfl w.heap.size 50 i0 (.agg #[.int .i64 0,.bool false,.int .i64 0,.int .i64 0,.int .i64 0,.int .i64 0]) 6 48 Tryz.underlying28 hi hz0 hz1 hz2 rfl (by decide) _ _ _ rfl (hrow.alloc _) ⟨W.heap.size,0,none⟩ 1 1 x.x.cs.toList rfl rfl (World.news_of_block (cs:=x.x.cs) (t:=50) (fr:=(0,0)) (heap_alloc_last W _)) (by simp [Value.oneCell']) (by unfold maxLen;omega) (by omega) (by have:=hB1.size;simp;omega) ?_;intro v' w1 hown' hgrow _;obtain⟨g',cap',rfl⟩:=ownsRow_succ hown';obtain⟨hv1,hv2,hr2,hk2,hb2⟩:=c3.appended (by decide) hrow hB1.size hle hown' hgrow;have hc1:=hv1.cell;have hf1:=hv1.frozen)
   refine⟨hk2.from _,hb2,⟨⟨⟨((c0.alloc _).kept hgrow (c0.not_row (by decide) hrow)).other (by omega) _,((c1.alloc _).kept hgrow (c1.not_row (by decide) hrow)).other (by omega) _,((c2.alloc _).kept hgrow (c2.not_row (by decide) hrow)).other (by omega) _⟩,?_⟩,⟨_,hv2,?_,trivial⟩,hB1.trans hb2⟩⟩
   ·intro r hr
    rcases List.mem_append.1 hr with h|h
    ·exact hz r h
    ·rw [List.mem_singleton.1 h];exact he
   ·rw [insC_snoc,List.length_append]
    exact hr2
  ·have heb:(x.e != 0)=true:=by simpa using he
   have hmx:Tryz.prog.follows .mixedOrders=true:=by kernel_rfl
   have hlx:Tryz.prog.follows .lateStores=true:=by kernel_rfl
   gi_wp2
   gi_region_with_o (fail)
   all_goals gi_wp2
   all_goals exact⟨((((KeepsOthers.setCell _ _ _).trans (KeepsOthers.setCell _ _ _)).trans (KeepsOthers.setCell _ _ _)).trans (KeepsOthers.drew _)).from _,
    ⟨⟨⟨rfl,by rw [la_snoc];exact he⟩,((c0.set _).other (by omega) _).other (by omega) _,by rw [la_snoc];exact ((c1.other (by omega) _).set _).other (by omega) _,by rw [la_snoc];exact ((c2.other (by omega) _).other (by omega) _).set _⟩,
     (((hB1.setCell (p:=⟨_,0,none⟩) (Nat.le_refl _) _).setCell (p:=⟨_,0,none⟩) (Nat.le_succ _) _).setCell (p:=⟨_,0,none⟩) (by show w.heap.size≤w.heap.size+1+1;omega) _).drew⟩⟩
 case done =>
  rintro D ys W hD rfl ⟨⟨⟨c0,c1,c2⟩,hz⟩,⟨vv,c3,hrow,-⟩,hB1⟩ hK
  obtain⟨va,vc,rfl⟩:=owns_slice hrow
  have d0:=c0.cell
  have d1:=c1.cell
  have d2:=c2.cell
  have d3:=c3.cell
  have f0:=c0.frozen
  have f1:=c1.frozen
  have f2:=c2.frozen
  gi_wp2
  have e0:=((c0.set (.slice va (rds fu 0 l).length vc)).other (B':=w.heap.size+1) (by omega) (.int .i64 0)).other (B':=w.heap.size+1+1) (by omega) (.int .i64 0)
  have e1:=((c1.other (B':=w.heap.size) (by omega) (.slice va (rds fu 0 l).length vc)).set (.int .i64 0)).other (B':=w.heap.size+1+1) (by omega) (.int .i64 0)
  have e2:=((c2.other (B':=w.heap.size) (by omega) (.slice va (rds fu 0 l).length vc)).other (B':=w.heap.size+1) (by omega) (.int .i64 0)).set (.int .i64 0)
  have hK2:=(((KeepsOthers.setCell W ⟨w.heap.size,0,none⟩ (.slice va (rds fu 0 l).length vc)).trans (KeepsOthers.setCell _ ⟨w.heap.size+1,0,none⟩ (.int .i64 0))).trans (KeepsOthers.setCell _ ⟨w.heap.size+1+1,0,none⟩ (.int .i64 0))).same D _ hK rfl
  have r1:=hrow.kept (grownBy_setCell' W w.heap.size (.slice va (rds fu 0 l).length vc)) (.inr (c0.not_row (by decide) hrow).symm)
  have c1':=c1.other (B':=w.heap.size) (by omega) (.slice va (rds fu 0 l).length vc)
  have r2:=r1.kept (grownBy_setCell' _ (w.heap.size+1) (.int .i64 0)) (.inr (c1'.not_row (by decide) r1).symm)
  have c2':=(c2.other (B':=w.heap.size) (by omega) (.slice va (rds fu 0 l).length vc)).other (B':=w.heap.size+1) (by omega) (.int .i64 0)
  have r3:=r2.kept (grownBy_setCell' _ (w.heap.size+1+1) (.int .i64 0)) (.inr (c2'.not_row (by decide) r2).symm)
  have hBE:=((hB1.setCell (p:=⟨w.heap.size,0,none⟩) (Nat.le_refl _) (.slice va (rds fu 0 l).length vc)).setCell (p:=⟨w.heap.size+1,0,none⟩) (Nat.le_succ _) (.int .i64 0)).setCell (p:=⟨w.heap.size+1+1,0,none⟩) (by show w.heap.size≤w.heap.size+1+1;omega) (.int .i64 0)
  generalize ((W.setCell ⟨w.heap.size,0,none⟩ _).setCell ⟨w.heap.size+1,0,none⟩ _).setCell ⟨w.heap.size+1+1,0,none⟩ _=E at e0 e1 e2 hK2 r3 hBE ⊢
  refine⟨by simp,.inl ⟨_,_,rfl,run_takeDeferred hK2,?_⟩⟩
  have k0:=(box_putObj e0 (.deferred none) hK2 rfl).cell
  have k1:=(box_putObj e1 (.deferred none) hK2 rfl).cell
  have k2:=(box_putObj e2 (.deferred none) hK2 rfl).cell
  exact⟨.tuple #[.slice va (rds fu 0 l).length vc,.int .i64 0,.int .i64 0],by simp [results,Tryz.results19,go_sem,k0,k1,k2],.inr ⟨hz,_,rfl,ownsRow_putObj r3 _ hK2 rfl⟩,hBE.trans (belowK_b (w:=w) (Nat.le_refl _) E D _ _ (by omega) hK2 rfl rfl)⟩
 case stop =>
  rintro D c pre W hD hp ⟨⟨⟨rfl,he⟩,c0,c1,c2⟩,hB1⟩ hK
  gi_wp2
  obtain rfl:=rds_last fu 0 l pre hp he
  refine⟨by simp,.inl ⟨_,_,rfl,run_takeDeferred hK,?_⟩⟩
  have k0:=(box_putObj c0 (.deferred none) hK rfl).cell
  have k1:=(box_putObj c1 (.deferred none) hK rfl).cell
  have k2:=(box_putObj c2 (.deferred none) hK rfl).cell
  exact⟨.tuple #[.slice none 0 0,.int .i64 ((la (rds fu 0 l)).at':Int),.int .i64 (la (rds fu 0 l)).e],by simp [results,Tryz.results19,go_sem,k0,k1,k2],.inl ⟨he,rfl⟩,hB1.trans (belowK_b (w:=w) (Nat.le_refl _) W D _ _ (by omega) hK rfl rfl)⟩
end Go.Proofs.YtgljoilddjmohaaGreatDoor.L5
end
section
namespace Go.Proofs.YtgljoilddjmohaaGreatDoor.L5
open Go.RowKit L3 L1 L4
def insL (l:List Ix):List Value:=l.flatMap fun x=>x.cs.toList
theorem insL_map (r:List Rdg):insC r=insL (r.map fun x=>x.x):=by simp [insC,insL,List.flatMap_map]
theorem insL_at:∀ (l:List Ix) (i:Nat) (h:i<l.length) (m:Nat) (u:Value),l[i].cs[m]?=some u→(insL l)[i*6+m]?=some u
 | x::l,0,_,m,u,hu=>by
  have hm:m<6:=by
   have:=(Array.getElem?_eq_some_iff.1 hu).1
   simpa using this
  simp only [insL,List.flatMap_cons]
  rw [List.getElem?_append_left (by simpa using hm)]
  simpa using hu
 | x::l,i+1,h,m,u,hu=>by
  have:=insL_at l i (by simpa using h) m u (by simpa using hu)
  simp only [insL,List.flatMap_cons]
  rw [List.getElem?_append_right (by simp;omega)]
  have e:(i+1)*6+m-x.cs.toList.length=i*6+m:=by simp;omega
  rw [e]
  exact this
theorem insL_length:∀ l:List Ix,(insL l).length=6*l.length
 | []=>rfl
 | x::l=>by
  have:=insL_length l
  simp only [insL,List.flatMap_cons,List.length_append,List.length_cons] at this ⊢
  rw [this]
  simp
  omega
theorem own_ins {w:World} {base:Nat} {v:Value} {n:Nat} {l:List Ix} (h:w.ownsRow base 50 6 v n (insL l)):InAt w v l:=by
 have hl:l.length=n:=by have:=h.1;rw [insL_length] at this;omega
 subst hl
 rcases h.2 with ⟨rfl,h0⟩|⟨g,cap,cur,rfl,hb,hg,hnc,hcm,hcs,htk⟩
 ·have:l=[]:=List.eq_nil_of_length_eq_zero h0
  subst this
  exact⟨none,0,rfl,.inl rfl⟩
 ·refine⟨_,cap,rfl,.inr ⟨g,0,rfl,fun i hi m u hu=>?_⟩⟩
  have h1:=insL_at l i hi m u hu
  rw [← htk,List.getElem?_take] at h1
  split at h1
  ·rw [Nat.zero_add]
   exact cell_of hg (by simpa using h1)
  ·cases h1
theorem all_ok (v:Value) (l:List UInt8) (r:List Rdg) (n:Nat) (w:World) (hw:Wid w) (hl:l.length≤100000) (hv:BsAt w v l) (hr:rds l.length 0 l=r) (h0:(la r).e=0) (hn:r.length=n) :
  Calls Tryz.prog 19 #[v] w fun e w'=>∃ a c,e=.returned (.tuple #[.slice a n c,.int .i64 0,.int .i64 0])∧InAt w' (.slice a n c) (r.map fun x=>x.x)∧Below w.heap.size w w':=by
 subst hn
 obtain⟨ad,cap,rfl,h1⟩:=hv
 refine (all_at ad cap l l.length (Nat.le_refl _) hl w hw ⟨ad,cap,rfl,h1⟩).mono fun e w' h=>?_
 rw [hr] at h
 obtain⟨h,hb⟩:=h
 rcases h with ⟨h,-⟩|⟨-,v',rfl,ho⟩
 ·exact absurd h0 h
 ·obtain⟨a,c,rfl⟩:=owns_slice ho
  rw [insL_map] at ho
  exact⟨a,c,rfl,own_ins ho,hb⟩
end Go.Proofs.YtgljoilddjmohaaGreatDoor.L5
end
section
namespace Go.Proofs.YtgljoilddjmohaaGreatDoor.L13
open Go.RowKit Go.Shelf L3 L4 L12
open L10 (Stm Pg jmI fmI lbK)
attribute [local go_sem] Oper.semAt_some
theorem in_is {w:World} {v:Value} {l:List L9.Ins} (h:L5.InAt w v (l.map tI)):IsAt w v l:=by
 obtain⟨a,cap,rfl,hc⟩:=h
 rw [List.length_map]
 by_cases h0:l=[]
 ·subst h0
  exact .inr ⟨rfl,a,cap,rfl⟩
 ·obtain⟨k,o,rfl,hI⟩:=hc.resolve_left (by simpa using h0)
  have hp:0<l.length:=List.length_pos_iff.2 h0
  have hc0:=hI 0 (by rw [List.length_map];exact hp) 0 (.int .i64 l[0].op) (by simp [tI])
  refine .inl ⟨k,o,cap,rfl,World.block_lt_of_cell? _ _ hc0,fun j hj i u hu=>?_⟩
  refine hI j (by rw [List.length_map];exact hj) i u ?_
  rw [List.getElem_map]
  simpa [tI,L5.Ix.cs] using hu
end Go.Proofs.YtgljoilddjmohaaGreatDoor.L13
end
section
set_option maxHeartbeats 1000000
namespace Go.Proofs.YtgljoilddjmohaaGreatDoor.L5
open Go.RowKit L3 L1 L4
theorem id_inv:∀ k,k<86→∀ reg:Bool,cdB k reg=true→idF (cdV k reg) (sr k) (of k) (im k) 86 0=((k:Int),reg,true):=by decide +kernel
def kinQ (j k:Nat) (reg:Bool):Bool:=!(regK (cdV j reg) k || cdV j reg==cd k) || ((!(fm k==10 || fm k==11) || !uS (fm j) reg) && ((!(fm k==0 || fm k==2) || !uO (fm j)) && (!(fm k==1 && im k != 0) || !uI (fm j) reg)))
theorem kin0:((List.range 86).all fun j=>(List.range 86).all fun k=>(!cdB j true || kinQ j k true) && (!cdB j false || kinQ j k false))=true:=by decide +kernel
theorem kin1 (j:Nat) (hj:j<86) (reg:Bool) (hr:cdB j reg=true) (k:Nat) (hk:k<86) (hh:(regK (cdV j reg) k || cdV j reg==cd k)=true) :
  ((fm k==10 || fm k==11)=true→uS (fm j) reg=false)∧((fm k==0 || fm k==2)=true→uO (fm j)=false)∧((fm k==1 && im k != 0)=true→uI (fm j) reg=false):=by
 have h:=List.all_eq_true.1 (List.all_eq_true.1 kin0 j (List.mem_range.2 hj)) k (List.mem_range.2 hk)
 have hq:kinQ j k reg=true:=by
  rw [Bool.and_eq_true] at h
  cases reg
  ·simpa [hr] using h.2
  ·simpa [hr] using h.1
 unfold kinQ at hq
 rw [hh] at hq
 simp only [Bool.not_true,Bool.false_or,Bool.and_eq_true,Bool.or_eq_true,Bool.not_eq_true'] at hq
 obtain⟨q1,q2,q3⟩:=hq
 refine⟨fun h=>?_,fun h=>?_,fun h=>?_⟩
 ·rcases q1 with q|q
  ·rw [h] at q;cases q
  ·exact q
 ·rcases q2 with q|q
  ·rw [h] at q;cases q
  ·exact q
 ·rcases q3 with q|q
  ·rw [h] at q;cases q
  ·exact q
theorem idF_same (c s o i s' o' i':Int):∀ n k:Nat,(∀ q,k≤q→q<k+n→hitK c s o i q=hitK c s' o' i' q)→idF c s o i n k=idF c s' o' i' n k
 | 0,_,_=>rfl
 | n+1,k,h=>by
  unfold idF
  rw [h k (Nat.le_refl _) (by omega),idF_same c s o i s' o' i' n (k+1) (fun q h1 h2=>h q (by omega) (by omega))]
theorem id_of {x:Ix} (h0:x.err=0) (I:Int) (hI:uI x.f x.reg=false→I=im (ix x.op)):idF (cdV (ix x.op) x.reg) (x.src+sr (ix x.op)) (x.off+of (ix x.op)) I 86 0=(x.op,x.reg,true):=by
 have hc:=(chk_ok _ _ _ _ _ _).1 h0
 have hj:ix x.op<86:=frm_lt hc.hop
 have hfm:fm (ix x.op)=x.f:=(frm_fm hj).symm
 have hK:cdB (ix x.op) x.reg=true:=by
  unfold cdB
  rw [hfm]
  simpa [hj,isR,Bool.or_assoc] using hc.hreg
 have hop:((ix x.op:Nat):Int)=x.op:=by
  unfold ix at hj ⊢
  split at hj
  ·rw [if_pos (by assumption)];omega
  ·omega
 have h1:=id_inv _ hj x.reg hK
 rw [hop] at h1
 rw [← h1]
 refine idF_same _ _ _ _ _ _ _ 86 0 fun q _ hq=>?_
 unfold hitK
 cases hh:(regK (cdV (ix x.op) x.reg) q || cdV (ix x.op) x.reg==cd q)
 ·simp
 ·obtain⟨k1,k2,k3⟩:=kin1 _ hj x.reg hK q (by omega) hh
  rw [hfm] at k1 k2 k3
  congr 1
  unfold sameK
  have e1:wiR (fm q) (x.src+sr (ix x.op)) (sr q)=wiR (fm q) (sr (ix x.op)) (sr q):=by
   unfold wiR
   cases h:(fm q==10 || fm q==11)
   ·rfl
   ·have:=hc.us.resolve_left (by rw [k1 h];decide)
    simp [this]
  have e2:wiO (fm q) (x.off+of (ix x.op)) (of q)=wiO (fm q) (of (ix x.op)) (of q):=by
   unfold wiO
   cases h:(fm q==0 || fm q==2)
   ·rfl
   ·have:=hc.uo.resolve_left (by rw [k2 h];decide)
    simp [this]
  have e3:wiI (fm q) I (im q)=wiI (fm q) (im (ix x.op)) (im q):=by
   unfold wiI
   cases h:(fm q==1 && im q != 0)
   ·rfl
   ·rw [hI (k3 h)]
  rw [e1,e2,e3]
theorem sx16_two (z:Int) (h0:-32768≤z) (h1:z≤32767):sx 16 (((UInt8.ofNat (z % 256).toNat).toNat:Int)*1+((UInt8.ofNat (z / 256 % 256).toNat).toNat:Int)*256)=z:=by
 rw [byte_nat,byte_nat]
 unfold sx
 simp
 omega
theorem four_sum (z:Int):((UInt8.ofNat (z % 256).toNat).toNat:Int)*1+((UInt8.ofNat (z / 256 % 256).toNat).toNat:Int)*256+((UInt8.ofNat (z / 256 / 256 % 256).toNat).toNat:Int)*65536+((UInt8.ofNat (z / 256 / 256 / 256 % 256).toNat).toNat:Int)*16777216=z % 4294967296:=by
 rw [byte_nat,byte_nat,byte_nat,byte_nat]
 omega
theorem sx32_mod (z:Int):sx 32 (z % 4294967296)=sx 32 z:=by
 unfold sx
 simp
theorem sx32_id (z:Int) (h0:-2147483648≤z) (h1:z≤2147483647):sx 32 z=z:=by
 unfold sx
 simp
 omega
theorem sx32_low (z:Int):sx 32 z % 4294967296=z % 4294967296:=by
 unfold sx
 simp
theorem glue (z:Int):z % 4294967296+z / 4294967296*4294967296=z:=by omega
theorem hi_b (z:Int) (h0:-9223372036854775808≤z) (h1:z≤9223372036854775807):-2147483648≤z / 4294967296∧z / 4294967296≤2147483647:=by omega
theorem good_parts {x:Ix} (h0:x.err=0):ix x.op<86∧0≤cdV (ix x.op) x.reg∧cdV (ix x.op) x.reg≤255∧0≤x.dst∧x.dst≤10∧0≤x.src+sr (ix x.op)∧x.src+sr (ix x.op)≤10∧-32768≤x.off+of (ix x.op)∧x.off+of (ix x.op)≤32767:=by
 have hc:=(chk_ok _ _ _ _ _ _).1 h0
 have hj:ix x.op<86:=frm_lt hc.hop
 have hfm:fm (ix x.op)=x.f:=(frm_fm hj).symm
 have t1:=tab1 _ hj
 have t2:=tab2 _ hj x.reg
 have t3:=tab3 _ hj x.reg
 rw [hfm] at t2
 have gd:=hc.gd
 have gs:=hc.gs
 have ro:=hc.ro
 refine⟨hj,t3.1,t3.2,gd.1,gd.2,by omega,?_,?_,?_⟩
 ·rcases hc.us with h|h
  ·have:=t2.1 h;omega
  ·omega
 ·rcases hc.uo with h|h
  ·have:=t2.2.1 h;omega
  ·omega
 ·rcases hc.uo with h|h
  ·have:=t2.2.1 h;omega
  ·omega
theorem good_imm {x:Ix} (h0:x.err=0) (hs:slo x.f=1):-2147483648≤x.imm+im (ix x.op)∧x.imm+im (ix x.op)≤2147483647:=by
 have hc:=(chk_ok _ _ _ _ _ _).1 h0
 have hj:ix x.op<86:=frm_lt hc.hop
 have hfm:fm (ix x.op)=x.f:=(frm_fm hj).symm
 have t1:=tab1 _ hj
 have t2:=tab2 _ hj x.reg
 rw [hfm] at t2
 rcases hc.ui with h|h
 ·have h2:=t2.2.2 h
  have hr:=hc.ri
  have hF:IsF x.f:=frm_isF x.op
  unfold rng at hr
  by_cases h5:x.f=5
  ·rw [h5] at hr
   simp at hr
   omega
  by_cases h11:x.f=11
  ·rw [h11] at hs
   exact absurd hs (by decide)
  by_cases h10:x.f=10
  ·rw [h10] at hs
   exact absurd hs (by decide)
  ·have e5:(x.f==5)=false:=by simpa using h5
   have e11:(x.f==11)=false:=by simpa using h11
   have e10:(x.f==10)=false:=by simpa using h10
   rw [e5,e11,e10] at hr
   simp only [Bool.false_eq_true,if_false,beq_iff_eq] at hr
   have:=sx32_b x.imm
   omega
 ·omega
theorem dec_enc (x:Ix) (r:List UInt8) (h0:x.err=0) (hf:x.fits):decF (x.bytes++r)=(x,slo x.f,0):=by
 have hc:=(chk_ok _ _ _ _ _ _).1 h0
 obtain⟨hj,c0,c1,d0,d1,s0,s1,o0,o1⟩:=good_parts h0
 have hfm:fm (ix x.op)=x.f:=(frm_fm hj).symm
 have t2:=tab2 _ hj x.reg
 have t4:=tab4 _ hj
 rw [hfm] at t2 t4
 obtain⟨a,ha⟩:∃ a,UInt8.ofNat (cdV (ix x.op) x.reg % 256).toNat=a:=⟨_,rfl⟩
 obtain⟨b,hb⟩:∃ b,UInt8.ofNat ((16*(x.src+sr (ix x.op))+x.dst) % 256).toNat=b:=⟨_,rfl⟩
 have ha':(a.toNat:Int)=cdV (ix x.op) x.reg:=by rw [← ha,byte_nat];omega
 have hb':(b.toNat:Int)=16*(x.src+sr (ix x.op))+x.dst:=by rw [← hb,byte_nat];omega
 obtain⟨q,hq⟩:∃ q,(if slo x.f=2 then 0::0::0::0::le 4 (x.imm / 4294967296) else [])++r=q:=⟨_,rfl⟩
 have hl:x.bytes++r=a::b::(le 2 (x.off+of (ix x.op))++(le 4 (x.imm+im (ix x.op))++q)):=by
  rw [← hq,← ha,← hb]
  unfold Ix.bytes encL
  simp only [List.cons_append,List.append_assoc]
 have hoff:offL (x.bytes++r)=x.off+of (ix x.op):=by
  rw [hl,le2_eq]
  exact sx16_two _ o0 o1
 have himm:immL (x.bytes++r)=sx 32 (x.imm+im (ix x.op)):=by
  rw [hl,le2_eq,le4_eq]
  show sx 32 _=_
  exact (congrArg (sx 32) (four_sum _)).trans (sx32_mod _)
 have hb0:bt' (x.bytes++r) 0=a:=by rw [hl];rfl
 have hb1:bt' (x.bytes++r) 1=b:=by rw [hl];rfl
 have hI:uI x.f x.reg=false→sx 32 (x.imm+im (ix x.op))=im (ix x.op):=by
  intro h
  have:=hc.ui.resolve_left (by rw [h];decide)
  have t1:=tab1 _ hj
  rw [this,Int.zero_add]
  exact sx32_id _ (by omega) (by omega)
 have hid:idL (x.bytes++r)=(x.op,x.reg,true):=by
  unfold idL
  rw [hb0,hb1,hoff,himm,ha',hb']
  have e:(16*(x.src+sr (ix x.op))+x.dst) / 16=x.src+sr (ix x.op):=by omega
  rw [e]
  exact id_of h0 _ hI
 have hfL:fL (x.bytes++r)=x.f:=by unfold fL;rw [hid];rfl
 have hlen:=bytes_length x
 have hn:x.bytes.length=if slo x.f=2 then 16 else 8:=encL_length _ _ _ _ _ _ _
 have hiv:ivL (x.bytes++r)=if uI x.f x.reg then sx 32 (x.imm+im (ix x.op)) else 0:=by unfold ivL;rw [hfL,hid,himm]
 have hrd:rdL (x.bytes++r)=x:=by
  have e1:(if uD x.f then ((b.toNat:Int)) % 16 else 0)=x.dst:=by
   rw [hb']
   rcases hc.ud with h|h
   ·rw [if_pos h];omega
   ·split <;> omega
  have e2:(if uS x.f x.reg then ((b.toNat:Int)) / 16 else 0)=x.src:=by
   rw [hb']
   rcases hc.us with h|h
   ·have:=t2.1 h
    rw [if_pos h];omega
   ·split
    ·rename_i h'
     have:=t2.1 h'
     omega
    ·exact h.symm
  have e3:(if uO x.f then x.off+of (ix x.op) else 0)=x.off:=by
   rcases hc.uo with h|h
   ·have:=t2.2.1 h
    rw [if_pos h];omega
   ·split
    ·rename_i h'
     have:=t2.2.1 h'
     omega
    ·exact h.symm
  have e4:(if slo x.f=2 then bits .or .i64 (wrap64 (ivL (x.bytes++r) % 4294967296)) (hiL (x.bytes++r)*4294967296) else ivL (x.bytes++r))=x.imm:=by
   by_cases hs:slo x.f=2
   ·rw [if_pos hs]
    obtain⟨q1,q2,q3,q4⟩:=t4.2 hs
    have hu:uI x.f x.reg=true:=by cases x.reg <;> assumption
    have hhi:hiL (x.bytes++r)=x.imm / 4294967296:=by
     rw [if_pos hs] at hq
     rw [hl,← hq,le2_eq,le4_eq,le4_eq]
     show sx 32 _=_
     have hbd:=hi_b _ hf.1 hf.2
     exact (congrArg (sx 32) (four_sum _)).trans ((sx32_mod _).trans (sx32_id _ hbd.1 hbd.2))
    have hbd:=hi_b _ hf.1 hf.2
    rw [hiv,if_pos hu,q2,Int.add_zero,sx32_low,hhi,show wrap64 (x.imm % 4294967296)=x.imm % 4294967296 by unfold wrap64;omega,or_hi _ _ (Int.emod_nonneg _ (by decide)) (Int.emod_lt_of_pos _ (by decide)) hbd.1 hbd.2]
    exact glue x.imm
   ·rw [if_neg hs,hiv]
    have hs1:slo x.f=1:=t4.1.resolve_right hs
    have hbd:=good_imm h0 hs1
    rcases hc.ui with h|h
    ·have h2:=t2.2.2 h
     rw [if_pos h,sx32_id _ hbd.1 hbd.2];omega
    ·split
     ·rename_i h'
      have h2:=t2.2.2 h'
      rw [sx32_id _ hbd.1 hbd.2];omega
     ·exact h.symm
  unfold rdL
  rw [hfL,hid,hb1,hoff,e1,e2,e3,e4]
 unfold decF
 rw [if_neg (by rw [List.length_append,hn];split <;> omega),hid,hfL,hrd,hb1,hb']
 rw [if_neg (by simp),if_neg (by rw [List.length_append,hn];intro h;rw [if_pos h.1] at h;omega),if_neg (by omega)]
 have hpre:(x.bytes++r).take x.bytes.length=x.bytes:=by rw [List.take_left'];rfl
 rw [if_pos ⟨h0,hpre⟩]
end Go.Proofs.YtgljoilddjmohaaGreatDoor.L5
end
section
namespace Go.Proofs.YtgljoilddjmohaaGreatDoor.L5
open Go.RowKit L3 L1 L4
theorem joinB_cons (x:Ix) (q:List Ix):joinB (x::q)=x.bytes++joinB q:=rfl
theorem la_cons' (x y:Rdg) (q:List Rdg):la (x::y::q)=la (y::q):=rfl
theorem rds_enc:∀ (xs:List Ix) (n a:Nat),(joinB xs).length≤n→(∀ x∈xs,x.err=0)→(∀ x∈xs,x.fits)→(rds n a (joinB xs)).map (fun r=>r.x)=xs∧(la (rds n a (joinB xs))).e=0
 | [],n,a,_,_,_=>by
  have:joinB []=[]:=rfl
  rw [this,rds_nil]
  exact⟨rfl,rfl⟩
 | x::q,n,a,hn,h0,hf=>by
  obtain⟨s,hs,hl,h1,h2⟩:=bytes_slots x (h0 x (by simp))
  rw [joinB_cons] at hn ⊢
  rw [List.length_append] at hn
  obtain⟨n',rfl⟩:∃ n',n=n'+1:=⟨n-1,by omega⟩
  have hd:=dec_enc x (joinB q) (h0 x (by simp)) (hf x (by simp))
  have hne:x.bytes++joinB q≠[]:=by
   intro h
   have:=congrArg List.length h
   rw [List.length_append,List.length_nil] at this
   omega
  rw [rds_go n' a s _ hne (by rw [hd]) (by rw [hd];exact hs),hd]
  have hdr:(x.bytes++joinB q).drop (8*s)=joinB q:=by rw [← hl,List.drop_left]
  rw [hdr]
  obtain⟨i1,i2⟩:=rds_enc q n' (a+s) (by omega) (fun y hy=>h0 y (by simp [hy])) (fun y hy=>hf y (by simp [hy]))
  refine⟨by rw [List.map_cons,i1],?_⟩
  cases hq:rds n' (a+s) (joinB q) with
  | nil=>rfl
  | cons y r=>rw [la_cons',← hq];exact i2
end Go.Proofs.YtgljoilddjmohaaGreatDoor.L5
end
