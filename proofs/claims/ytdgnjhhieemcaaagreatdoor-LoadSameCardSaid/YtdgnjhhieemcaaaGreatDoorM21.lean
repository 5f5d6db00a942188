/- Lemmas and walks of L12Sta, L12Dis, L12Cod, L12Ref: what each theorem states; conditions stand in each theorem. -/
import Derived.Test.YtdgnjhhieemcaaaGreatDoorM20
set_option maxHeartbeats 4000000
set_option maxRecDepth 100000
section
namespace Go.Proofs.YtdgnjhhieemcaaaGreatDoor.L12
open Go.RowKit Go.Shelf L3 L4
attribute [local go_sem] Oper.semAt_some
theorem infoInt:(Tryz.prog.info? 3).map (fun i=>(i.zero,i.size,i.bytes))=some (some (.int .i64 0),1,8):=by kernel_rfl
theorem Boxed.below {W W':World} {B:Nat} {t:TypeId} {v:Value} (h:Boxed W B t v) (hb:Below W.heap.size W W'):Boxed W' B t v:=(hb.block B h.lt).trans h
theorem KI.row {W W':World} {base e:TypeId} {size:Nat} {v:Value} {n:Nat} {xs:List Value} (hr:W.ownsRow base e size v n xs) (he:e≠45) (hg:W.grownBy W' v.ownBlock):KI W W':=fun i cs fr h=>by
 refine (hg.block i (lt_of_block h) (fun eq=>?_)).trans h
 rcases hr.2 with ⟨rfl,_⟩|⟨g,cap,cur,rfl,_,hh,_⟩
 ·simp [Value.ownBlock] at eq
 ·obtain rfl:i=g:=by simpa [Value.ownBlock] using eq
  rw [h] at hh
  simp only [Option.some.injEq,Obj.cells.injEq] at hh
  exact he hh.2.1.symm
theorem cells_own {β:Type} (B:Nat) (t:TypeId) (f:β→Array Value):Own (fun s W=>W.heap[B]?=some (.cells (f s) t)):=fun s X Y row hs hg hrow=>by
 have hs':X.heap[B]?=some (.cells (f s) t):=hs
 exact (hg.block B (lt_of_block hs') (fun e'=>by obtain⟨o,ho,hc⟩:=hrow B e'.symm;rw [hs'] at ho;cases ho;cases hc)).trans hs'
theorem owns_slice {w:World} {base e:TypeId} {size:Nat} {v:Value} {n:Nat} {xs:List Value} (h:w.ownsRow base e size v n xs):∃ a c,v=.slice a n c:=by
 rcases h.2 with ⟨rfl,rfl⟩|⟨g,cap,cur,rfl,_⟩
 ·exact⟨_,_,rfl⟩
 ·exact⟨_,_,rfl⟩
theorem own_weak {w:World} {base base' e:TypeId} {size:Nat} {v:Value} {n:Nat} {xs:List Value} (h:w.ownsRow base e size v n xs) (hb:base'≤base):w.ownsRow base' e size v n xs:=by
 refine⟨h.1,?_⟩
 rcases h.2 with h|⟨g,cap,cur,hv,hg,r⟩
 ·exact .inl h
 ·exact .inr ⟨g,cap,cur,hv,Nat.le_trans hb hg,r⟩
theorem own_off {w:World} {base e:TypeId} {size:Nat} {v:Value} {n:Nat} {xs:List Value} (h:w.ownsRow base e size v n xs) {k:Nat} (hk:k<base):some k≠v.ownBlock:=by
 rcases h.2 with ⟨rfl,_⟩|⟨g,cap,cur,rfl,hg,_⟩
 ·simp [Value.ownBlock]
 ·simp [Value.ownBlock];omega
def stC (l:List Sl):List Value:=l.map fun r=>.int .i64 (r.a:Int)
def ttN (l:List Sl):Nat:=(l.getLast?.map fun r=>r.a+slN r.x).getD 0
theorem stC_snoc (l:List Sl) (x:Sl):stC (l++[x])=stC l++[.int .i64 (x.a:Int)]:=by simp [stC]
theorem ttN_snoc (l:List Sl) (x:Sl):ttN (l++[x])=x.a+slN x.x:=by simp [ttN]
theorem stC_all (l:List L9.Ins) (h:l.length≤1000000):stC (sls 0 l)=(stL 0 l).map fun (a:Nat)=>Value.int .i64 (a:Int):=by
 refine List.ext_getElem? fun i=>?_
 unfold stC
 rw [List.getElem?_map,List.getElem?_map]
 by_cases hi:i<l.length
 ·rw [sls_get l 0 i hi,stL_get l 0 i hi]
  have:=stN_le l i
  simp only [Option.map_some,Sl.a]
  rw [Nat.min_eq_left (by omega)]
 ·rw [List.getElem?_eq_none (by rw [sls_len];omega),List.getElem?_eq_none (by rw [stL_len];omega)]
  rfl
theorem ttN_all (l:List L9.Ins) (h:l.length≤1000000):ttN (sls 0 l)=smN l:=by
 by_cases h0:l=[]
 ·subst h0;rfl
 ·have hp:0<l.length:=List.length_pos_iff.2 h0
  obtain⟨m,hm⟩:∃ m,l.length=m+1:=⟨l.length-1,by omega⟩
  have e:=sls_step l m (by omega)
  rw [List.take_of_length_le (by rw [sls_len,hm];exact Nat.le_refl _)] at e
  have:=stN_le l m
  have hs:=stN_all l
  rw [hm,stN_succ l m (by omega)] at hs
  rw [e,ttN_snoc,← hs]
  simp only [Sl.a]
  rw [Nat.min_eq_left (by omega)]
def StI (w:World) (g:Nat) (pre:List Sl) (W:World):Prop :=
 Boxed W (g+1) 3 (.int .i64 (ttN pre:Int))∧(∃ v,Boxed W g 101 v∧W.ownsRow (w.heap.size+1+1+1) 3 1 v pre.length (stC pre)∧True)∧Below w.heap.size w W
theorem stI_own (w:World) (B:Nat) (hB:w.heap.size≤B):OwnFrom B (StI w w.heap.size) :=
 OwnFrom.and (Own.from (boxed_own _ _ (fun pre=>.int .i64 (ttN pre:Int))) _) (OwnFrom.and (Own.from (holdsRow_own _ _ _ _ _ (fun pre:List Sl=>pre.length) (fun pre=>stC pre) (fun _ _=>True)) _) (ownFrom_below (Nat.le_refl _) hB))
def StP (w:World) (l:List L9.Ins) (e:Ending) (w':World):Prop :=
 (∃ v,e=.returned (.tuple #[v,.int .i64 (smN l:Int)])∧w'.ownsRow w.heap.size 3 1 v l.length ((stL 0 l).map fun (a:Nat)=>Value.int .i64 (a:Int)))∧Below w.heap.size w w'
theorem starts_at (v:Value) (l:List L9.Ins) (hl:l.length≤1000000) (w:World) (hv:IsAt w v l) :
  Calls Tryz.prog 61 #[v] w fun e w'=>StP w l e w':=by
 obtain⟨n,hn⟩:∃ n,l.length=n:=⟨_,rfl⟩
 have hL:=hv.low
 obtain⟨ad,cap,rfl,-⟩:=is_form hn hv
 clear hv
 obtain⟨i0,hi,hz0,hz1,hz2⟩:=info_parts infoInt
 refine (callsIn_wide (n:=6)).1 ?_
 refine callsIn_of_wp_marks Tryz.func61 rfl trivial ?_ rfl
 simp only [Tryz.ntmps61,List.size_toArray,List.length_cons,List.length_nil,Nat.reduceAdd,Nat.reduceSub,Array.replicate_succ,Array.replicate_zero,List.push_toArray,List.append_toArray,List.nil_append,List.cons_append]
 gi_wp2_with (refine⟨trivial,?_⟩;gi_at_call 105;refine (callsIn_wide.2 (slots_fn ad n cap _)).mono ?_;rintro e w1 ⟨rfl,rfl⟩)
 have b0:=(((Boxed.new w 101 (.slice none 0 0)).alloc (.cells #[.int .i64 0] 3)).alloc (.cells #[.slice ad n cap] 29))
 have b1:=((Boxed.new (w.alloc (.cells #[.slice none 0 0] 101)) 3 (.int .i64 0)).alloc (.cells #[.slice ad n cap] 29))
 have b2:=Boxed.new ((w.alloc (.cells #[.slice none 0 0] 101)).alloc (.cells #[.int .i64 0] 3)) 29 (.slice ad n cap)
 simp only [World.size_alloc] at b1 b2
 have hB0:Below w.heap.size w (((w.alloc (.cells #[.slice none 0 0] 101)).alloc (.cells #[.int .i64 0] 3)).alloc (.cells #[.slice ad n cap] 29)) :=
  (((Below.refl _ w).alloc (Nat.le_refl _) _).alloc (by simp) _).alloc (by simp;omega) _
 have hsz:(((w.alloc (.cells #[.slice none 0 0] 101)).alloc (.cells #[.int .i64 0] 3)).alloc (.cells #[.slice ad n cap] 29)).heap.size=w.heap.size+1+1+1:=by simp
 obtain⟨W0,hW0⟩:∃ W0,((w.alloc (.cells #[.slice none 0 0] 101)).alloc (.cells #[.int .i64 0] 3)).alloc (.cells #[.slice ad n cap] 29)=W0:=⟨_,rfl⟩
 rw [hW0] at b0 b1 b2 hB0 hsz
 have HSZ:=Lib.hid hsz
 have hsz1:w.heap.size+1+1<W0.heap.size:=by omega
 simp only [hW0]
 clear hsz
 clear hW0
 refine wpIn_rangeFunc_ownH rfl (by omega) (gf:=147) (lb:=#[.pointer (some ⟨w.heap.size+1+1,0,none⟩)]) rfl trivial (enters_of Tryz.func147 (by kernel_rfl) rfl)
  (stops_at _ (by omega) (w.heap.size+1+1) w.heap.size (.slice ad n cap) l hl W0 (by omega) (by omega) b2.cell (hL.below hB0)) (fun h k=>Kq.t h k) (fun W l o o' h1 h2 h3 h4=>Kq.b (w:=W0) (by omega) W l o o' h1 h2 h3 h4) (Below.refl _ _) (fun _=>rfl)
  (StI w w.heap.size) (fun _ _ _=>False) (stI_own w _ (by omega)) (fun _=>ownFrom_pure _ _)
  ⟨b1,⟨_,b0,World.ownsRow_nil _ _ _ _,trivial⟩,hB0⟩
  (fun x a' W=>∃ Bx,w.heap.size+1<Bx∧W.heap[Bx]?=some (.cells (xcs x.x) 45)∧a'={ tmps:=#[.slice ad n cap,undef,.slice none 0 0,.int .i64 0,.pointer (some ⟨w.heap.size,0,none⟩),.pointer (some ⟨w.heap.size+1,0,none⟩),.int .i64 (x.a:Int),.pointer (some ⟨Bx,0,none⟩),.slice ad n cap,.func (.func 147) #[] #[.pointer (some ⟨w.heap.size+1+1,0,none⟩)],.int .i64 (x.a:Int),.agg (xcs x.x),undef,undef,undef,undef,undef,undef,undef,undef,undef],defers:=[] })
  (fun x a' _ X Y row hs hg hr=>by obtain⟨Bx,h1,h2,h3⟩:=hs;exact⟨Bx,h1,cells_own Bx 45 (fun (_:Unit)=>xcs x.x) () X Y row h2 hg (fun r e=>(hr r e).2),h3⟩)
  ?assign ?body ?done ?stop
 case assign =>
  rintro lp pre x W K ⟨c1,⟨vv,c0,hrow,-⟩,hB1⟩ hK
  gi_wp2
  exact hK _ _ ((KeepsOthers.alloc _ _).from _) ⟨(Below.refl _ W).alloc hB1.size _,KI.below (L8.bnew _ _)⟩ ⟨c1.alloc _,⟨vv,c0.alloc _,hrow.alloc _,trivial⟩,hB1.alloc hB1.size _⟩ ⟨W.heap.size,c1.lt,heap_alloc_last _ _,rfl⟩
 case body =>
  rintro lp pre x a' W hlp ⟨lr,hlr⟩ ⟨c1,⟨vv,c0,hrow,-⟩,hB1⟩ ⟨Bx,hBx,bX,rfl⟩ hlt
  rw [sls_len,hn] at hlt
  have d0:=c0.cell
  have f0:=c0.frozen
  have hpl:pre.length<1000000:=by omega
  have hsz:=hB1.size
  have hlz:w.heap.size+1+1+1≤W.heap.size:=by have:=lt_of_block hlr;have:=HSZ.out;omega
  have hBe:=Lib.hid (fun W=>callsIn_wide (n:=3).2 (behind_at x.a x.x _ W (by unfold Sl.a;omega) rfl))
  have x0:=six_new bX
  obtain⟨y0,y1,y2,y3,y4,y5⟩:=x0
  obtain⟨sa,xx⟩:=x
  obtain⟨op,reg,dst,src,off,imm⟩:=xx
  generalize hsa:Sl.a _=s at *
  simp only [Nat.zero_add] at y1 y2 y3 y4 y5
  gi_wp2_with (first|(gi_at_builtin;refine wpListIn_append_own _ rfl _ _ 101 rfl (w.heap.size+1+1+1) 3 i0 (.int .i64 0) 1 8 Tryz.underlying101 hi hz0 hz1 hz2 rfl (by decide) _ _ _ rfl (hrow.alloc _) ⟨W.heap.size,0,none⟩ 1 1 [.int .i64 (s:Int)] rfl rfl (World.news_of_block (cs:=#[.int .i64 (s:Int)]) (t:=3) (fr:=(0,0)) (heap_alloc_last W _)) (by simp [Value.oneCell']) (by unfold maxLen;omega) (by omega) (by simp;omega) ?_;intro v' w1 hown' hgrow _;obtain⟨g',cap',rfl⟩:=ownsRow_succ hown';obtain⟨hv1,hv2,-,hk2,hb2⟩:=c0.appended (by decide) (own_weak hrow (by omega:w.heap.size≤w.heap.size+1+1+1)) hB1.size (Nat.le_refl _) (own_weak hown' (by omega:w.heap.size≤w.heap.size+1+1+1)) hgrow;have hc1:=hv1.cell;have hf1:=hv1.frozen;have hki:=((KI.below (L8.bnew W (.cells #[.int .i64 (s:Int)] 3))).trans (KI.row (hrow.alloc _) (by decide) hgrow)).trans (KI.set hv1 (by decide) (.slice (some ⟨g',0,none⟩) (pre.length+1) cap'));obtain⟨z0,z1,z2,z3,z4,z5⟩:=six_new (hki _ _ _ bX);simp only [Nat.zero_add] at z1 z2 z3 z4 z5)|(refine⟨trivial,?_⟩;(refine (CallsIn.inRound lp (hBe.out _)).mono ?_;rintro e w4 ⟨rfl,b4⟩;have c1w:=Boxed.below ((((c1.alloc (.cells #[.int .i64 (s:Int)] 3)).kept hgrow (own_off hrow (by omega))).other (B':=w.heap.size) (by omega) (.slice (some ⟨g',0,none⟩) (pre.length+1) cap'))) b4;have hc2:=c1w.cell;have hf2:=c1w.frozen)))
  have e1:((ttN (pre++[⟨sa,⟨op,reg,dst,src,off,imm⟩⟩]):Nat):Int)=(s:Int)+(slN ⟨op,reg,dst,src,off,imm⟩:Int):=by rw [ttN_snoc,hsa];exact Int.natCast_add _ _
  have e2:=stC_snoc pre ⟨sa,⟨op,reg,dst,src,off,imm⟩⟩
  rw [hsa] at e2
  have hBB:=(hb2.trans (b4.mono (Nat.le_trans hsz hb2.size))).setCell (p:=⟨w.heap.size+1,0,none⟩) (Nat.le_succ _) (.int .i64 ((s:Int)+(slN ⟨op,reg,dst,src,off,imm⟩:Int)))
  have r1:=hown'.kept (grownBy_setCell' w1 w.heap.size (.slice (some ⟨g',0,none⟩) (pre.length+1) cap')) (.inr (own_off hown' (by omega)).symm)
  have r2:=L8.own_below r1 b4
  have r3:=r2.kept (grownBy_setCell' w4 (w.heap.size+1) (.int .i64 ((s:Int)+(slN ⟨op,reg,dst,src,off,imm⟩:Int)))) (.inr (own_off r2 (by omega)).symm)
  refine⟨((hk2.trans (keeps_below b4)).trans (KeepsOthers.setCell _ _ _)).from _,⟨hBB,(hki.trans (KI.below b4)).trans (KI.set c1w (by decide) _)⟩,?_,⟨_,(Boxed.below hv2 b4).other (by omega) _,?_,trivial⟩,hB1.trans hBB⟩
  ·rw [e1];exact c1w.set _
  ·rw [e2,List.length_append];exact r3
 case done =>
  rintro D ys W hD rfl ⟨c1,⟨vv,c0,hrow,-⟩,hB1⟩ hK
  obtain⟨va,vc,rfl⟩:=owns_slice hrow
  have d0:=c0.cell
  have d1:=c1.cell
  have hmx:Tryz.prog.follows .mixedOrders=true:=by kernel_rfl
  have hlx:Tryz.prog.follows .lateStores=true:=by kernel_rfl
  gi_wp2
  gi_quiet (fail)
  gi_wp2
  have hD0:Below W.heap.size W (W.drewN nq):=below_drewN (Below.refl _ _) nq
  have hKD:=(hD0.block D (lt_of_block hK)).trans hK
  refine⟨by simp,.inl ⟨_,_,rfl,run_takeDeferred hKD,?_⟩⟩
  refine⟨.tuple #[.slice va (sls 0 l).length vc,.int .i64 (ttN (sls 0 l):Int)],by simp [results,Tryz.results61,go_sem],⟨_,by rw [ttN_all l hl],?_⟩,?_⟩
  ·have:=own_weak (ownsRow_putObj (L8.own_below hrow hD0) (.deferred none) hKD rfl) (by omega:w.heap.size≤w.heap.size+1+1+1)
   rw [stC_all l hl,sls_len] at this
   rw [sls_len]
   exact this
  ·exact (hB1.trans (hD0.mono hB1.size)).trans (belowK_b (w:=w) (Nat.le_refl _) (W.drewN nq) D _ _ (by have:=HSZ.out;omega) hKD rfl rfl)
 case stop =>
  rintro D c pre W hD hp h hK
  exact absurd h (by simp)
theorem own_nums {W:World} {B e:TypeId} {v:Value} {xs:List Nat} (h:W.ownsRow B e 1 v xs.length (xs.map fun (a:Nat)=>Value.int .i64 (a:Int))):L10.InAt W v (xs.map fun (a:Nat)=>(a:Int)):=by
 rcases h.2 with ⟨rfl,h0⟩|⟨g,cap,cur,rfl,_,hh,_⟩
 ·exact .inr ⟨by rw [List.eq_nil_of_length_eq_zero h0];rfl,none,0,rfl⟩
 ·refine .inl ⟨g,0,cap,by rw [List.length_map],lt_of_block hh,fun k hk=>?_⟩
  rw [List.length_map] at hk
  have:=h.cells (g:=g) rfl k (.int .i64 ((xs[k]:Nat):Int)) (by simp [List.getElem?_eq_getElem hk])
  rw [Nat.zero_add,List.getElem_map]
  rwa [L8.add0] at this
theorem starts_is (v:Value) (l:List L9.Ins) (n:Nat) (hn:l.length=n) (hl:n≤1000000) (w:World) (hv:IsAt w v l) :
  Calls Tryz.prog 61 #[v] w fun e w'=>(∃ a c,e=.returned (.tuple #[.slice a n c,.int .i64 (smN l:Int)])∧L10.InAt w' (.slice a n c) ((stL 0 l).map fun (a:Nat)=>(a:Int)))∧Below w.heap.size w w':=by
 refine (starts_at v l (by omega) w hv).mono fun e w' h=>?_
 obtain⟨⟨u,rfl,hr⟩,hb⟩:=h
 rw [← stL_len l 0] at hr
 obtain⟨a,c,rfl⟩:=owns_slice hr
 have hi:=own_nums hr
 rw [stL_len,hn] at hi
 exact⟨⟨a,c,by rw [stL_len,hn],hi⟩,hb⟩
theorem st_cell {w:World} {a:Option Addr} {l:List L9.Ins} {n c i:Nat} (hn:l.length=n) (h:L10.InAt w (.slice a n c) ((stL 0 l).map fun (a:Nat)=>(a:Int))) (hi:i<n):∃ b o,a=some ⟨b,o,none⟩∧b<w.heap.size∧∀ j,j<n→w.cell? ⟨b,o+j,none⟩=some (.int .i64 (stN l j:Int)):=by
 obtain⟨a',c',hv,hc⟩:=L10.in_form (n:=n) (by rw [List.length_map,stL_len,hn]) h
 cases hv
 obtain⟨b,o,rfl,hb,hx⟩:=hc (by omega)
 refine⟨b,o,rfl,hb,fun j hj=>?_⟩
 have:=hx j (by rw [List.length_map,stL_len,hn];exact hj)
 rw [List.getElem_map] at this
 have e:=stL_get l 0 j (by omega)
 rw [List.getElem?_eq_getElem (by rw [stL_len];omega),Option.some.injEq,Nat.zero_add] at e
 rwa [e] at this
theorem cell_up {w w':World} {p:Addr} {v:Value} (hb:Below w.heap.size w w') (h:w.cell? p=some v):w'.cell? p=some v:=(hb.cell (World.block_lt_of_cell? _ _ h)).trans h
theorem infoIns:(Tryz.prog.info? 45).map (fun i=>(i.zero,i.size,i.bytes))=some (some (.agg #[.int .i64 0,.bool false,.int .i64 0,.int .i64 0,.int .i64 0,.int .i64 0]),6,48):=by kernel_rfl
def cdL (l:List L10.Stm):List L9.Ins:=l.map fun s=>s.x
def inC (l:List L9.Ins):List Value:=l.flatMap L10.inL
theorem inC_snoc (l:List L9.Ins) (x:L9.Ins):inC (l++[x])=inC l++L10.inL x:=by simp [inC]
theorem cdL_snoc (l:List L10.Stm) (k:Nat) (h:k<l.length):cdL (l.take (k+1))=cdL (l.take k)++[l[k].x]:=by
 unfold cdL
 rw [List.take_add_one,List.getElem?_eq_getElem h,Option.toList,List.map_append]
 rfl
theorem cdL_len (l:List L10.Stm):(cdL l).length=l.length:=by simp [cdL]
theorem cdL_get (l:List L10.Stm) (k:Nat) (h:k<l.length):(cdL l)[k]'(by rw [cdL_len];exact h)=l[k].x:=by simp [cdL]
theorem inC_get:∀ (l:List L9.Ins) (j:Nat) (h:j<l.length) (i:Nat) (u:Value),(L10.inL l[j])[i]?=some u→(inC l)[j*6+i]?=some u
 | x::r,0,_,i,u,hu=>by
  have hu:(L10.inL x)[i]?=some u:=hu
  have hi:=(List.getElem?_eq_some_iff.1 hu).1
  simp only [inC,List.flatMap_cons,Nat.zero_mul,Nat.zero_add]
  rw [List.getElem?_append_left hi]
  exact hu
 | x::r,j+1,h,i,u,hu=>by
  have:=inC_get r j (by simpa using h) i u (by simpa using hu)
  simp only [inC,List.flatMap_cons] at this ⊢
  rw [List.getElem?_append_right (by simp;omega)]
  rw [show (j+1)*6+i-(L10.inL x).length=j*6+i by simp;omega]
  exact this
theorem own_ins {W:World} {B e:TypeId} {v:Value} {xs:List L9.Ins} {n:Nat} (hn:xs.length=n) (h:W.ownsRow B e 6 v n (inC xs)):IsAt W v xs:=by
 subst hn
 rcases h.2 with ⟨rfl,h0⟩|⟨g,cap,cur,rfl,_,hh,_⟩
 ·exact .inr ⟨List.eq_nil_of_length_eq_zero h0,none,0,rfl⟩
 ·refine .inl ⟨g,0,cap,rfl,lt_of_block hh,fun j hj i u hu=>?_⟩
  have:=h.cells (g:=g) rfl (j*6+i) u (inC_get xs j hj i u hu)
  rw [Nat.zero_add]
  rwa [L8.add0] at this
theorem cl9 {w:World} {k:Nat} {a b c d e f g i j:Value} {t:TypeId} (hh:w.heap[k]?=some (.cells #[a,b,c,d,e,f,g,i,j] t)) :
  w.cell? ⟨k,0,none⟩=some a∧w.cell? ⟨k,1,none⟩=some b∧w.cell? ⟨k,2,none⟩=some c∧w.cell? ⟨k,3,none⟩=some d∧w.cell? ⟨k,4,none⟩=some e∧w.cell? ⟨k,5,none⟩=some f∧w.cell? ⟨k,6,none⟩=some g∧w.cell? ⟨k,7,none⟩=some i∧w.cell? ⟨k,8,none⟩=some j:=by
 simp [World.cell?,hh]
def CoO (w:World) (p:L10.Pg) (e:Ending) (w':World):Prop:=∃ a c,e=.returned (.slice a p.stmts.length c)∧w'.ownsRow w.heap.size 45 6 (.slice a p.stmts.length c) p.stmts.length (inC (cdL p.stmts))∧Below w.heap.size w w'
def CoP (w:World) (p:L10.Pg) (e:Ending) (w':World):Prop:=∃ a c,e=.returned (.slice a p.stmts.length c)∧IsAt w' (.slice a p.stmts.length c) (cdL p.stmts)∧Below w.heap.size w w'
theorem code_own (vm vs:Value) (p:L10.Pg) (w:World) (hp:L10.PgAt w vm vs p) (hs:L10.Sml p) :
  Calls Tryz.prog 132 #[.agg #[vm,vs]] w fun e w'=>CoO w p e w':=by
 obtain⟨i0,hi,hz0,hz1,hz2⟩:=info_parts infoIns
 obtain⟨n1,hn1⟩:∃ n,p.maps.length=n:=⟨_,rfl⟩
 obtain⟨n2,hn2⟩:∃ n,p.stmts.length=n:=⟨_,rfl⟩
 obtain⟨a1,c1,rfl,-⟩:=L10.df_form hn1 hp.1
 obtain⟨a2,c2,rfl,hc⟩:=L10.sm_form hn2 hp.2
 have hm2:=hs.stmts
 rw [hn2] at hm2
 have HC:=Lib.hid hc
 have HN:=Lib.hid hn2
 have HB:=Lib.hid (L8.bnew w (.cells #[.slice a1 n1 c1,.slice a2 n2 c2] 58))
 have K0:=Lib.hid (heap_alloc_last w (.cells #[.slice a1 n1 c1,.slice a2 n2 c2] 58))
 unfold CoO
 rw [hn2]
 clear hp hs hn1 hn2 hc
 go_enter Tryz.func132,Tryz.ntmps132
 go_upto_region 1 with (fail)
 have x1:=(L10.cells2p K0.out).2
 have hlt1:=World.block_lt_of_cell? _ _ x1
 simp only at hlt1
 generalize w.alloc (.cells #[.slice a1 n1 c1,.slice a2 n2 c2] 58)=W0 at K0 x1 hlt1 HB ⊢
 have HI:Hid (W0.ownsRow W0.heap.size 45 6 (.slice none 0 0) 0 (inC (cdL (p.stmts.take 0)))∧Below W0.heap.size W0 W0):=Lib.hid ⟨World.ownsRow_nil _ _ _ _,Below.refl _ _⟩
 go_wp2
 go_loopw [3,9] (fun vn i wr=>∃ k:Nat,k≤n2∧i=.int .i64 (k:Int)∧Hid (wr.ownsRow W0.heap.size 45 6 vn k (inC (cdL (p.stmts.take k)))∧Below W0.heap.size W0 wr)) (fun _ i _=>n2-(intOf i).toNat)
 case atStart=>exact⟨0,Nat.zero_le _,rfl,HI⟩
 case round =>
  obtain⟨k,hk,rfl,hI⟩:=hrel
  clear HI x1 hlt1
  by_cases hlt:k<n2
  ·have hkl:k<p.stmts.length:=by rw [HN.out];exact hlt
   obtain⟨b,o,rfl,hbl,hc⟩:=HC.out (by omega)
   obtain⟨lv,hst,hx⟩:=hc k hkl
   have hBw:=L2.bch HB.out hI.out.2
   have up:∀ i u,(L10.smL lv p.stmts[k])[i]?=some u→wr.cell? ⟨b,o+k*9+i,none⟩=some u:=fun i u hu=>(hBw.cell (by exact hbl)).trans (hx i u hu)
   have hsn:=cdL_snoc p.stmts k hkl
   obtain⟨s,hs⟩:∃ s,p.stmts[k]=s:=⟨_,rfl⟩
   rw [hs] at hst up hsn
   obtain⟨ln,hln⟩:∃ ln,s.labs.length=ln:=⟨_,rfl⟩
   obtain⟨la,lc,rfl,-⟩:=L10.st_form hln hst
   obtain⟨labs,⟨op,reg,dst,src,off,imm⟩,tg,mp⟩:=s
   have y0:=up 0 _ rfl
   have y1:=up 1 _ rfl
   have y2:=up 2 _ rfl
   have y3:=up 3 _ rfl
   have y4:=up 4 _ rfl
   have y5:=up 5 _ rfl
   have y6:=up 6 _ rfl
   have y7:=up 7 _ rfl
   have y8:=up 8 _ rfl
   rw [Nat.add_zero] at y0
   have hw1:=World.block_lt_of_cell? _ _ y0
   simp only at hw1
   have HSN:=Lib.hid hsn
   have HBl:=Lib.hid hI.out.2
   have hown:=hI.out.1
   have hszW:=HBl.out.size
   have hkI:(k:Int)<(n2:Int):=by omega
   clear hx hc hst hs hln up hsn hI hBw
   go_upto_region 5 with (fail)
   have hx:=heap_alloc_last wr (.cells #[.slice la ln lc,.int .i64 op,.bool reg,.int .i64 dst,.int .i64 src,.int .i64 off,.int .i64 imm,.string tg,.string mp] 65)
   have B1:=L2.bch HBl.out (L8.bnew wr (.cells #[.slice la ln lc,.int .i64 op,.bool reg,.int .i64 dst,.int .i64 src,.int .i64 off,.int .i64 imm,.string tg,.string mp] 65))
   have hown1:=L8.own_below hown (L8.bnew wr (.cells #[.slice la ln lc,.int .i64 op,.bool reg,.int .i64 dst,.int .i64 src,.int .i64 off,.int .i64 imm,.string tg,.string mp] 65))
   obtain⟨g,hg⟩:∃ g,g=wr.heap.size:=⟨_,rfl⟩
   rw [← hg] at hx ⊢
   generalize wr.alloc (.cells _ 65)=W1 at hx B1 hown1 ⊢
   clear hg hown
   obtain⟨z0,z1,z2,z3,z4,z5,z6,z7,z8⟩:=cl9 hx
   have hs1:=B1.size
   go_wp2_with (at_builtin;refine wpList_append_own _ rfl _ _ 29 rfl W0.heap.size 45 i0 (.agg #[.int .i64 0,.bool false,.int .i64 0,.int .i64 0,.int .i64 0,.int .i64 0]) 6 48 Tryz.underlying29 hi hz0 hz1 hz2 rfl (by decide) _ k _ rfl (hown1.alloc _) ⟨W1.heap.size,0,none⟩ 1 1 [.int .i64 op,.bool reg,.int .i64 dst,.int .i64 src,.int .i64 off,.int .i64 imm] rfl rfl (World.news_of_block (cs:=#[.int .i64 op,.bool reg,.int .i64 dst,.int .i64 src,.int .i64 off,.int .i64 imm]) (t:=45) (fr:=(0,0)) (heap_alloc_last W1 _)) (by simp [Value.oneCell']) (by unfold maxLen;omega) (by omega) (by simp;omega) ?_;intro v' w3 hown3 hgrow3 _)
   go_roundw
   case rel =>
    refine⟨k+1,by omega,by go_num,Lib.hid ⟨?_,?_⟩⟩
    ·rw [HSN.out,inC_snoc];exact hown3
    ·exact (B1.alloc hs1 _).grown hgrow3 (by simp;omega) (L8.own_base hown1)
   case measure=>simp [intOf];omega
  ·obtain rfl:k=n2:=by omega
   have hJ:=hI.out
   rw [List.take_of_length_le (by rw [HN.out];exact Nat.le_refl _)] at hJ
   obtain⟨va,vc,rfl⟩:=owns_slice hJ.1
   have HJ2:=Lib.hid hJ
   clear hI hJ
   go_wp2
   go_ret
   exact⟨_,_,rfl,own_weak HJ2.out.1 HB.out.size,L2.bch HB.out HJ2.out.2⟩
theorem code_at (vm vs:Value) (p:L10.Pg) (w:World) (hp:L10.PgAt w vm vs p) (hs:L10.Sml p) :
  Calls Tryz.prog 132 #[.agg #[vm,vs]] w fun e w'=>CoP w p e w' :=
 (code_own vm vs p w hp hs).mono fun _ _ ⟨a,c,he,ho,hb⟩=>⟨a,c,he,own_ins (by rw [cdL_len]) ho,hb⟩
theorem infoR:(Tryz.prog.info? 76).map (fun i=>(i.zero,i.size,i.bytes))=some (some (.agg #[.int .i64 0,.int .i64 0]),2,16):=by kernel_rfl
def rlL (r:Nat × Int):List Value:=[.int .i64 (r.1:Int),.int .i64 r.2]
def rlC (l:List (Nat × Int)):List Value:=l.flatMap rlL
theorem rlC_snoc (l:List (Nat × Int)) (a:Nat) (b:Int):rlC (l++[(a,b)])=rlC l++[.int .i64 (a:Int),.int .i64 b]:=by simp [rlC,rlL]
def rfT (p:L10.Pg) (k:Nat):List (Nat × Int):=rfL p.maps 0 (p.stmts.take k)
theorem rfL_app (ms:List L9.Df):∀ (l:List L10.Stm) (a:Nat) (s:L10.Stm),rfL ms a (l++[s])=rfL ms a l++(if frm (ix s.x.op)=11∧0≤L10.mpI 0 ms s.mp then [(a+smN (cdL l),L10.mpI 0 ms s.mp)] else [])
 | [],a,s=>by simp [rfL,smN,cdL]
 | x::r,a,s=>by
  rw [List.cons_append,rfL,rfL_app ms r (a+slN x.x) s,rfL,List.append_assoc]
  simp [smN,cdL,Nat.add_assoc]
theorem rfT_snoc (p:L10.Pg) (k:Nat) (h:k<p.stmts.length):rfT p (k+1)=rfT p k++(if frm (ix p.stmts[k].x.op)=11∧0≤L10.mpI 0 p.maps p.stmts[k].mp then [(stN (cdL p.stmts) k,L10.mpI 0 p.maps p.stmts[k].mp)] else []):=by
 unfold rfT
 rw [List.take_add_one,List.getElem?_eq_getElem h,Option.toList,rfL_app,Nat.zero_add]
 unfold stN cdL
 rw [List.map_take]
theorem cl4 {w:World} {k:Nat} {a b c d:Value} {t:TypeId} (hh:w.heap[k]?=some (.cells #[a,b,c,d] t)):w.cell? ⟨k,0,none⟩=some a∧w.cell? ⟨k,1,none⟩=some b∧w.cell? ⟨k,2,none⟩=some c∧w.cell? ⟨k,3,none⟩=some d:=by
 simp [World.cell?,hh]
def RfP (w:World) (p:L10.Pg) (e:Ending) (w':World):Prop:=∃ v,e=.returned v∧w'.ownsRow w.heap.size 76 2 v (rfT p p.stmts.length).length (rlC (rfT p p.stmts.length))∧Below w.heap.size w w'
theorem refs_at (vm vs:Value) (p:L10.Pg) (w:World) (hp:L10.PgAt w vm vs p) (hs:L10.Sml p) :
  Calls Tryz.prog 97 #[.agg #[vm,vs]] w fun e w'=>RfP w p e w':=by
 obtain⟨i0,hi,hz0,hz1,hz2⟩:=info_parts infoR
 obtain⟨n1,hn1⟩:∃ n,p.maps.length=n:=⟨_,rfl⟩
 obtain⟨n2,hn2⟩:∃ n,p.stmts.length=n:=⟨_,rfl⟩
 have hp1:=hp.1
 have hp2:=hp.2
 obtain⟨a1,c1,rfl,hd⟩:=L10.df_form4 hn1 hp1
 obtain⟨a2,c2,rfl,hc⟩:=L10.sm_form hn2 hp2
 have hm1:=hs.maps
 have hm2:=hs.stmts
 rw [hn1] at hm1
 rw [hn2] at hm2
 have HC:=Lib.hid hc
 have HD:=Lib.hid hd
 have HN:=Lib.hid hn2
 have HM:=Lib.hid hn1
 have HB:=Lib.hid (L8.bnew w (.cells #[.slice a1 n1 c1,.slice a2 n2 c2] 58))
 have K0:=Lib.hid (heap_alloc_last w (.cells #[.slice a1 n1 c1,.slice a2 n2 c2] 58))
 have HCo:=Lib.hid (fun (W:World) (hb:Below w.heap.size w W)=>code_at (.slice a1 n1 c1) (.slice a2 n2 c2) p W (hp.below hb) hs)
 unfold CoP at HCo
 rw [hn2] at HCo
 have HSt:=Lib.hid (fun (W:World) (v:Value) (hi:IsAt W v (cdL p.stmts))=>starts_is v (cdL p.stmts) n2 (by rw [cdL_len];exact hn2) (by omega) W hi)
 obtain⟨S,hS⟩:∃ S,smN (cdL p.stmts)=S:=⟨_,rfl⟩
 rw [hS] at HSt
 unfold RfP
 rw [hn2]
 clear hp hp1 hp2 hs hn1 hn2 hc hd hS
 go_enter Tryz.func97,Tryz.ntmps97
 go_upto_region 1 with (fail)
 have x1:=L10.cells2p K0.out
 obtain⟨x1,x2⟩:=x1
 have hlt1:=World.block_lt_of_cell? _ _ x1
 simp only at hlt1
 obtain⟨kb,hkb⟩:∃ kb,w.heap.size=kb:=⟨_,rfl⟩
 have HKB:=Lib.hid hkb
 rw [hkb] at K0 x1 x2 hlt1 ⊢
 clear hkb
 generalize w.alloc (.cells #[.slice a1 n1 c1,.slice a2 n2 c2] 58)=W0 at K0 x1 x2 hlt1 HB ⊢
 go_step3
 go_wp2_with (first|(go_at_call 132;((with_reducible refine (HCo.out _ HB.out).mono ?_);rintro e w1 ⟨ca,cc,rfl,hci,b1⟩))|(go_at_call 61;((with_reducible refine (HSt.out _ _ hci).mono ?_);rintro e w2 ⟨⟨sa,sc,rfl,hsi⟩,b2⟩;have B2:=L2.bch b1 b2;obtain⟨u1,u2⟩:=L10.cells2p (L8.row_up K0.out B2);have hlt2:kb<w2.heap.size:=World.block_lt_of_cell? _ _ u1)))
 have HB2:=Lib.hid (L2.bch HB.out B2)
 have K2:=Lib.hid (L8.row_up K0.out B2)
 have HSI:=Lib.hid hsi
 clear x1 x2 hlt1 hci hsi b1 b2 B2 K0
 have HI:Hid (w2.ownsRow w2.heap.size 76 2 (.slice none 0 0) 0 (rlC (rfT p 0))∧Below w2.heap.size w2 w2∧(rfT p 0).length=0):=Lib.hid ⟨World.ownsRow_nil _ _ _ _,Below.refl _ _,rfl⟩
 go_step3
 go_wp2
 go_loopg [3,19] n2 (fun gh vn i wr=>∃ k m:Nat,k+gh=n2∧m≤k∧i=.int .i64 (k:Int)∧Hid (wr.ownsRow w2.heap.size 76 2 vn m (rlC (rfT p k))∧Below w2.heap.size w2 wr∧(rfT p k).length=m))
 case atStart=>exact⟨0,0,by omega,Nat.le_refl _,rfl,HI⟩
 case round =>
  obtain⟨k,m,hk,hmk,rfl,hI⟩:=hrel
  clear HI u1 u2 hlt2
  obtain⟨x1,x2⟩:=L10.cells2p (L8.row_up K2.out hI.out.2.1)
  have hlt1:=World.block_lt_of_cell? _ _ x1
  simp only at hlt1
  cases gk with
  | succ gh =>
   have hlt:k<n2:=by omega
   have hkl:k<p.stmts.length:=by rw [HN.out];exact hlt
   obtain⟨b,o,rfl,hbl,hc⟩:=HC.out (by omega)
   obtain⟨lv,hst,hx⟩:=hc k hkl
   have hBw:=L2.bch HB2.out hI.out.2.1
   have up:∀ i u,(L10.smL lv p.stmts[k])[i]?=some u→wr.cell? ⟨b,o+k*9+i,none⟩=some u:=fun i u hu=>(hBw.cell (by exact hbl)).trans (hx i u hu)
   have hsn:=rfT_snoc p k hkl
   obtain⟨s,hs⟩:∃ s,p.stmts[k]=s:=⟨_,rfl⟩
   rw [hs] at hst up hsn
   obtain⟨ln,hln⟩:∃ ln,s.labs.length=ln:=⟨_,rfl⟩
   obtain⟨la,lc,rfl,-⟩:=L10.st_form hln hst
   obtain⟨labs,⟨op,reg,dst,src,off,imm⟩,tg,mp⟩:=s
   have y0:=up 0 _ rfl
   have y1:=up 1 _ rfl
   have y2:=up 2 _ rfl
   have y3:=up 3 _ rfl
   have y4:=up 4 _ rfl
   have y5:=up 5 _ rfl
   have y6:=up 6 _ rfl
   have y7:=up 7 _ rfl
   have y8:=up 8 _ rfl
   rw [Nat.add_zero] at y0
   have hw1:=World.block_lt_of_cell? _ _ y0
   simp only at hw1
   simp only at hsn
   obtain⟨sb,so,rfl,hsb,hcl⟩:=st_cell (l:=cdL p.stmts) (by rw [cdL_len];exact HN.out) HSI.out hlt
   have HSL:=Lib.hid (hcl k hlt)
   have hkI:(k:Int)<(n2:Int):=by omega
   have HBl:=Lib.hid hI.out.2.1
   have hown:=hI.out.1
   have HLn:=Lib.hid hI.out.2.2
   have hszW:=HBl.out.size
   clear hx hc hst hs hln up hI hBw hcl
   go_upto_region 6 with (fail)
   have hx:=heap_alloc_last wr (.cells #[.slice la ln lc,.int .i64 op,.bool reg,.int .i64 dst,.int .i64 src,.int .i64 off,.int .i64 imm,.string tg,.string mp] 65)
   have B1:=L2.bch HBl.out (L8.bnew wr (.cells #[.slice la ln lc,.int .i64 op,.bool reg,.int .i64 dst,.int .i64 src,.int .i64 off,.int .i64 imm,.string tg,.string mp] 65))
   have hown1:=L8.own_below hown (L8.bnew wr (.cells #[.slice la ln lc,.int .i64 op,.bool reg,.int .i64 dst,.int .i64 src,.int .i64 off,.int .i64 imm,.string tg,.string mp] 65))
   obtain⟨g,hg⟩:∃ g,g=wr.heap.size:=⟨_,rfl⟩
   rw [← hg] at hx ⊢
   generalize wr.alloc (.cells _ 65)=W1 at hx B1 hown1 ⊢
   clear hg hown x1 x2 hlt1 y0 y1 y2 y3 y4 y5 y6 y7 y8 hw1 hszW HBl
   obtain⟨z0,z1,z2,z3,z4,z5,z6,z7,z8⟩:=cl9 hx
   have HF:=Lib.hid (fun W=>form_at op _ W rfl)
   obtain⟨f,hf⟩:∃ f,frm (ix op)=f:=⟨_,rfl⟩
   rw [hf] at HF hsn
   by_cases hfe:f=11
   ·subst hfe
    have HX1:=Lib.hid (And.intro hown1 B1)
    obtain⟨R,hR⟩:∃ R,L10.mpI 0 p.maps mp=R:=⟨_,rfl⟩
    rw [hR] at hsn
    obtain⟨st,hst⟩:∃ st,stN (cdL p.stmts) k=st:=⟨_,rfl⟩
    rw [hst] at hsn HSL
    have HSN:=Lib.hid hsn
    have hV:Hid (L10.mpI 0 (p.maps.drop 0) mp=R):=Lib.hid hR
    have K1:=Lib.hid (L8.row_up K2.out B1)
    have HXc:=Lib.hid hx
    clear hsn hf hown1 B1 hR hst
    go_wp2_with (go_at_call 62;((with_reducible refine (HF.out _).mono ?_);rintro e w3 ⟨rfl,b3⟩;obtain⟨u1,u2⟩:=L10.cells2p (L8.row_up K1.out b3);have hlt3:kb<w3.heap.size:=World.block_lt_of_cell? _ _ u1))
    have HB3:=Lib.hid b3
    clear z0 z1 z2 z3 z4 z5 z6 z7 z8 hx b3
    go_loopg [3,32] n1 (fun gi v3 i wi=>∃ j:Nat,j+gi=n1∧u3=v3∧i=.int .i64 (j:Int)∧Hid (L10.mpI j (p.maps.drop j) mp=R∧Below w3.heap.size w3 wi))
    case atStart=>exact⟨0,by omega,rfl,rfl,Lib.hid ⟨hV.out,Below.refl _ _⟩⟩
    case round =>
     obtain⟨j,hj,rfl,rfl,hT⟩:=hrel
     clear hV u1 u2 hlt3
     cases gk with
     | zero =>
      obtain rfl:j=n1:=by omega
      have hr:=hT.out.1
      rw [List.drop_eq_nil_of_le (by rw [HM.out];exact Nat.le_refl _),L10.mpI] at hr
      subst hr
      have hsn:=HSN.out
      rw [if_neg (fun h=>absurd h.2 (by decide)),List.append_nil] at hsn
      have HSN2:=Lib.hid hsn
      have B4:=Lib.hid (L2.bch HB3.out hT.out.2)
      clear hsn hT
      go_wp2
      go_roundg gh
      case measure=>omega
      case rel =>
       refine⟨k+1,m,by omega,by omega,by go_num,Lib.hid ⟨?_,L2.bch HX1.out.2 B4.out,?_⟩⟩
       ·rw [HSN2.out];exact L8.own_below HX1.out.1 B4.out
       ·rw [HSN2.out];exact HLn.out
     | succ gi =>
      have hjn:j<n1:=by omega
      have hjl:j<p.maps.length:=by rw [HM.out];exact hjn
      obtain⟨db,do',rfl,hdb,hdc⟩:=HD.out (by omega)
      have B4:=L2.bch HB3.out hT.out.2
      have B5:=L2.bch HX1.out.2 B4
      have B6:=L2.bch HB2.out B5
      obtain⟨y0,y1,y2,y3⟩:=hdc j hjl
      have y0:=cell_up B6 y0
      have y1:=cell_up B6 y1
      have y2:=cell_up B6 y2
      have y3:=cell_up B6 y3
      have hw1:=World.block_lt_of_cell? _ _ y0
      simp only at hw1
      have hst:=hT.out.1
      rw [List.drop_eq_getElem_cons hjl,L10.mpI] at hst
      have hcx:=L8.row_up HXc.out B4
      have hcs:=cell_up B5 HSL.out
      have hown4:=L8.own_below HX1.out.1 B4
      have HB5:=Lib.hid B5
      have hjI:(j:Int)<(n1:Int):=by omega
      generalize p.maps[j]=d at y0 y1 y2 y3 hst
      obtain⟨nm,key,val,ent⟩:=d
      simp only at hst
      have HST:=Lib.hid hst
      have HTB:=Lib.hid hT.out.2
      have HB4:=Lib.hid B4
      clear hdc B4 B5 B6 hT hst
      go_upto_region 10 with (fail)
      have hx4:=heap_alloc_last wr (.cells #[.string nm,.int .i64 key,.int .i64 val,.int .i64 ent] 83)
      have bn:=L8.bnew wr (.cells #[.string nm,.int .i64 key,.int .i64 val,.int .i64 ent] 83)
      have hcx4:=L8.row_up hcx bn
      have hcs4:=cell_up bn hcs
      have hown5:=L8.own_below hown4 bn
      have HB7:=Lib.hid (L2.bch HB5.out bn)
      have HBN:=Lib.hid bn
      obtain⟨g4,hg4⟩:∃ g4,g4=wr.heap.size:=⟨_,rfl⟩
      rw [← hg4] at hx4 ⊢
      generalize wr.alloc (.cells _ 83)=W4 at hx4 hcx4 hcs4 hown5 HB7 HBN bn ⊢
      clear hg4 bn hcx hcs hown4 y0 y1 y2 y3 hw1
      obtain⟨v0,v1,v2,v3⟩:=cl4 hx4
      obtain⟨z0,z1,z2,z3,z4,z5,z6,z7,z8⟩:=cl9 hcx4
      have hsW:=HB7.out.size
      by_cases he:nm=mp
      ·subst he
       have ht:(nm.toList==nm.toList)=true:=by simp
       have hr:=HST.out
       rw [if_pos rfl] at hr
       subst hr
       have hsn:=HSN.out
       rw [if_pos ⟨by trivial,by omega⟩] at hsn
       have HSN2:=Lib.hid hsn
       clear hsn HST HTB HSN
       go_wp2_with (at_builtin;refine wpList_append_own _ rfl _ _ 24 rfl w2.heap.size 76 i0 (.agg #[.int .i64 0,.int .i64 0]) 2 16 Tryz.underlying24 hi hz0 hz1 hz2 rfl (by decide) _ m _ rfl (hown5.alloc _) ⟨W4.heap.size,0,none⟩ 1 1 [.int .i64 (st:Int),.int .i64 (j:Int)] rfl rfl (World.news_of_block (cs:=#[.int .i64 (st:Int),.int .i64 (j:Int)]) (t:=76) (fr:=(0,0)) (heap_alloc_last W4 _)) (by simp [Value.oneCell']) (by unfold maxLen;omega) (by omega) (by simp;omega) ?_;intro v' w5 hown6 hgrow6 _)
       go_roundg gh
       case measure=>omega
       case rel =>
        refine⟨k+1,m+1,by omega,by omega,by go_num,Lib.hid ⟨?_,?_,?_⟩⟩
        ·rw [HSN2.out,rlC_snoc];exact hown6
        ·exact (HB7.out.alloc hsW _).grown hgrow6 (by simp;omega) (L8.own_base hown5)
        ·rw [HSN2.out,List.length_append,HLn.out];rfl
      ·have ht:(nm.toList==mp.toList)=false:=L2.txt_ne he
       have hr:=HST.out
       rw [if_neg he] at hr
       have HT2:=Lib.hid (And.intro hr (L2.bch HTB.out HBN.out))
       clear he hr HST HTB
       go_wp2
       go_roundg gi
       case measure=>omega
       case rel=>exact⟨j+1,by omega,rfl,by go_num,HT2⟩
   ·have hfe2:(f != 11)=true:=by simpa using hfe
    rw [if_neg (fun h=>hfe h.1),List.append_nil] at hsn
    have HSN:=Lib.hid hsn
    have HX1:=Lib.hid (And.intro hown1 B1)
    clear hsn hf hown1 B1
    go_wp2_with (go_at_call 62;((with_reducible refine (HF.out _).mono ?_);rintro e w3 ⟨rfl,b3⟩))
    go_roundg gh
    case measure=>omega
    case rel =>
     refine⟨k+1,m,by omega,by omega,by go_num,Lib.hid ⟨?_,L2.bch HX1.out.2 b3,?_⟩⟩
     ·rw [HSN.out];exact L8.own_below HX1.out.1 b3
     ·rw [HSN.out];exact HLn.out
  | zero =>
   obtain rfl:k=n2:=by omega
   have hJ:=hI.out
   obtain⟨va,vc,rfl⟩:=owns_slice hJ.1
   have HJ2:=Lib.hid hJ
   clear hI hJ
   go_wp2
   try rw [Exit.noGoto_ret]
   go_ret
   have hJ:=HJ2.out
   refine⟨_,rfl,?_,L2.bch HB2.out hJ.2.1⟩
   rw [hJ.2.2]
   exact own_weak hJ.1 (by have:=HB2.out.size;have:=HKB.out;omega)
end Go.Proofs.YtdgnjhhieemcaaaGreatDoor.L12
end
