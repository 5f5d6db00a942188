/- What All returns, for up to 100000 bytes: the instructions, or the error. Condition: the table of widths reads as laid. -/
import Derived.Test.YtdgnjhhieemcaaaGreatDoorM4
set_option maxRecDepth 100000
set_option maxHeartbeats 4000000
namespace Go.Proofs.YtdgnjhhieemcaaaGreatDoor.L5
open Go.RowKit Go.Shelf L3 L1 L4
attribute [local go_sem] Oper.semAt_some
theorem Tryz.info45:(Tryz.prog.info? 45).map (fun i=>(i.zero,i.size,i.bytes))=some (some (.agg #[.int .i64 0,.bool false,.int .i64 0,.int .i64 0,.int .i64 0,.int .i64 0]),6,48):=by kernel_rfl
def la (l:List Rdg):Rdg:=l.getLastD ⟨0,.z,0⟩
theorem la_snoc (l:List Rdg) (x:Rdg):la (l++[x])=x:=by simp [la]
def insC (l:List Rdg):List Value:=l.flatMap fun r=>r.x.cs.toList
theorem insC_snoc (l:List Rdg) (x:Rdg):insC (l++[x])=insC l++x.x.cs.toList:=by simp [insC]
theorem readings_at (v:Value) (a:Option Addr) (n cap:Nat) (hv:v=.slice a n cap) (w:World):Calls Tryz.prog 198 #[v] w fun e w'=>e=.returned (.func (.func 232) #[] #[.pointer (some ⟨w.heap.size,0,none⟩)])∧w'=w.alloc (.cells #[v] 23):=by
 subst hv
 have hmf:(Instr.makeFunc (.func 232) #[] #[.pointer (some ⟨w.heap.size,0,none⟩)]).run Tryz.prog (w.alloc (.cells #[.slice a n cap] 23))=.ok (.func (.func 232) #[] #[.pointer (some ⟨w.heap.size,0,none⟩)]) (w.alloc (.cells #[.slice a n cap] 23)):=by rfl
 go_enter Tryz.func198,Tryz.ntmps198
 go_wp2
 go_ret
 exact⟨rfl,rfl⟩
theorem stops_at (n:Nat) (hn:2≤n) (Bn n₀:Nat) (v:Value) (l:List UInt8) (fu:Nat) (hfu:l.length≤fu) (w:World) (hBn:Bn<w.heap.size) (hn₀:n₀≤w.heap.size) (h0:0<n₀) (hc:w.cell? ⟨Bn,0,none⟩=some v) (hv:BsL n₀ w v l) (hw:Wid w) :
  SeqStopsK Fence.wide n Tryz.prog 232 #[.pointer (some ⟨Bn,0,none⟩)] Rdg.vs (Below n₀) (fun ys=>ys=rds fu 0 l) (fun pre=>pre <+: rds fu 0 l) (rds fu 0 l).length w:=fun lp J Jx W hW hJ _ hY hj =>
 readings_in n hn lp Bn n₀ v l fu hfu J Jx W hJ hY ((hW.cell (p:=⟨Bn,0,none⟩) hBn).trans hc) (hv.below (hW.mono hn₀)) (Nat.le_trans hn₀ hW.size) h0 (wid_below hw hW) hj
theorem cells_own {β:Type} (B:Nat) (t:TypeId) (f:β→Array Value):Own (fun s W=>W.heap[B]?=some (.cells (f s) t)):=fun s X Y row hs hg hrow=>by
 have hs':X.heap[B]?=some (.cells (f s) t):=hs
 exact (hg.block B (lt_of_block hs') (fun e'=>by obtain⟨o,ho,hc⟩:=hrow B e'.symm;rw [hs'] at ho;cases ho;cases hc)).trans hs'
theorem cells7 {w:World} {k:Nat} {a b c d e f g:Value} {t:TypeId} (h:w.heap[k]?=some (.cells #[a,b,c,d,e,f,g] t)) :
  w.cell? ⟨k,0,none⟩=some a∧w.cell? ⟨k,1,none⟩=some b∧w.cell? ⟨k,2,none⟩=some c∧w.cell? ⟨k,3,none⟩=some d∧w.cell? ⟨k,4,none⟩=some e∧w.cell? ⟨k,5,none⟩=some f∧w.cell? ⟨k,6,none⟩=some g:=by
 simp [World.cell?,h]
theorem rds_length:∀ (n a:Nat) (l:List UInt8),(rds n a l).length≤l.length
 | 0,_,_=>by simp [rds]
 | n+1,a,l=>by
  by_cases hl:l=[]
  ·subst hl
   simp [rds]
  have hp:0<l.length:=List.length_pos_iff.2 hl
  by_cases he:(decF l).2.2=0
  ·obtain⟨s,hs,h1,h2,h3⟩:=decF_ok l he
   rw [rds_go n a s l hl he hs]
   have:=rds_length n (a+s) (l.drop (8*s))
   rw [List.length_drop] at this
   simp only [List.length_cons]
   omega
  ·rw [rds_bad n a l hl he]
   simp only [List.length_cons,List.length_nil]
   omega
theorem owns_slice {w:World} {base e:TypeId} {size:Nat} {v:Value} {n:Nat} {xs:List Value} (h:w.ownsRow base e size v n xs):∃ a c,v=.slice a n c:=by
 rcases h.2 with ⟨rfl,rfl⟩|⟨g,cap,cur,rfl,_⟩
 ·exact⟨_,_,rfl⟩
 ·exact⟨_,_,rfl⟩
theorem box_putObj {W:World} {B:Nat} {t:TypeId} {v:Value} (h:Boxed W B t v) {l:Nat} {o:Obj} (o':Obj) (hl:W.heap[l]?=some o) (ho:o.isCells=false):Boxed (W.putObj l o') B t v :=
 h.kept (grownBy_putObj' W l o') (fun e=>by
  cases e
  have h':W.heap[B]?=some (.cells #[v] t (0,0)):=h
  rw [h'] at hl;cases hl;cases ho)
def AllI (w:World) (g:Nat) (pre:List Rdg) (W:World):Prop :=
 ((Boxed W g 29 (.slice none 0 0)∧Boxed W (g+1) 3 (.int .i64 0)∧Boxed W (g+1+1) 32 (.int .i64 0))∧(∀ r∈pre,r.e=0)) ∧
  (∃ v,Boxed W (g+1+1+1) 29 v∧W.ownsRow w.heap.size 45 6 v pre.length (insC pre)∧True)∧Below w.heap.size w W
def AllX (w:World) (g:Nat) (c:Code) (pre:List Rdg) (W:World):Prop :=
 ((c=.ret∧(la pre).e≠0)∧Boxed W g 29 (.slice none 0 0)∧Boxed W (g+1) 3 (.int .i64 ((la pre).at':Int))∧Boxed W (g+1+1) 32 (.int .i64 (la pre).e))∧Below w.heap.size w W
theorem allI_own (w:World) (B:Nat) (hB:w.heap.size≤B):OwnFrom B (AllI w w.heap.size) :=
 OwnFrom.and (OwnFrom.and (OwnFrom.and (Own.from (boxed_own _ _ _) _) (OwnFrom.and (Own.from (boxed_own _ _ _) _) (Own.from (boxed_own _ _ _) _))) (ownFrom_pure _ _))
  (OwnFrom.and (Own.from (holdsRow_own _ _ _ _ _ (fun pre:List Rdg=>pre.length) (fun pre=>insC pre) (fun _ _=>True)) _) (ownFrom_below (Nat.le_refl _) hB))
theorem allX_own (w:World) (B:Nat) (hB:w.heap.size≤B) (c:Code):OwnFrom B (AllX w w.heap.size c) :=
 OwnFrom.and (OwnFrom.and (ownFrom_pure _ _) (OwnFrom.and (Own.from (boxed_own _ _ _) _) (OwnFrom.and (Own.from (boxed_own _ _ (fun pre=>.int .i64 ((la pre).at':Int))) _) (Own.from (boxed_own _ _ (fun pre=>.int .i64 (la pre).e)) _))))
  (ownFrom_below (Nat.le_refl _) hB)
def AllP (w:World) (r:List Rdg) (e:Ending) (w':World):Prop :=
 (((la r).e≠0∧e=.returned (.tuple #[.slice none 0 0,.int .i64 ((la r).at':Int),.int .i64 (la r).e])) ∨
  ((∀ x∈r,x.e=0)∧∃ v,e=.returned (.tuple #[v,.int .i64 0,.int .i64 0])∧w'.ownsRow w.heap.size 45 6 v r.length (insC r)))∧Below w.heap.size w w'
theorem rds_last:∀ (n a:Nat) (l:List UInt8) (p:List Rdg),p <+: rds n a l→(la p).e≠0→p=rds n a l
 | 0,a,l,p,h,he=>by
  simp only [rds,List.prefix_nil] at h
  subst h
  exact absurd rfl he
 | n+1,a,l,p,h,he=>by
  by_cases hl:l=[]
  ·subst hl
   simp only [rds,if_true,List.prefix_nil] at h
   subst h
   exact absurd rfl he
  cases p with
  | nil=>exact absurd rfl he
  | cons x q =>
   by_cases hd:(decF l).2.2=0
   ·obtain⟨s,hs,-⟩:=decF_ok l hd
    rw [rds_go n a s l hl hd hs] at h ⊢
    obtain⟨h1,h2⟩:=List.cons_prefix_cons.1 h
    subst h1
    congr 1
    refine rds_last n _ _ q h2 ?_
    cases q with
    | nil=>exact absurd rfl he
    | cons y r=>simpa [la] using he
   ·rw [rds_bad n a l hl hd] at h ⊢
    obtain⟨h1,h2⟩:=List.cons_prefix_cons.1 h
    subst h1
    rw [List.prefix_nil.1 h2]
theorem all_at (ad:Option Addr) (cap:Nat) (l:List UInt8) (fu:Nat) (hfu:l.length≤fu) (hl:l.length≤100000) (w:World) (hw:Wid w) (hv:BsAt w (.slice ad l.length cap) l) :
  Calls Tryz.prog 134 #[.slice ad l.length cap] w fun e w'=>AllP w (rds fu 0 l) e w':=by
 have hL:=hv.low
 have hw0:0<w.heap.size:=by
  obtain⟨t,fr,hg⟩:=hw
  have:=lt_of_block hg
  omega
 obtain⟨i0,hi,hz0,hz1,hz2⟩:=info_parts Tryz.info45
 refine (callsIn_wide (n:=6)).1 ?_
 refine callsIn_of_wp_marks Tryz.func134 rfl trivial ?_ rfl
 simp only [Tryz.ntmps134,List.size_toArray,List.length_cons,List.length_nil,Nat.reduceAdd,Nat.reduceSub,Array.replicate_succ,Array.replicate_zero,List.push_toArray,List.append_toArray,List.nil_append,List.cons_append]
 gi_wp2_with (refine⟨trivial,?_⟩;gi_at_call 198;refine (callsIn_wide.2 (readings_at _ ad l.length cap rfl _)).mono ?_;rintro e w1 ⟨rfl,rfl⟩)
 have b0:=((((Boxed.new w 29 (.slice none 0 0)).alloc (.cells #[.int .i64 0] 3)).alloc (.cells #[.int .i64 0] 32)).alloc (.cells #[.slice none 0 0] 29)).alloc (.cells #[.slice ad l.length cap] 23)
 have b1:=(((Boxed.new (w.alloc (.cells #[.slice none 0 0] 29)) 3 (.int .i64 0)).alloc (.cells #[.int .i64 0] 32)).alloc (.cells #[.slice none 0 0] 29)).alloc (.cells #[.slice ad l.length cap] 23)
 have b2:=((Boxed.new ((w.alloc (.cells #[.slice none 0 0] 29)).alloc (.cells #[.int .i64 0] 3)) 32 (.int .i64 0)).alloc (.cells #[.slice none 0 0] 29)).alloc (.cells #[.slice ad l.length cap] 23)
 have b3:=(Boxed.new (((w.alloc (.cells #[.slice none 0 0] 29)).alloc (.cells #[.int .i64 0] 3)).alloc (.cells #[.int .i64 0] 32)) 29 (.slice none 0 0)).alloc (.cells #[.slice ad l.length cap] 23)
 have b4:=Boxed.new ((((w.alloc (.cells #[.slice none 0 0] 29)).alloc (.cells #[.int .i64 0] 3)).alloc (.cells #[.int .i64 0] 32)).alloc (.cells #[.slice none 0 0] 29)) 23 (.slice ad l.length cap)
 simp only [World.size_alloc] at b1 b2 b3 b4
 have hB0:Below w.heap.size w (((((w.alloc (.cells #[.slice none 0 0] 29)).alloc (.cells #[.int .i64 0] 3)).alloc (.cells #[.int .i64 0] 32)).alloc (.cells #[.slice none 0 0] 29)).alloc (.cells #[.slice ad l.length cap] 23)) :=
  (((((Below.refl _ w).alloc (Nat.le_refl _) _).alloc (by simp) _).alloc (by simp;omega) _).alloc (by simp;omega) _).alloc (by simp;omega) _
 have hsz:(((((w.alloc (.cells #[.slice none 0 0] 29)).alloc (.cells #[.int .i64 0] 3)).alloc (.cells #[.int .i64 0] 32)).alloc (.cells #[.slice none 0 0] 29)).alloc (.cells #[.slice ad l.length cap] 23)).heap.size=w.heap.size+1+1+1+1+1:=by simp
 obtain⟨W0,hW0⟩:∃ W0,((((w.alloc (.cells #[.slice none 0 0] 29)).alloc (.cells #[.int .i64 0] 3)).alloc (.cells #[.int .i64 0] 32)).alloc (.cells #[.slice none 0 0] 29)).alloc (.cells #[.slice ad l.length cap] 23)=W0:=⟨_,rfl⟩
 rw [hW0] at b0 b1 b2 b3 b4 hB0 hsz
 have HSZ:=Lib.hid hsz
 have hsz1:w.heap.size+1+1+1+1<W0.heap.size:=by omega
 simp only [hW0]
 clear hsz
 clear hW0
 refine wpIn_rangeFunc_ownH rfl (by omega) (gf:=232) (lb:=#[.pointer (some ⟨w.heap.size+1+1+1+1,0,none⟩)]) rfl trivial (enters_of Tryz.func232 (by kernel_rfl) rfl)
  (stops_at _ (by omega) (w.heap.size+1+1+1+1) w.heap.size (.slice ad l.length cap) l fu hfu W0 (by omega) (by omega) hw0 b4.cell (hL.below hB0) (wid_below hw hB0)) belowK_t (belowK_b (by omega)) (Below.refl _ _) (fun _=>rfl)
  (AllI w w.heap.size) (AllX w w.heap.size) (allI_own w _ (by omega)) (allX_own w _ (by omega))
  ⟨⟨⟨b0,b1,b2⟩,fun r hr=>by cases hr⟩,⟨_,b3,World.ownsRow_nil _ _ _ _,trivial⟩,hB0⟩
  (fun x a' W=>∃ Bx,w.heap.size+1+1+1<Bx∧W.heap[Bx]?=some (.cells x.cs 281)∧a'={ tmps:=#[.slice ad l.length cap,undef,.pointer (some ⟨w.heap.size,0,none⟩),.pointer (some ⟨w.heap.size+1,0,none⟩),.pointer (some ⟨w.heap.size+1+1,0,none⟩),.pointer (some ⟨w.heap.size+1+1+1,0,none⟩),.int .i64 (x.at':Int),.pointer (some ⟨Bx,0,none⟩),.slice ad l.length cap,.func (.func 232) #[] #[.pointer (some ⟨w.heap.size+1+1+1+1,0,none⟩)],.int .i64 (x.at':Int),.agg x.cs,undef,undef,undef,undef,undef,undef,undef,undef,undef,undef,undef,undef],defers:=[] })
  (fun x a' _ X Y row hs hg hr=>by obtain⟨Bx,h1,h2,h3⟩:=hs;exact⟨Bx,h1,cells_own Bx 281 (fun (_:Unit)=>x.cs) () X Y row h2 hg (fun r e=>(hr r e).2),h3⟩)
  ?assign ?body ?done ?stop
 case assign =>
  rintro lp pre x W K ⟨⟨⟨c0,c1,c2⟩,hz⟩,⟨vv,c3,hrow,-⟩,hB1⟩ hK
  gi_wp2
  exact hK _ _ ((KeepsOthers.alloc _ _).from _) ((Below.refl _ W).alloc hB1.size _) ⟨⟨⟨c0.alloc _,c1.alloc _,c2.alloc _⟩,hz⟩,⟨vv,c3.alloc _,hrow.alloc _,trivial⟩,hB1.alloc hB1.size _⟩ ⟨W.heap.size,c3.lt,heap_alloc_last _ _,rfl⟩
 case body =>
  rintro lp pre x a' W hlp - ⟨⟨⟨c0,c1,c2⟩,hz⟩,⟨vv,c3,hrow,-⟩,hB1⟩ ⟨Bx,hBx,bX,rfl⟩ hlt
  obtain⟨x0,x1,x2,x3,x4,x5,x6⟩:=cells7 bX
  have d0:=c0.cell
  have d1:=c1.cell
  have d2:=c2.cell
  have d3:=c3.cell
  have f0:=c0.frozen
  have f1:=c1.frozen
  have f2:=c2.frozen
  by_cases he:x.e=0
  ·have heb:(x.e != 0)=false:=by simpa using he
   have hpl:pre.length<100000:=by have:=rds_length fu 0 l;omega
   have hle:w.heap.size≤w.heap.size+1+1+1:=by omega
   gi_wp2_with (gi_at_builtin;refine wpListIn_append_own _ rfl _ _ 29 rfl w.heap.size 45 i0 (.agg #[.int .i64 0,.bool false,.int .i64 0,.int .i64 0,.int .i64 0,.int .i64 0]) 6 48 Tryz.underlying29 hi hz0 hz1 hz2 rfl (by decide) _ _ _ rfl (hrow.alloc _) ⟨W.heap.size,0,none⟩ 1 1 x.x.cs.toList rfl rfl (World.news_of_block (cs:=x.x.cs) (t:=45) (fr:=(0,0)) (heap_alloc_last W _)) (by simp [Value.oneCell']) (by unfold maxLen;omega) (by omega) (by have:=hB1.size;simp;omega) ?_;intro v' w1 hown' hgrow _;obtain⟨g',cap',rfl⟩:=ownsRow_succ hown';obtain⟨hv1,hv2,hr2,hk2,hb2⟩:=c3.appended (by decide) hrow hB1.size hle hown' hgrow;have hc1:=hv1.cell;have hf1:=hv1.frozen)
   refine⟨hk2.from _,hb2,⟨⟨⟨((c0.alloc _).kept hgrow (c0.not_row (by decide) hrow)).other (by omega) _,((c1.alloc _).kept hgrow (c1.not_row (by decide) hrow)).other (by omega) _,((c2.alloc _).kept hgrow (c2.not_row (by decide) hrow)).other (by omega) _⟩,?_⟩,⟨_,hv2,?_,trivial⟩,hB1.trans hb2⟩⟩
   ·intro r hr
    rcases List.mem_append.1 hr with h|h
    ·exact hz r h
    ·rw [List.mem_singleton.1 h];exact he
   ·rw [insC_snoc,List.length_append]
    exact hr2
  ·have heb:(x.e != 0)=true:=by simpa using he
   have hmx:Tryz.prog.follows .mixedOrders=true:=by kernel_rfl
   have hlx:Tryz.prog.follows .lateStores=true:=by kernel_rfl
   gi_wp2
   gi_region_with_o (fail)
   all_goals gi_wp2
   all_goals exact⟨((((KeepsOthers.setCell _ _ _).trans (KeepsOthers.setCell _ _ _)).trans (KeepsOthers.setCell _ _ _)).trans (KeepsOthers.drew _)).from _,
    ⟨⟨⟨rfl,by rw [la_snoc];exact he⟩,((c0.set _).other (by omega) _).other (by omega) _,by rw [la_snoc];exact ((c1.other (by omega) _).set _).other (by omega) _,by rw [la_snoc];exact ((c2.other (by omega) _).other (by omega) _).set _⟩,
     (((hB1.setCell (p:=⟨_,0,none⟩) (Nat.le_refl _) _).setCell (p:=⟨_,0,none⟩) (Nat.le_succ _) _).setCell (p:=⟨_,0,none⟩) (by show w.heap.size≤w.heap.size+1+1;omega) _).drew⟩⟩
 case done =>
  rintro D ys W hD rfl ⟨⟨⟨c0,c1,c2⟩,hz⟩,⟨vv,c3,hrow,-⟩,hB1⟩ hK
  obtain⟨va,vc,rfl⟩:=owns_slice hrow
  have d0:=c0.cell
  have d1:=c1.cell
  have d2:=c2.cell
  have d3:=c3.cell
  have f0:=c0.frozen
  have f1:=c1.frozen
  have f2:=c2.frozen
  gi_wp2
  have e0:=((c0.set (.slice va (rds fu 0 l).length vc)).other (B':=w.heap.size+1) (by omega) (.int .i64 0)).other (B':=w.heap.size+1+1) (by omega) (.int .i64 0)
  have e1:=((c1.other (B':=w.heap.size) (by omega) (.slice va (rds fu 0 l).length vc)).set (.int .i64 0)).other (B':=w.heap.size+1+1) (by omega) (.int .i64 0)
  have e2:=((c2.other (B':=w.heap.size) (by omega) (.slice va (rds fu 0 l).length vc)).other (B':=w.heap.size+1) (by omega) (.int .i64 0)).set (.int .i64 0)
  have hK2:=(((KeepsOthers.setCell W ⟨w.heap.size,0,none⟩ (.slice va (rds fu 0 l).length vc)).trans (KeepsOthers.setCell _ ⟨w.heap.size+1,0,none⟩ (.int .i64 0))).trans (KeepsOthers.setCell _ ⟨w.heap.size+1+1,0,none⟩ (.int .i64 0))).same D _ hK rfl
  have r1:=hrow.kept (grownBy_setCell' W w.heap.size (.slice va (rds fu 0 l).length vc)) (.inr (c0.not_row (by decide) hrow).symm)
  have c1':=c1.other (B':=w.heap.size) (by omega) (.slice va (rds fu 0 l).length vc)
  have r2:=r1.kept (grownBy_setCell' _ (w.heap.size+1) (.int .i64 0)) (.inr (c1'.not_row (by decide) r1).symm)
  have c2':=(c2.other (B':=w.heap.size) (by omega) (.slice va (rds fu 0 l).length vc)).other (B':=w.heap.size+1) (by omega) (.int .i64 0)
  have r3:=r2.kept (grownBy_setCell' _ (w.heap.size+1+1) (.int .i64 0)) (.inr (c2'.not_row (by decide) r2).symm)
  have hBE:=((hB1.setCell (p:=⟨w.heap.size,0,none⟩) (Nat.le_refl _) (.slice va (rds fu 0 l).length vc)).setCell (p:=⟨w.heap.size+1,0,none⟩) (Nat.le_succ _) (.int .i64 0)).setCell (p:=⟨w.heap.size+1+1,0,none⟩) (by show w.heap.size≤w.heap.size+1+1;omega) (.int .i64 0)
  generalize ((W.setCell ⟨w.heap.size,0,none⟩ _).setCell ⟨w.heap.size+1,0,none⟩ _).setCell ⟨w.heap.size+1+1,0,none⟩ _=E at e0 e1 e2 hK2 r3 hBE ⊢
  refine⟨by simp,.inl ⟨_,_,rfl,run_takeDeferred hK2,?_⟩⟩
  have k0:=(box_putObj e0 (.deferred none) hK2 rfl).cell
  have k1:=(box_putObj e1 (.deferred none) hK2 rfl).cell
  have k2:=(box_putObj e2 (.deferred none) hK2 rfl).cell
  exact⟨.tuple #[.slice va (rds fu 0 l).length vc,.int .i64 0,.int .i64 0],by simp [results,Tryz.results134,go_sem,k0,k1,k2],.inr ⟨hz,_,rfl,ownsRow_putObj r3 _ hK2 rfl⟩,hBE.trans (belowK_b (w:=w) (Nat.le_refl _) E D _ _ (by omega) hK2 rfl rfl)⟩
 case stop =>
  rintro D c pre W hD hp ⟨⟨⟨rfl,he⟩,c0,c1,c2⟩,hB1⟩ hK
  gi_wp2
  obtain rfl:=rds_last fu 0 l pre hp he
  refine⟨by simp,.inl ⟨_,_,rfl,run_takeDeferred hK,?_⟩⟩
  have k0:=(box_putObj c0 (.deferred none) hK rfl).cell
  have k1:=(box_putObj c1 (.deferred none) hK rfl).cell
  have k2:=(box_putObj c2 (.deferred none) hK rfl).cell
  exact⟨.tuple #[.slice none 0 0,.int .i64 ((la (rds fu 0 l)).at':Int),.int .i64 (la (rds fu 0 l)).e],by simp [results,Tryz.results134,go_sem,k0,k1,k2],.inl ⟨he,rfl⟩,hB1.trans (belowK_b (w:=w) (Nat.le_refl _) W D _ _ (by omega) hK rfl rfl)⟩
end Go.Proofs.YtdgnjhhieemcaaaGreatDoor.L5
