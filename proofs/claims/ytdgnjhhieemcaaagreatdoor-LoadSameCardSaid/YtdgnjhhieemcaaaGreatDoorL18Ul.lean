/- What unload and Store return: the only object that an image may be of, or ErrBox. Condition: memory holds the maps and the instructions, which are no more than 100000, and the tables read as laid; the instructions' numbers are int64 values. -/
import Derived.Test.YtdgnjhhieemcaaaGreatDoorL18Ld
set_option maxHeartbeats 16000000
namespace Go.Proofs.YtdgnjhhieemcaaaGreatDoor.L18
set_option maxRecDepth 100000
open Go.RowKit Go.Maps Go.Shelf L3 L4 L12 L14 L17
open L13 (Ob)
open L16 (chE OA OS Tb tb_below own_apart own_cell row_far own_ro)
attribute [local go_sem] Oper.semAt_some
def NQ (C:Act→World→Prop):Exit→Act→World→Prop:=fun e a w=>e=.normal∧C a w
theorem nq_out (C:Act→World→Prop):¬ LetsOut (NQ C):=fun ⟨_,_,h⟩=>by cases h.1
theorem upon_in {l n:Nat} {P:Program} {o:Oper} {a:Act} {C:Act→World→Prop} {D E:Act→World→Prop} {Q:Exit→Act→World→Prop} {r:Result Next} (hDE:∀ a w,D a w→E a w) (h:o.upon P a D (NQ C) r):o.uponIn (Fence.wide.inRound l) n P a E Q r:=by
 cases r with
 | ok x w' =>
  cases x <;> simp only [Oper.upon,Oper.uponIn] at h ⊢
  case value u=>exact hDE _ _ h
  case skip=>exact hDE _ _ h
  case defer d=>exact hDE _ _ h
  case enter f args =>
   refine⟨fun h=>(by cases h),CallsIn.inRound l (callsIn_wide.2 (Calls.mono h fun e w'' he=>?_))⟩
   cases e with
   | returned u=>exact hDE _ _ he
   | panicked c=>cases he.1
   | outgrown=>exact absurd he (nq_out C)
  case row row args =>
   refine⟨fun h=>(by cases h),fun c cs _=>?_⟩
   obtain⟨v,w2,h1,h2⟩:=h c cs
   exact⟨v,w2,hDE _ _ h1,stepsIn_wide.2 h2⟩
 | halt x w' =>
  cases x <;> simp only [Oper.upon,Oper.uponIn] at h ⊢
  case panic u=>cases h.1
theorem ops_in {l n:Nat} {P:Program} {ops:Array Oper} {C:Act→World→Prop} {Q:Exit→Act→World→Prop} (hd:Tab.noDefer ops=true) (hQ:∀ a w,C a w→Q .normal a w):∀ (s:List Nat) (a:Act) (w:World),wpOps P ops (NQ C) s a w→wpOpsIn (Fence.wide.inRound l) n P ops Q s a w
 | [],a,w,h=>hQ _ _ h.2
 | i::s,a,w,h=>by
  unfold wpOps at h
  unfold wpOpsIn
  cases ho:ops[i]? with
  | none=>rw [ho] at h;exact ops_in hd hQ s a w h
  | some o =>
   rw [ho] at h
   simp only at h ⊢
   split
   ·rename_i hc
    rw [if_pos hc] at h
    rcases h with h|h
    ·refine⟨fun f _=>trivial,?_⟩
     rw [Oper.semAt_eq _ _ _ (Tab.noDefer_spec hd i o ho)]
     exact upon_in (ops_in hd hQ s) h
    ·exact absurd h.2 (nq_out C)
   ·rename_i hc
    rw [if_neg hc] at h
    exact⟨fun f _=>trivial,ops_in hd hQ s _ _ h⟩
theorem region_held_in {l n id:Nat} {P:Program} {ops:Array Oper} {Q:Exit→Act→World→Prop} {S:World→Prop} {a:Act} {w:World} (hd:Tab.noDefer ops=true) (hm:P.follows .mixedOrders=true) (hS:S w.drew)
  (h:S w.drew→wpAnyH P .any ops (NQ fun a w=>Q .normal a w) S ops.size (Array.replicate ops.size false) a w.drew):(Code.region id ops true).wpIn (Fence.wide.inRound l) n P Q a w :=
 wpIn_region_draw fun t=>by
  simp only [Region.schedule,hm,Bool.true_or,if_true]
  exact ops_in hd (fun _ _ h=>h) _ _ _ (wpAny_sound ops.size t _ a _ (wpAny_of_held _ _ _ _ (h hS)))
theorem run_copy_ins (w:World) (ty:TypeId) (g n dCap:Nat) (a:Addr) (sCap:Nat) (cur:Array Value) (cs:List Value) (hg:w.heap[g]?=some (.cells cur 45 (0,0))) (hn:cs.length=n*6)
  (hsrc:∀ j v,cs[j]?=some v→w.cell? (a.add j)=some v) (hfit:cs.length≤cur.size) (h1:∀ v∈cs,v.oneCell'=true) :
  (Builtin.copy_ #[29,29] ty #[.slice (some ⟨g,0,none⟩) n dCap,.slice (some a) n sCap]).run Tryz.prog w=.ok (goInt n) (w.setRow g (cs++cur.toList.drop cs.length).toArray):=by
 have hl:=run_loadCells_list (P:=Tryz.prog) w a cs hsrc
 have hst:=run_storeCells_at Tryz.prog g 0 45 cs 0 cur w hg (by simpa using hfit) h1
 have hu:Tryz.prog.underlying 29=some (.slice 45):=Tryz.underlying29
 obtain⟨i0,hi,hz0,hz1,hz2⟩:=info_parts infoIns
 have hm:Nat.min n n=n:=Nat.min_self n
 rw [hn] at hl
 simp [Builtin.copy_,run_underlying hu,Builtin.lenOf,Builtin.firstCells,sizeOf,typeInfo,hi,hz1,hm,hl,hst]
theorem inC_len:∀ l:List L9.Ins,(inC l).length=l.length*6
 | []=>rfl
 | x::r=>by
  have:=inC_len r
  unfold inC at this ⊢
  rw [List.flatMap_cons,List.length_append,this,List.length_cons]
  simp only [List.length_cons,List.length_nil]
  omega
theorem one_in:∀ (l:List L9.Ins),∀ u∈inC l,u.oneCell'=true:=fun l u hu=>by
 unfold inC at hu
 obtain⟨x,-,hx⟩:=List.mem_flatMap.1 hu
 simp only [L10.inL,List.mem_cons,List.not_mem_nil,or_false] at hx
 rcases hx with rfl|rfl|rfl|rfl|rfl|rfl <;> rfl
theorem run_copy_ins0 (w:World) (ty:TypeId) (g dCap:Nat) (a:Option Addr) (sCap:Nat) :
  (Builtin.copy_ #[29,29] ty #[.slice (some ⟨g,0,none⟩) 0 dCap,.slice a 0 sCap]).run Tryz.prog w=.ok (goInt 0) w:=by
 have hu:Tryz.prog.underlying 29=some (.slice 45):=Tryz.underlying29
 obtain⟨i0,hi,hz0,hz1,hz2⟩:=info_parts infoIns
 cases a <;> simp [Builtin.copy_,run_underlying hu,Builtin.lenOf,Builtin.firstCells,sizeOf,typeInfo,hi,storeCells,loadCells,loadCellsFrom]
theorem wpListIn_copy_ins {F:Fence} {m:Nat} {w:World} {ops:Array Oper} {rest:List Oper} {o:Oper} {a:Act} {Q:Exit→Act→World→Prop} (hgd:o.guard=none) (d s:Operand)
  (ho:o.op=.call { callee:=.builtin .copy,args:=#[d,s],argTypes:=#[29,29] }) (B g n sCap:Nat) (sa:Option Addr) (xs:List Value) (l:List L9.Ins) (hn:l.length=n) (hd:a.eval d=.slice (some ⟨g,0,none⟩) n n) (hs:a.eval s=.slice sa n sCap)
  (hsrc:IsAt w (.slice sa n sCap) l) (hrow:w.ownsRow B 45 6 (.slice (some ⟨g,0,none⟩) n n) n xs)
  (hK:∀ w',w'.ownsRow B 45 6 (.slice (some ⟨g,0,none⟩) n n) n (inC l)→w.grownBy w' (some g)→wpListIn F m Tryz.prog ops Q rest (a.put o.dst (goInt n)) w'):wpListIn F m Tryz.prog ops Q (o::rest) a w:=by
 refine wpListIn_plain hgd fun K hK'=>?_
 unfold Oper.wpIn
 refine⟨by simp [Oper.about,ho,resolve,Target.leads,Sem.run_pure],?_⟩
 rw [Oper.semAt_plain F _ _ (by rw [ho];intro c hc';cases hc')]
 rcases hsrc with ⟨sb,so,sc,he,hsb,hc⟩|⟨rfl,a',c',he⟩
 ·cases he
  rcases hrow.2 with ⟨h1,-⟩|⟨g',cap,cur,hv,hg,hh,hnc,hcm,hcs,htake⟩
  ·cases h1
  ·cases hv
   have hlc:(inC l).length≤cur.size:=by rw [inC_len,hcs];exact Nat.le_refl _
   have hrun:=run_copy_ins w o.type g l.length l.length ⟨sb,so,none⟩ sCap cur (inC l) hh (inC_len l) (fun j v hj=>by
    obtain⟨k,i,hk,rfl,hu⟩:=L10.flat_of L10.inL 6 (fun _=>rfl) l j v hj
    have e:(⟨sb,so,none⟩:Addr).add (k*6+i)=⟨sb,so+k*6+i,none⟩:=by rw [L10.ad_plain,← Nat.add_assoc]
    rw [e]
    exact hc k hk i v hu) hlc (one_in l)
   simp [execOp,ho,resolve,invoke,builtin,hd,hs,hrun,Result.andThen]
   refine hK' _ _ (hK _ ⟨inC_len l,.inr ⟨g,l.length,_,rfl,hg,setRow_heap w g cur _ _ _ hh,Nat.le_refl _,hcm,?_,?_⟩⟩ (L13.gr_setRow w g _))
   ·simp [inC_len,hcs]
   ·simp [← inC_len l]
 ·cases he
  have hrun:=run_copy_ins0 w o.type g 0 sa sCap
  simp [execOp,ho,resolve,invoke,builtin,hd,hs,hrun,Result.andThen]
  refine hK' _ _ (hK w ?_ (World.grownBy.refl _ _))
  have hx:xs=[]:=List.eq_nil_of_length_eq_zero (by have:=hrow.1;omega)
  rw [hx] at hrow
  exact hrow
theorem wpListIn_make_full {F:Fence} {m:Nat} {P:Program} (w:World) {ops:Array Oper} {rest:List Oper} {o:Oper} {a:Act} {Q:Exit→Act→World→Prop}
  (hg:o.guard=none) (l c:Operand) (t:TypeId) (hop:o.op=Op.makeSlice t l c)
  (base:Nat) (e:TypeId) (i:TypeInfo) (z:Value) (size:Nat) (h1:P.underlying t=some (.slice e)) (h2:P.info? e=some i) (h3:i.zero=some z) (h4:i.size=size)
  (kl kc:IntKind) (n:Nat) (hl:a.eval l=.int kl (n:Int)) (hc:a.eval c=.int kc (n:Int)) (b2:i.bytes*n≤281474976710656) (b3:n≤maxLen) (b4:base≤w.heap.size)
  (hK:∀ w',w'.ownsRow base e size (.slice (some ⟨w.heap.size,0,none⟩) n n) n (madeCells z.cells (n*size)).toList→w.grownBy w' none→wpListIn F m P ops Q rest (a.put o.dst (.slice (some ⟨w.heap.size,0,none⟩) n n)) w') :
  wpListIn F m P ops Q (o::rest) a w:=by
 refine wpListIn_plain hg fun K hK'=>?_
 obtain⟨w',hrun,r1,r2⟩:=run_make_full (P:=P) w base t e i z size h1 h2 h3 h4 kl kc n b2 b3 b4
 unfold Oper.wpIn
 refine⟨by simp [Oper.about,hop],?_⟩
 rw [Oper.semAt_plain F _ _ (by rw [hop];intro c hc';cases hc')]
 simp [execOp,hop,hl,hc,hrun,Result.andThen]
 exact hK' _ _ (hK w' r1 r2)
def UlI (w:World) (kb b c d:Nat) (vm:Value) (ms:List Value) (l:List L9.Ins) (pre:List (Fin l.length)) (W:World):Prop :=
 ∃ vr,W.heap[kb]?=some (.cells #[vm,.slice none 0 0,vr] 26)∧W.ownsRow w.heap.size 76 2 vr pre.length ((rS l (fun _=>0) l pre).flatMap L13.roL) ∧
  W.ownsRow w.heap.size 45 6 (.slice (some ⟨b,0,none⟩) l.length c) l.length (inC (wS l (fun _=>0) pre))∧W.ownsRow w.heap.size 83 4 vm d ms∧Below w.heap.size w W∧W.heap[w.heap.size+1]?=some (.cells #[.slice none 0 0,.slice none 0 0,.slice none 0 0] 26)
theorem own_pre {W X:World} {B e:TypeId} {sz n:Nat} {v:Value} {xs:List Value} {row:Option Nat} (h:W.ownsRow B e sz v n xs) (hg:W.grownBy X row) (hr:∀ r,row=some r→∃ o:Obj,W.heap[r]?=some o∧o.isCells=false):X.ownsRow B e sz v n xs :=
 L10.own_kept h hg (fun g hv hk=>by
  obtain⟨c,hc⟩:=L10.own_ty h hv
  obtain⟨o,ho,hn⟩:=hr g hk
  rw [hc] at ho
  cases ho
  cases hn)
theorem ulI_own (w:World) (kb b c d:Nat) (vm:Value) (ms:List Value) (l:List L9.Ins) (B:Nat) (hB:w.heap.size≤B):OwnFrom B (UlI w kb b c d vm ms l):=by
 rintro pre X Y row ⟨vr,h1,h2,h3,h4,h5,h6⟩ hg hr
 have hr':∀ r,row=some r→∃ o:Obj,X.heap[r]?=some o∧o.isCells=false:=fun r e=>(hr r e).2
 have hk:∀ {k:Nat} {cs:Array Value} {t:TypeId},X.heap[k]?=some (.cells cs t)→Y.heap[k]?=some (.cells cs t):=fun {k cs t} h=>by
  refine (hg.block k (lt_of_block h) (fun e=>?_)).trans h
  obtain⟨o,ho,hn⟩:=hr' k e.symm
  rw [h] at ho
  cases ho
  cases hn
 exact⟨vr,hk h1,own_pre h2 hg hr',own_pre h3 hg hr',own_pre h4 hg hr',h5.grown hg h5.size (fun q e=>by have:=(hr q e).1;omega),hk h6⟩
theorem ulI_zero {w W:World} {kb b c d n:Nat} {vm:Value} {ms:List Value} {l:List L9.Ins} (hn:l.length=n) (h1:W.heap[kb]?=some (.cells #[vm,.slice none 0 0,.slice none 0 0] 26)) (h2:W.ownsRow w.heap.size 45 6 (.slice (some ⟨b,0,none⟩) n c) n (inC l)) (h3:W.ownsRow w.heap.size 83 4 vm d ms) (h4:Below w.heap.size w W) (h5:W.heap[w.heap.size+1]?=some (.cells #[.slice none 0 0,.slice none 0 0,.slice none 0 0] 26)):UlI w kb b c d vm ms l [] W:=by
 subst hn
 exact⟨.slice none 0 0,h1,World.ownsRow_nil _ _ _ _,h2,h3,h4,h5⟩
theorem rfF_le (l:List L9.Ins):(rfF l l.length).length≤l.length:=by
 unfold rfF
 exact Nat.le_trans (List.length_filter_le ..) (by simp)
theorem wS_imm {l:List L9.Ins} (g:Nat→Int) (pre:List (Fin l.length)) (x:Fin l.length):∃ h:x.1<(wS l g pre).length,(wS l g pre)[x.1].imm=(atI (wS l g pre) x.1).imm:=by
 have hx:x.1<(wS l g pre).length:=by rw [wS_len];exact x.2
 exact⟨hx,by rw [atI_is hx]⟩
theorem kr_ty {A B:World} {b o N:Nat} {row:Option Nat} (hg:A.grownBy B row) (h:∀ r,row=some r→r≠b∧∃ cs t fr,A.heap[r]?=some (.cells cs t fr)∧t≠29∧t≠3):KR b o N A B:=by
 have key:∀ (k:Nat) (cs:Array Value) (t:TypeId) (fr:Nat × Nat),(t=29∨t=3)→A.heap[k]?=some (.cells cs t fr)→B.heap[k]?=some (.cells cs t fr):=fun k cs t fr ht e=>by
  refine (hg.block k (lt_of_block e) (fun hk=>?_)).trans e
  obtain⟨-,cs',t',fr',h1,h2,h3⟩:=h k hk.symm
  rw [e] at h1
  cases h1
  rcases ht with rfl|rfl
  ·exact h2 rfl
  ·exact h3 rfl
 refine⟨hg.size,fun k cs fr e=>key k cs _ fr (.inl rfl) e,fun k cs fr e=>key k cs _ fr (.inr rfl) e,fun j hj u e=>?_⟩
 have hb:=hg.block b (World.block_lt_of_cell? _ _ e) (fun hk=>(h b hk.symm).1 rfl)
 unfold World.cell? at e ⊢
 simp only [hb]
 exact e
theorem kr_own {A B:World} {b o N B0 e sz n:Nat} {v:Value} {xs:List Value} {cs:Array Value} {t:TypeId} (ho:A.ownsRow B0 e sz v n xs) (hg:A.grownBy B v.ownBlock) (h1:e≠29) (h2:e≠3) (hb:A.heap[b]?=some (.cells cs t)) (ht:t≠e):KR b o N A B:=kr_ty hg (fun r hr=>by
 obtain⟨c,hc⟩:=L10.own_ty ho hr
 exact⟨fun h=>by subst h;rw [hb] at hc;cases hc;exact ht rfl,c,e,(0,0),hc,h1,h2⟩)
theorem zr_in {l:List L9.Ins} {x:L9.Ins} (h:x∈zrL l):x∈l∨x.imm=0:=by
 obtain⟨i,hi,rfl⟩:=List.mem_iff_getElem.1 h
 have hi':i<l.length:=by unfold zrL at hi;rwa [wrT_len] at hi
 rw [← atI_is hi,zrL_at hi',atI_is hi']
 by_cases hr:isRf l[i]=true
 ·rw [if_pos hr];exact .inr rfl
 ·rw [if_neg hr];exact .inl (List.getElem_mem _)
theorem join_un (v:Value) (l:List L9.Ins) (W:World) (hw:L1.Wid W) (hm:l.length≤100000) (hv:L5.InAt W v ((zrL l).map L13.tI)) (hf:∀ x∈l,L5.Ix.fits (L13.tI x)) :
  Calls Tryz.prog 81 #[v] W fun e w'=>(∃ a c i j,e=.returned (.tuple #[.slice a (unC l).length c,.int .i64 i,.int .i64 j])∧w'.ownsRow W.heap.size 5 1 (.slice a (unC l).length c) (unC l).length (L5.byL (unC l)))∧Below W.heap.size W w':=by
 refine (L5.join_at v _ W hw (by rw [List.length_map];unfold zrL;rw [wrT_len];exact hm) hv (fun x hx=>?_)).mono fun e w' h=>?_
 ·obtain⟨y,hy,rfl⟩:=List.mem_map.1 hx
  rcases zr_in hy with h|h
  ·exact hf y h
  ·show -9223372036854775808≤y.imm∧y.imm≤9223372036854775807
   rw [h];omega
 ·obtain⟨h,hb⟩:=h
  refine⟨?_,hb⟩
  rcases h with ⟨p,x,q,hp,-,h,rfl⟩|⟨h,v',rfl,ho⟩
  ·have hu:unC l=[]:=by
    unfold unC
    rw [if_neg]
    intro hc
    exact h (hc x (by rw [hp];simp))
   rw [hu]
   exact⟨none,0,_,_,rfl,World.ownsRow_nil _ _ _ _⟩
  ·have hu:unC l=L5.joinB ((zrL l).map L13.tI):=by
    unfold unC
    rw [if_pos h]
   rw [← hu] at ho
   obtain⟨a,c,rfl⟩:=L14.owns_slice ho
   exact⟨a,c,0,0,rfl,ho⟩
structure ObO (B:Nat) (W:World) (vm vc vr:Value) (o:Ob):Prop where
 m:W.ownsRow B 83 4 vm o.maps.length (o.maps.flatMap L10.dfL)
 c:W.ownsRow B 5 1 vc o.code.length (L5.byL o.code)
 r:W.ownsRow B 76 2 vr o.rels.length (o.rels.flatMap L13.roL)
theorem ObO.oa {B:Nat} {W:World} {vm vc vr:Value} {o:Ob} (h:ObO B W vm vc vr o):OA W vm vc vr o:=⟨L13.own_df rfl h.m,L14.Rw.own h.c,own_ro rfl h.r⟩
theorem ObO.below {B:Nat} {W W':World} {vm vc vr:Value} {o:Ob} (h:ObO B W vm vc vr o) (hb:Below W.heap.size W W'):ObO B W' vm vc vr o:=⟨L8.own_below h.m hb,L8.own_below h.c hb,L8.own_below h.r hb⟩
theorem ObO.cell {B:Nat} {W:World} {vm vc vr:Value} {o:Ob} (h:ObO B W vm vc vr o) {kr i:Nat} {u:Value} {cs:Array Value} (hr:W.heap[kr]?=some (.cells cs 26)):ObO B (W.setCell ⟨kr,i,none⟩ u) vm vc vr o:=⟨own_cell h.m hr (by decide),own_cell h.c hr (by decide),own_cell h.r hr (by decide)⟩
def UnP (w:World) (ms:List L9.Df) (l:List L9.Ins) (e:Ending) (w':World):Prop:=(∃ vm vc vr,e=.returned (.agg #[vm,vc,vr])∧ObO w.heap.size w' vm vc vr (unO ms l))∧Below w.heap.size w w'
theorem unload_at (vm vi:Value) (ms:List L9.Df) (l:List L9.Ins) (w:World) (hms:ms.length≤100000) (hl:l.length≤100000) (hv:L10.DfAt w vm ms) (hi:IsAt w vi l) (hf:∀ x∈l,L5.Ix.fits (L13.tI x)) (hT:L1.Wid w) :
  Calls Tryz.prog 44 #[.agg #[vm,vi]] w fun e w'=>UnP w ms l e w':=by
 obtain⟨n,hn⟩:∃ n,l.length=n:=⟨_,rfl⟩
 obtain⟨d,hd⟩:∃ n,ms.length=n:=⟨_,rfl⟩
 obtain⟨j0,hji,hjz0,hjz1,hjz2⟩:=info_parts infoIns
 obtain⟨r0,hri,hrz0,hrz1,hrz2⟩:=info_parts infoR
 have HI:=Lib.hid (fun (W:World) (h:Below w.heap.size w W)=>And.intro (hi.below h) (L4.wid_below hT h))
 have HC:=Lib.hid (fun (X:World) (hX:Below w.heap.size w X)=>L10.cloneD_at vm d (ms.flatMap L10.dfL) X (by rw [← hd];exact hms) (by rw [← hd];exact L10.flat_len L10.dfL 4 (fun _=>rfl) _) (L10.one_df ms) (by have:=(hv.below hX).flat;rwa [hd] at this))
 have HF:=Lib.hid hf
 obtain⟨a2,c2,rfl,-⟩:=is_form hn hi
 obtain⟨a1,c1,rfl,-⟩:∃ a c,vm=.slice a d c∧True:=by
  obtain⟨a,c,h,-⟩:=hv.flat
  exact⟨a,c,by rw [h,hd],trivial⟩
 have HN:=Lib.hid (And.intro hn (And.intro hd hl))
 rw [hn] at hl
 clear hi hv hf hT hn hd hms
 refine (callsIn_wide (n:=6)).1 ?_
 refine callsIn_of_wp_marks Tryz.func44 rfl trivial ?_ rfl
 simp only [Tryz.ntmps44,List.size_toArray,List.length_cons,List.length_nil,Nat.reduceAdd,Nat.reduceSub,Array.replicate_succ,Array.replicate_zero,List.push_toArray,List.append_toArray,List.nil_append,List.cons_append]
 have HB0:=Lib.hid (bch (bnew w (.cells #[.slice a1 d c1,.slice a2 n c2] 31)) (bnew _ (.cells #[.slice none 0 0,.slice none 0 0,.slice none 0 0] 26)))
 have K0:=Lib.hid (And.intro (L8.row_up (heap_alloc_last w (.cells #[.slice a1 d c1,.slice a2 n c2] 31)) (bnew _ (.cells #[.slice none 0 0,.slice none 0 0,.slice none 0 0] 26))) (heap_alloc_last (w.alloc (.cells #[.slice a1 d c1,.slice a2 n c2] 31)) (.cells #[.slice none 0 0,.slice none 0 0,.slice none 0 0] 26)))
 gi_wp2_with (first
  | (refine⟨trivial,?_⟩;gi_at_call 31;refine (callsIn_wide.2 (HC.out _ HB0.out)).mono ?_;rintro e w1 ⟨v',rfl,hrow1,b1⟩;obtain⟨va,vc,rfl⟩:=L14.owns_slice hrow1;have B1:=bch HB0.out b1;have k1:=L8.row_up K0.out.1 b1;have j1:=L8.row_up K0.out.2 b1;obtain⟨x0,x1⟩:=cells2 k1;have lx:=lt_of_block k1)
  | (gi_at_make;refine wpListIn_make_full _ rfl _ _ 29 rfl w.heap.size 45 j0 (.agg #[.int .i64 0,.bool false,.int .i64 0,.int .i64 0,.int .i64 0,.int .i64 0]) 6 Tryz.underlying29 hji hjz0 hjz1 .i64 .i64 n rfl rfl (by rw [hjz2];omega) (by unfold maxLen;omega) (by have:=B1.size;simp;omega) ?_;intro w2 hown2 hg2;rw [World.size_alloc] at hown2;have b2:=(Below.refl _ _).grown hg2 (Nat.le_refl _) (fun q e=>by cases e);have B2:=bch (bch B1 (bnew w1 _)) b2;have k2:=L8.row_up (L8.row_up k1 (bnew w1 _)) b2;have q2:=L8.row_up (heap_alloc_last w1 _) b2;have r2:=L8.own_below (L8.own_below hrow1 (bnew w1 _)) b2;have j2:=L8.row_up (L8.row_up j1 (bnew w1 _)) b2;obtain⟨y0,y1⟩:=cells2 k2;have ly:=lt_of_block k2)
  | (refine wpListIn_copy_ins rfl _ _ rfl w.heap.size (w1.heap.size+1) n c2 a2 _ l HN.out.1 rfl rfl (HI.out w2 B2).1 hown2 ?_;intro w3 hown3 hg3;have B3:=B2.grown hg3 B2.size (fun q e=>by cases e;have:=B1.size;omega);have q3:=(hg3.block _ (lt_of_block q2) (by simp)).trans q2;have r3:=own_apart r2 hown2 hg3 (by decide);have j3:=(hg3.block _ (lt_of_block j2) (by have:=B1.size;have:=lt_of_block j1;simp at this ⊢;omega)).trans j2)
  | (refine⟨trivial,?_⟩;gi_at_call 30;refine (callsIn_wide.2 (references_fn (some ⟨w1.heap.size+1,0,none⟩) n n _)).mono ?_;rintro e w4 ⟨rfl,rfl⟩))
 obtain⟨kb,hkb⟩:∃ k,w1.heap.size=k:=⟨_,rfl⟩
 have hk0:=B1.size
 have hk1:=lt_of_block j1
 have hk2:=hg3.size
 have hk3:=b2.size
 simp only [World.size_alloc] at hk1 hk3
 simp only [World.size_alloc] at hk0 j3
 rw [hkb] at hown3 q3 hk0 hk1 hk3 ⊢
 have hw3:=lt_of_block q3
 simp only [World.size_alloc] at r3
 have r3':=own_weak r3 (show w.heap.size≤w.heap.size+1+1 by omega)
 have hbl:=hown3.lt (kb+1) rfl
 have hB:(w3.alloc (.cells #[.slice (some ⟨kb+1,0,none⟩) n n] 29)).heap[w3.heap.size]?=some (.cells #[.slice (some ⟨kb+1,0,none⟩) l.length n] 29):=by rw [HN.out.1];exact heap_alloc_last _ _
 have hv:IsAt (w3.alloc (.cells #[.slice (some ⟨kb+1,0,none⟩) n n] 29)) (.slice (some ⟨kb+1,0,none⟩) l.length n) l:=by
  have:=(own_ins HN.out.1 hown3).below (bnew w3 (.cells #[.slice (some ⟨kb+1,0,none⟩) n n] 29))
  rw [HN.out.1];exact this
 have HS:=Lib.hid (refs_stops 5 (by omega) w3.heap.size (kb+1) 0 n l HN.out.2.2 _ hB hv)
 have hI0:UlI w kb (kb+1) n d (.slice va d vc) (ms.flatMap L10.dfL) l [] (w3.alloc (.cells #[.slice (some ⟨kb+1,0,none⟩) n n] 29)) :=
  ulI_zero HN.out.1 (L8.row_up q3 (bnew w3 _)) (L8.own_below hown3 (bnew w3 _)) (L8.own_below r3' (bnew w3 _)) (bch B3 (bnew w3 _)) (L8.row_up j3 (bnew w3 _))
 have hzz:(w3.alloc (.cells #[.slice (some ⟨kb+1,0,none⟩) n n] 29)).heap.size=w3.heap.size+1:=by simp
 clear hB hv hown3 q3 r3 r3' j3 B3 hown2 hg2 hg3 b2 B2 k2 q2 r2 j2 y0 y1 ly k1 j1 x0 x1 lx b1 B1 hrow1 K0 HB0 HC hkb
 generalize w3.alloc (.cells #[.slice (some ⟨kb+1,0,none⟩) n n] 29)=W0 at *
 refine gen_act fun T hT=>?_
 refine wpIn_rangeFunc_ownH rfl (by omega) (gf:=60) (lb:=#[.pointer (some ⟨w3.heap.size,0,none⟩)]) (by rw [hT];rfl) trivial (enters_of Tryz.func60 (by kernel_rfl) rfl)
  HS.out (fun h k=>h.t k) (fun W l q q' _ h2 h3 _=>KR.b W l q q' h2 h3) (Below.refl _ _) (fun _=>rfl)
  (UlI w kb (kb+1) n d (.slice va d vc) (ms.flatMap L10.dfL) l) (fun _ _ _=>False) (ulI_own w kb (kb+1) n d _ _ l _ (by omega)) (fun _=>ownFrom_pure _ _) hI0
  (fun x a' _=>a'={ tmps:=(((T.tmps.setIfInBounds 21 (.int .i64 ((min (stN l x.1) 10000000:Nat):Int))).setIfInBounds 22 (.pointer (some ⟨kb+1,x.1*6,none⟩))).setIfInBounds 5 (.int .i64 ((min (stN l x.1) 10000000:Nat):Int))).setIfInBounds 6 (.pointer (some ⟨kb+1,x.1*6,none⟩)),defers:=[] }) (fun _ _=>ownFrom_pure _ _)
  ?assign ?body ?done ?stop
 case assign =>
  rintro lp pre x W K hI hK
  subst hT
  gi_wp2
  exact hK _ _ (KeepsFrom.refl _ _) (KR.below (Below.refl _ _)) hI (by rfl)
 case body =>
  rintro lp pre x a' W hlp hlr ⟨vr,h1,h2,h3,h4,h5,h6⟩ rfl hlt
  have e:=stN_le l x.1
  have e2:=x.2
  have hlt2:=rfF_le l
  have hln:=HN.out.1
  rw [Nat.min_eq_left (by omega)]
  subst hT
  obtain⟨ra,rc,rfl⟩:=L14.owns_slice h2
  obtain⟨hx,hzi⟩:=wS_imm (fun _=>0) pre x
  have HP:=Lib.hid (show rS l (fun _=>0) l (pre++[x])=rS l (fun _=>0) l pre++[((stN l x.1:Int),(atI (wS l (fun _=>0) pre) x.1).imm)] from rS_snoc l _ x pre l)
  obtain⟨z,hz⟩:∃ z,(atI (wS l (fun _=>0) pre) x.1).imm=z:=⟨_,rfl⟩
  rw [hz] at HP hzi
  have hc5:W.cell? ⟨kb+1,x.1*6+5,none⟩=some (.int .i64 z):=by
   have:=h3.cells (g:=kb+1) rfl (x.1*6+5) (.int .i64 z) (inC_at hx 5 _ (by rw [← hzi];rfl))
   rwa [L8.add0] at this
  generalize stN l x.1=s at *
  have hsz:=h5.size
  gi_wp2
  refine region_held_in (S:=fun X=>X.cell? ⟨kb+1,x.1*6+5,none⟩=some (.int .i64 z)) (by kernel_rfl) (by kernel_rfl) hc5 (fun hH=>?_)
  have g1:W.drew.heap[kb]?=_:=h1
  have g2:=h2.drew
  have g3:=h3.drew
  have g4:=h4.drew
  have g5:Below w.heap.size w W.drew:=h5.drew
  have g6:W.drew.heap[w.heap.size+1]?=_:=h6
  have gk:=KeepsOthers.drew W
  have gr:KR (kb+1) 0 l.length W W.drew:=KR.below (Below.refl _ _).drew
  have gz:w.heap.size≤W.drew.heap.size:=hsz
  clear h1 h2 h3 h4 h5 h6 hc5 hsz
  generalize W.drew=Wd at *
  refine wpAnyH_take (i:=0) (oi:=⟨some 23,.fieldAddr 26 (.tmp 3) 2,_,_,_,none⟩) (v:=.pointer (some ⟨kb,2,none⟩)) rfl (by kernel_rfl) (by kernel_rfl) (by kernel_rfl) (fun _ _ _ h=>by cases h.1) (Or.inl ⟨by rfl,fun wS hS=>(by go_simp)⟩) hH ?_
  simp only [zz]
  refine wpAnyH_take (i:=2) (oi:=⟨some 25,.move (.tmp 5),_,_,_,none⟩) (v:=.int .i64 (s:Int)) rfl (by kernel_rfl) (by kernel_rfl) (by kernel_rfl) (fun _ _ _ h=>by cases h.1) (Or.inl ⟨by rfl,fun wS hS=>by rfl⟩) hH ?_
  simp only [zz]
  refine wpAnyH_take (i:=3) (oi:=⟨some 26,.move (.tmp 6),_,_,_,none⟩) (v:=.pointer (some ⟨kb+1,x.1*6,none⟩)) rfl (by kernel_rfl) (by kernel_rfl) (by kernel_rfl) (fun _ _ _ h=>by cases h.1) (Or.inl ⟨by rfl,fun wS hS=>by rfl⟩) hH ?_
  simp only [zz]
  refine wpAnyH_take (i:=4) (oi:=⟨some 27,.nilCheck (.tmp 26),_,_,_,none⟩) (v:=.pointer (some ⟨kb+1,x.1*6,none⟩)) rfl (by kernel_rfl) (by kernel_rfl) (by kernel_rfl) (fun _ _ _ h=>by cases h.1) (Or.inl ⟨by rfl,fun wS hS=>(by go_simp)⟩) hH ?_
  simp only [zz]
  refine wpAnyH_take (i:=5) (oi:=⟨some 28,.fieldAddr 45 (.tmp 27) 5,_,_,_,none⟩) (v:=.pointer (some ⟨kb+1,x.1*6+5,none⟩)) rfl (by kernel_rfl) (by kernel_rfl) (by kernel_rfl) (fun _ _ _ h=>by cases h.1) (Or.inl ⟨by rfl,fun wS hS=>(by go_simp)⟩) hH ?_
  simp only [zz]
  refine wpAnyH_take (i:=6) (oi:=⟨some 29,.load 2 (.tmp 28),_,_,_,none⟩) (v:=.int .i64 z) rfl (by kernel_rfl) (by kernel_rfl) (by kernel_rfl) (fun _ _ _ h=>by cases h.1) (Or.inl ⟨by rfl,fun wS hS=>(by have:=hS;go_simp)⟩) hH ?_
  simp only [zz]
  refine wpAnyH_take (i:=7) (oi:=⟨some 30,.build 76 #[(0,.tmp 25),(1,.tmp 29)],_,_,_,none⟩) (v:=.agg #[.int .i64 (s:Int),.int .i64 z]) rfl (by kernel_rfl) (by kernel_rfl) (by kernel_rfl) (fun _ _ _ h=>by cases h.1) (Or.inl ⟨by rfl,fun wS hS=>(by go_simp)⟩) hH ?_
  simp only [zz]
  have hb:=bnew Wd (.cells #[.int .i64 (s:Int),.int .i64 z] 76)
  have f1:=L8.row_up g1 hb
  have f2:=L8.own_below g2 hb
  have f3:=L8.own_below g3 hb
  have f4:=L8.own_below g4 hb
  have f5:=bch g5 hb
  have f6:=L8.row_up g6 hb
  have fk:=gk.trans (KeepsOthers.alloc Wd (.cells #[.int .i64 (s:Int),.int .i64 z] 76))
  have fr:=gr.t (KR.below hb)
  have fc:=cell_up hb hH
  have fn:=heap_alloc_last Wd (.cells #[.int .i64 (s:Int),.int .i64 z] 76)
  have fz:=hb.size
  obtain⟨gn,hgn⟩:∃ gn,Wd.heap.size=gn:=⟨_,rfl⟩
  rw [hgn] at fn fz gz
  refine wpAnyH_ready (rs:=[1,8]) (by kernel_rfl) (by simp) ?_
  refine AllReadyH.cons (o:=⟨some 24,.load 24 (.tmp 23),_,_,_,none⟩) rfl (fun K hK=>?_) (AllReadyH.cons (o:=⟨some 31,.buildSlice 24 1 #[(0,.tmp 30)],_,_,_,none⟩) rfl (fun K hK=>?_) AllReadyH.nil)
  focus
   obtain⟨x0,x1,x2⟩:=L13.cells3 g1
   go_simp
   refine hK.out _ _ hH (fun _=>?_)
   clear hK K x0 x1 x2
   (try simp only [zz])
   refine wpAnyH_ready (rs:=[8]) (by kernel_rfl) (by simp) ?_
   refine AllReadyH.cons (o:=⟨some 31,.buildSlice 24 1 #[(0,.tmp 30)],_,_,_,none⟩) rfl (fun K hK=>?_) AllReadyH.nil
   go_simp
   refine hK.out _ _ fc (fun _=>?_)
   clear hK K
   (try simp only [zz])
  rotate_left
  focus
   go_simp
   refine hK.out _ _ fc (fun _=>?_)
   clear hK K
   (try simp only [zz])
   obtain⟨x0,x1,x2⟩:=L13.cells3 f1
   refine wpAnyH_ready (rs:=[1]) (by kernel_rfl) (by simp) ?_
   refine AllReadyH.cons (o:=⟨some 24,.load 24 (.tmp 23),_,_,_,none⟩) rfl (fun K hK=>?_) AllReadyH.nil
   go_simp
   refine hK.out _ _ fc (fun _=>?_)
   clear hK K x0 x1 x2
   (try simp only [zz])
  all_goals
   (try rw [hgn])
   clear g1 g2 g3 g4 g5 g6 gk gr hH hb
   generalize Wd.alloc (.cells #[.int .i64 (s:Int),.int .i64 z] 76)=W2 at *
   clear hgn
   refine wpAnyH_ready (rs:=[9]) (by kernel_rfl) (by simp) ?_
   refine AllReadyH.cons (o:=⟨some 32,.call ⟨.builtin .append,#[.tmp 24,.tmp 31],#[24,24]⟩,_,_,_,none⟩) rfl (fun K hK=>?_) AllReadyH.nil
   refine step_append_lies _ (by rfl) _ _ _ (by rfl) w.heap.size 76 r0 (.agg #[.int .i64 0,.int .i64 0]) 2 16 Tryz.underlying24 hri hrz0 hrz1 hrz2 rfl (by decide) _ pre.length _ (by rfl) f2 ⟨gn,0,none⟩ 1 1 [.int .i64 (s:Int),.int .i64 z] (by rfl) (by rfl) (World.news_of_block (cs:=#[.int .i64 (s:Int),.int .i64 z]) (t:=76) (fr:=(0,0)) fn) (by simp [Value.oneCell']) (by omega) (by unfold maxLen;omega) (by omega) (by omega) _ rfl ?_
   intro g cap w8 p2 hgr _ _
   have p1:=row_far f1 f2 hgr (by decide)
   have p3:=own_apart f3 f2 hgr (by decide)
   have p4:=own_apart f4 f2 hgr (by decide)
   have p6:=row_far f6 f2 hgr (by decide)
   have p5:=f5.grown hgr f5.size (fun k hk=>(f2.lt k hk).1)
   obtain⟨cb,hcb⟩:=L10.own_ty f3 (g:=kb+1) rfl
   have pk:=fk.trans (KeepsOthers.of_grownBy hgr (fun j o e h=>by
    obtain⟨c,hc⟩:=L10.own_ty f2 e
    rw [hc] at h
    cases h
    rfl))
   have pr:=fr.t (kr_own f2 hgr (by decide) (by decide) hcb (by decide))
   have pc:w8.cell? ⟨kb+1,x.1*6+5,none⟩=some (.int .i64 z):=by
    have:=p3.cells (g:=kb+1) rfl (x.1*6+5) (.int .i64 z) (inC_at hx 5 _ (by rw [← hzi];rfl))
    rwa [L8.add0] at this
   refine hK.out _ _ pc (fun hH3=>?_)
   clear hK K f1 f2 f3 f4 f5 f6 fk fr fc fn hcb hgr
   (try simp only [zz])
   refine wpAnyH_take (i:=10) (oi:=⟨some 33,.fieldAddr 26 (.tmp 3) 2,_,_,_,none⟩) (v:=.pointer (some ⟨kb,2,none⟩)) rfl (by kernel_rfl) (by kernel_rfl) (by kernel_rfl) (fun _ _ _ h=>by cases h.1) (Or.inl ⟨by rfl,fun wS hS=>(by go_simp)⟩) hH3 ?_
   simp only [zz]
   obtain⟨x0,x1,x2⟩:=L13.cells3 p1
   have fz:=frozen_all p1 2
   have q1:=cells_set (k:=2) (v:=.slice (some ⟨g,0,none⟩) (pre.length+1) cap) p1
   have q2:=own_cell (i:=2) (u:=.slice (some ⟨g,0,none⟩) (pre.length+1) cap) p2 p1 (by decide)
   have q3:=own_cell (i:=2) (u:=.slice (some ⟨g,0,none⟩) (pre.length+1) cap) p3 p1 (by decide)
   have q4:=own_cell (i:=2) (u:=.slice (some ⟨g,0,none⟩) (pre.length+1) cap) p4 p1 (by decide)
   have q5:=L10.bel_set p5 (show w.heap.size≤kb by omega) 2 (.slice (some ⟨g,0,none⟩) (pre.length+1) cap)
   have q6:(w8.setCell ⟨kb,2,none⟩ (.slice (some ⟨g,0,none⟩) (pre.length+1) cap)).heap[w.heap.size+1]?=_:=(Below.heap_setCell _ _ _ _ (by show w.heap.size+1≠kb;omega)).trans p6
   have qk:=pk.trans (KeepsOthers.setCell w8 ⟨kb,2,none⟩ (.slice (some ⟨g,0,none⟩) (pre.length+1) cap))
   have qr:=pr.t (kr_ty (L17.gr_setc w8 kb 2 (.slice (some ⟨g,0,none⟩) (pre.length+1) cap)) (fun r e=>by cases e;exact⟨by omega,_,_,_,p1,by decide,by decide⟩))
   have qc:(w8.setCell ⟨kb,2,none⟩ (.slice (some ⟨g,0,none⟩) (pre.length+1) cap)).cell? ⟨kb+1,x.1*6+5,none⟩=some (.int .i64 z):=by
    have:=q3.cells (g:=kb+1) rfl (x.1*6+5) (.int .i64 z) (inC_at hx 5 _ (by rw [← hzi];rfl))
    rwa [L8.add0] at this
   refine wpAnyH_ready (rs:=[11]) (by kernel_rfl) (by simp) ?_
   refine AllReadyH.cons (o:=⟨none,.store 24 (.tmp 33) (.tmp 32),_,_,_,none⟩) rfl (fun K hK=>?_) AllReadyH.nil
   go_simp
   refine hK.out _ _ qc (fun _=>?_)
   clear hK K x0 x1 x2 fz p1 p2 p3 p4 p5 p6 pk pr pc hH3
   (try simp only [zz])
   refine wpAnyH_done (by kernel_rfl) ⟨rfl,?_⟩ _
   generalize w8.setCell ⟨kb,2,none⟩ (.slice (some ⟨g,0,none⟩) (pre.length+1) cap)=W9 at *
   obtain⟨cb,hcb⟩:=L10.own_ty q3 (g:=kb+1) rfl
   have hfz:=q3.frozenAt (x.1*6+5)
   gi_wp2
   obtain⟨t1,t2⟩:=q3.stored (x.1*6+5) (.int .i64 0)
   have hw:=wS_snoc l (fun _=>0) pre x
   rw [← inC_imm _ _ hx,← atI_is hx,← hw] at t1
   refine⟨(qk.trans (KeepsOthers.setCell _ _ _)).from _,qr.t (kr_put hcb rfl),.slice (some ⟨g,0,none⟩) (pre.length+1) cap,(Below.heap_setCell _ _ _ _ (by show kb≠kb+1;omega)).trans q1,?_,t1,own_cell q4 hcb (by decide),L10.bel_set q5 (show w.heap.size≤kb+1 by omega) _ _,(Below.heap_setCell _ _ _ _ (by show w.heap.size+1≠kb+1;omega)).trans q6⟩
   rw [HP.out,List.length_append,List.flatMap_append]
   exact own_cell q2 hcb (by decide)
 case done =>
  rintro D ys W hD rfl ⟨vr,h1,h2,h3,h4,h5,h6⟩ hK
  subst hT
  have hzl:wS l (fun _=>0) (rfF l l.length)=zrL l:=wS_is l _ _ (Nat.le_refl _)
  have hrl:rS l (fun _=>0) l (rfF l l.length)=urT l l.length:=rS_is l _ _ (Nat.le_refl _)
  have hul:(urT l l.length).length=(rfF l l.length).length:=by unfold urT;rw [List.length_map]
  have hrle:=rfF_le l
  rw [hzl,← insL_in,HN.out.1] at h3
  rw [hrl,← hul] at h2
  obtain⟨ra,rc,rfl⟩:=L14.owns_slice h2
  have HJW:=Lib.hid (callsIn_wide (n:=5).2 (join_un (.slice (some ⟨kb+1,0,none⟩) n n) l W (HI.out W h5).2 HN.out.2.2 (L5.own_ins h3) HF.out))
  have hJ0:=h5.size
  obtain⟨rl,hrl2⟩:∃ rl,(urT l l.length).length=rl:=⟨_,rfl⟩
  have HR:=Lib.hid hrl2
  rw [hrl2] at h1 h2
  have HM:=Lib.hid (And.intro h5 (And.intro hK hD))
  clear hzl hrl hul hrl2 h3 h5 hK HI HF HS hI0
  gi_wp2_with (first
   | (refine⟨trivial,?_⟩;gi_at_call 81;refine (HJW.out).mono ?_;rintro e w4 ⟨⟨ca,cc,i,j,rfl,hrow⟩,b4⟩;have k4:=L8.row_up h1 b4;obtain⟨x0,x1,x2⟩:=L13.cells3 k4;have lx:=lt_of_block k4;have fz:=frozen_all k4;have k6:=L8.row_up h6 b4;obtain⟨y0,y1,y2⟩:=L13.cells3 k6;have ly:=lt_of_block k6;have fy:=frozen_all k6))
  have hWD:=HM.out.2.2
  have hKW:=(b4.block D (lt_of_block HM.out.2.1)).trans HM.out.2.1
  have HW:=Lib.hid (And.intro (bch HM.out.1 b4) (And.intro hrow (And.intro (L8.own_below h2 b4) (L8.own_below h4 b4))))
  clear hrow h2 h4 b4 x0 x1 x2 y0 y1 y2 fz fy h6 h1
  have e1:=cells_set (k:=1) (v:=.slice ca (unC l).length cc) k4
  have e2:=(Below.heap_setCell w4 ⟨kb,1,none⟩ (.slice ca (unC l).length cc) (w.heap.size+1) (by show w.heap.size+1≠kb;omega)).trans k6
  have hw5:=fun {B e sz:Nat} {v:Value} {q:Nat} {xs:List Value} (h:w4.ownsRow B e sz v q xs) (ht:26≠e)=>own_cell (i:=1) (u:=.slice ca (unC l).length cc) h k4 ht
  have hb5:=L10.bel_set HW.out.1 (show w.heap.size≤kb by omega) 1 (.slice ca (unC l).length cc)
  have hd5:=(Below.heap_setCell w4 ⟨kb,1,none⟩ (.slice ca (unC l).length cc) D (by show D≠kb;omega)).trans hKW
  generalize w4.setCell ⟨kb,1,none⟩ (.slice ca (unC l).length cc)=W5 at *
  have e3:=cells_set (k:=0) (v:=.slice va d vc) e2
  have e4:=cells_set (k:=1) (v:=.slice ca (unC l).length cc) e3
  have e5:=cells_set (k:=2) (v:=.slice ra rl rc) e4
  have hw8:=fun {B e sz:Nat} {v:Value} {q:Nat} {xs:List Value} (h:W5.ownsRow B e sz v q xs) (ht:26≠e)=>own_cell (i:=2) (u:=.slice ra rl rc) (own_cell (i:=1) (u:=.slice ca (unC l).length cc) (own_cell (i:=0) (u:=.slice va d vc) h e2 ht) e3 ht) e4 ht
  have hb8:=L10.bel_set (L10.bel_set (L10.bel_set hb5 (show w.heap.size≤w.heap.size+1 by omega) 0 (.slice va d vc)) (show w.heap.size≤w.heap.size+1 by omega) 1 (.slice ca (unC l).length cc)) (show w.heap.size≤w.heap.size+1 by omega) 2 (.slice ra rl rc)
  have hd8:=(Below.heap_setCell _ ⟨w.heap.size+1,2,none⟩ (.slice ra rl rc) D (by show D≠w.heap.size+1;omega)).trans ((Below.heap_setCell _ ⟨w.heap.size+1,1,none⟩ (.slice ca (unC l).length cc) D (by show D≠w.heap.size+1;omega)).trans ((Below.heap_setCell _ ⟨w.heap.size+1,0,none⟩ (.slice va d vc) D (by show D≠w.heap.size+1;omega)).trans hd5))
  generalize ((W5.setCell ⟨w.heap.size+1,0,none⟩ (.slice va d vc)).setCell ⟨w.heap.size+1,1,none⟩ (.slice ca (unC l).length cc)).setCell ⟨w.heap.size+1,2,none⟩ (.slice ra rl rc)=W8 at *
  have hSp:=(World.putObj_heap_other (o:=.deferred none) (show w.heap.size+1≠D by omega)).trans e5
  obtain⟨z0,z1,z2⟩:=L13.cells3 hSp
  refine⟨by simp,.inl ⟨_,_,rfl,run_takeDeferred hd8,?_⟩⟩
  refine⟨.agg #[.slice va d vc,.slice ca (unC l).length cc,.slice ra rl rc],by simp [results,Tryz.results44,go_sem,z0,z1,z2],⟨_,_,_,rfl,?_⟩,hb8.trans (belowK_b (w:=w) (Nat.le_refl _) _ D _ _ (by omega) hd8 rfl rfl)⟩
  have t1:=ownsRow_putObj (hw8 (hw5 HW.out.2.2.2 (by decide)) (by decide)) (.deferred none) hd8 rfl
  have t2:=ownsRow_putObj (hw8 (hw5 HW.out.2.2.1 (by decide)) (by decide)) (.deferred none) hd8 rfl
  have t3:=ownsRow_putObj (hw8 (hw5 HW.out.2.1 (by decide)) (by decide)) (.deferred none) hd8 rfl
  rw [← HN.out.2.1] at t1 ⊢
  rw [← HR.out] at t2 ⊢
  exact⟨t1,own_weak t3 HM.out.1.size,t2⟩
 case stop =>
  rintro D c pre W hD hp h hK
  exact absurd h (by simp)
end Go.Proofs.YtdgnjhhieemcaaaGreatDoor.L18
