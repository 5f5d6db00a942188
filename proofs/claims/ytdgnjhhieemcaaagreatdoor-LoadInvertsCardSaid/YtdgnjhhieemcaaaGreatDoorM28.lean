/- Lemmas and walks of L0Tbi, L16Co, L16Cy, L13Txt, L16Op: what each theorem states; conditions stand in each theorem. -/
import Derived.Test.YtdgnjhhieemcaaaGreatDoorM24
import Derived.Test.YtdgnjhhieemcaaaGreatDoorL13Asm
set_option maxHeartbeats 4000000
set_option maxRecDepth 100000
section
namespace Go.Proofs.YtdgnjhhieemcaaaGreatDoor.Tab
open Go
section
variable {F:Fence} {m:Nat} {P:Program} {md:Region.Mode} {ops:Array Oper} {Q:Exit→Act→World→Prop} {S:World→Prop}
def AtI (F:Fence) (m:Nat) (P:Program) (ops:Array Oper) (S:World→Prop) (aF:Act) (o:Oper) (w:World):Prop :=
 if Region.wanted o (yielded ops aF.tmps) then o.uponIn F m P aF (fun a' w'=>a'=aF∧S w') NoQ ((execOp aF.eval o).run P w) else aF.put o.dst undef=aF
def AvI (F:Fence) (m:Nat) (P:Program) (ops:Array Oper) (S:World→Prop) (a:Act) (v:Value) (o:Oper) (w:World):Prop :=
 if Region.wanted o (yielded ops a.tmps) then o.uponIn F m P a (fun a' w'=>a'=a.put o.dst v∧S w') NoQ ((execOp a.eval o).run P w) else v=undef
theorem ev_same {o:Oper} {a b:Act} (hsel:∀ cs d,o.op≠.select cs d) (hag:∀ t∈o.looksAt ops,a.tmps[t]?=b.tmps[t]?):execOp a.eval o=execOp b.eval o∧Region.wanted o (yielded ops a.tmps)=Region.wanted o (yielded ops b.tmps):=by
 constructor
 ·exact execOp_congr o hsel fun x hx=>by
   cases x with
   | tmp t =>
    have:=hag t (List.mem_append_left _ (List.mem_filterMap.2 ⟨.tmp t,by simpa using hx,rfl⟩))
    simp only [Act.eval,Array.getD_eq_getD_getElem?,this]
   | _=>rfl
 ·unfold Region.wanted
  cases hg:o.guard with
  | none=>rfl
  | some gw =>
   obtain⟨g,want⟩:=gw
   have hy:yielded ops a.tmps g=yielded ops b.tmps g:=by
    unfold yielded
    cases ht:(ops[g]?).bind (·.dst) with
    | none=>rfl
    | some t=>simp only [Option.bind_some,hag t (by simp [Oper.looksAt,hg,ht])]
   simp only [hy]
theorem uponI_to {o:Oper} {a b:Act} {C D:Act→World→Prop} {r:Result Next} (hd:∀ d w',¬ C ({ a with defers:=d::a.defers }.put o.dst undef) w') (h:∀ u w',C (a.put o.dst u) w'→D (b.put o.dst u) w') (hu:o.uponIn F m P a C NoQ r):o.uponIn F m P b D Q r:=by
 cases r with
 | ok x w' =>
  cases x <;> simp only [Oper.uponIn] at hu ⊢
  case value u=>exact h _ _ hu
  case skip=>exact h _ _ hu
  case defer d=>exact absurd hu (hd _ _)
  case enter f args =>
   refine⟨hu.1,CallsIn.mono hu.2 fun e w'' he=>?_⟩
   cases e with
   | returned u=>exact h _ _ he
   | panicked c=>exact absurd he (fun h=>h)
   | outgrown=>obtain⟨_,_,h⟩:=he;exact absurd h (fun h=>h)
  case row row args=>exact⟨hu.1,RowsIn.mono hu.2 fun u w'' he=>h _ _ he⟩
  case round l f tmps assign body =>
   refine⟨hu.1,RoundIn.mono hu.2 fun e w'' he=>?_⟩
   cases e with
   | returned u=>exact h _ _ he
   | panicked c=>exact absurd he (fun h=>h)
   | outgrown=>obtain⟨_,_,h⟩:=he;exact absurd h (fun h=>h)
 | halt x w' =>
  cases x <;> simp only [Oper.uponIn] at hu ⊢
  case panic u=>exact absurd hu (fun h=>h)
theorem put_len (a:Act) (d:Deferred) (x:Option Tmp) (v:Value):({ a with defers:=d::a.defers }.put x v).defers.length≠a.defers.length:=by cases x <;> simp [Act.put]
theorem put_def (a:Act) (x:Option Tmp) (v:Value):(a.put x v).defers=a.defers:=by cases x <;> rfl
theorem wpOpI_same {i:Nat} {o:Oper} {aF a:Act} {v:Value} {w:World} (hF:∀ f,F.fn f) (ho:ops[i]?=some o) (hsel:∀ cs b,o.op≠.select cs b) (hdf:∀ c,o.op≠.defer c) (hag:∀ t∈o.looksAt ops,a.tmps[t]?=aF.tmps[t]?)
  (hv:∀ t,o.dst=some t→aF.tmps[t]?=some v) (hS:S w) (h:AtI F m P ops S aF o w):wpOpIn F m P ops Q i (fun a' w'=>a'=a.put o.dst v∧S w') a w:=by
 obtain⟨he,hw⟩:=ev_same (a:=a) (b:=aF) hsel hag
 unfold wpOpIn
 simp only [ho,hw]
 unfold AtI at h
 split
 ·rename_i hc
  rw [if_pos hc] at h
  refine⟨fun f _=>hF f,?_⟩
  rw [Oper.semAt_eq _ _ _ hdf,he]
  exact uponI_to (fun d w' hh=>put_len aF d o.dst undef (by rw [hh.1])) (fun u w' hh=>⟨put_at hv hh.1,hh.2⟩) h
 ·rename_i hc
  rw [if_neg hc] at h
  exact⟨fun f _=>hF f,put_at hv h,hS⟩
theorem atI_of {o:Oper} {aF a:Act} {v:Value} {w:World} (hsel:∀ cs b,o.op≠.select cs b) (hag:∀ t∈o.looksAt ops,aF.tmps[t]?=a.tmps[t]?) (hd:∀ t,o.dst=some t→t<a.tmps.size)
  (hv:∀ t,o.dst=some t→aF.tmps[t]?=some v) (h:AvI F m P ops S a v o w):AtI F m P ops S aF o w:=by
 obtain⟨he,hw⟩:=ev_same (a:=aF) (b:=a) hsel hag
 have self:aF.put o.dst v=aF:=by
  cases hc:o.dst with
  | none=>rfl
  | some t =>
   have h1:=hv t hc
   have hlt:t<aF.tmps.size:=(Array.getElem?_eq_some_iff.1 h1).1
   have:aF.tmps.setIfInBounds t v=aF.tmps:=by
    apply Array.ext_getElem?
    intro j
    by_cases hj:t=j
    ·subst hj;rw [h1];simp [hlt]
    ·rw [Array.getElem?_setIfInBounds_ne hj]
   simp only [Act.put,this]
 have key:∀ u,a.put o.dst u=a.put o.dst v→aF.put o.dst u=aF:=fun u hu=>by
  cases hc:o.dst with
  | none=>rfl
  | some t =>
   rw [hc] at hu self
   have:=congrArg (fun b:Act=>b.tmps[t]?) hu
   simp [Act.put,hd t hc] at this
   rw [this];exact self
 unfold AtI
 unfold AvI at h
 rw [hw,he]
 split
 ·rename_i hc
  rw [if_pos hc] at h
  exact uponI_to (fun d w' hh=>put_len a d o.dst undef (by rw [hh.1,put_def])) (fun u w' hh=>⟨key u hh.1,hh.2⟩) h
 ·rename_i hc
  rw [if_neg hc] at h
  rw [← h];exact self
def rch (md:Region.Mode) (ops:Array Oper):Nat→Nat→Nat→Bool
 | 0,_,_=>false
 | k+1,i,j=>match ops[i]? with
  | none=>false
  | some o=>o.after.any fun e=>Region.binds md e && (e.on==j || rch md ops k e.on j)
def Dc (md:Region.Mode) (ops:Array Oper) (listed:Array Bool):Prop:=∀ (i:Nat) (o:Oper),ops[i]?=some o→listed.getD i false=true→∀ e∈o.after,Region.binds md e=true→listed.getD e.on false=true
theorem rch_listed {listed:Array Bool} (hd:Dc md ops listed):∀ (k i j:Nat),(∀ o,ops[i]?=some o→∀ e∈o.after,Region.binds md e=true→listed.getD e.on false=true)→rch md ops k i j=true→listed.getD j false=true
 | 0,_,_,_,h=>by cases h
 | k+1,i,j,hi,h=>by
  rw [rch] at h
  cases ho:ops[i]? with
  | none=>rw [ho] at h;cases h
  | some o =>
   rw [ho] at h
   simp only [Array.any_eq_true] at h
   obtain⟨q,hq,hb⟩:=h
   simp only [Bool.and_eq_true,Bool.or_eq_true,beq_iff_eq] at hb
   have hl:=hi o ho _ (Array.getElem_mem hq) hb.1
   rcases hb.2 with e|e
   ·rw [← e];exact hl
   ·exact rch_listed hd k _ j (fun o' ho'=>hd _ o' ho' hl) e
def barOk (md:Region.Mode) (ops:Array Oper) (L0 L1:Array Bool) (p q:Nat):Bool :=
 L0.size==ops.size && L1.size==ops.size && (List.range ops.size).all fun i=>(L1.getD i false==(L0.getD i false || (decide (p≤i) && decide (i<q)))) && (!(decide (p≤i) && decide (i<q)) || !L0.getD i false) &&
  (L1.getD i false || (List.range (q-p)).all fun j=>rch md ops ops.size i (p+j)) && (!L0.getD i false || match ops[i]? with
   | some o=>o.after.all fun e=>!Region.binds md e || L0.getD e.on false
   | none=>true)
structure Bar (md:Region.Mode) (ops:Array Oper) (L0 L1:Array Bool) (p q:Nat):Prop where
 s0:L0.size=ops.size
 s1:L1.size=ops.size
 l1:∀ i,i<ops.size→L1.getD i false=(L0.getD i false || (decide (p≤i) && decide (i<q)))
 l0:∀ i,i<ops.size→p≤i→i<q→L0.getD i false=false
 wait:∀ i,i<ops.size→L1.getD i false=false→∀ j,p≤j→j<q→rch md ops ops.size i j=true
 dc:Dc md ops L0
theorem bar_of {L0 L1:Array Bool} {p q:Nat} (h:barOk md ops L0 L1 p q=true):Bar md ops L0 L1 p q:=by
 unfold barOk at h
 simp only [Bool.and_eq_true,beq_iff_eq,List.all_eq_true,List.mem_range,Bool.or_eq_true,Bool.not_eq_true'] at h
 obtain⟨⟨h0,h1⟩,h2⟩:=h
 refine⟨h0,h1,fun i hi=>(h2 i hi).1.1.1,fun i hi hp hq=>?_,fun i hi hl j hp hq=>?_,fun i o ho hl e he hb=>?_⟩
 ·rcases (h2 i hi).1.1.2 with h|h
  ·simp [hp,hq] at h
  ·exact h
 ·rcases (h2 i hi).1.2 with h|h
  ·rw [hl] at h;cases h
  ·have:=h (j-p) (by omega)
   rwa [Nat.add_sub_cancel' hp] at this
 ·have hi:=(Array.getElem?_eq_some_iff.1 ho).1
  rcases (h2 i hi).2 with h|h
  ·rw [hl] at h;cases h
  ·rw [ho] at h
   simp only [Array.all_eq_true_iff_forall_mem,Bool.or_eq_true,Bool.not_eq_true'] at h
   exact (h e he).resolve_left (by rw [hb];simp)
structure FitI (ops:Array Oper) (aF:Act) (L0 L1 listed:Array Bool) (p q:Nat) (a:Act):Prop where
 d:a.defers=aF.defers
 s:a.tmps.size=aF.tmps.size
 l:listed.size=ops.size
 lo:∀ i,L0.getD i false=true→listed.getD i false=true
 hi:∀ i,listed.getD i false=true→L1.getD i false=true
 w:∀ (i:Nat) (o:Oper) (t:Nat),ops[i]?=some o→o.dst=some t→listed.getD i false=true→a.tmps[t]?=aF.tmps[t]?
 o:∀ t:Nat,(∀ (i:Nat) (o:Oper),ops[i]?=some o→p≤i→i<q→o.dst≠some t)→a.tmps[t]?=aF.tmps[t]?
theorem getD_tf {L:Array Bool} {i:Nat} (h:i<L.size):L.getD i true=L.getD i false:=by simp [h]
theorem goI {aF:Act} {L0 L1:Array Bool} {p q:Nat} (hF:∀ f,F.fn f) (hk:Tk md ops aF.tmps.size) (hdf:∀ (i:Nat) (o:Oper),ops[i]?=some o→∀ c,o.op≠.defer c) (hb:Bar md ops L0 L1 p q)
  (h:∀ (i:Nat) (o:Oper),ops[i]?=some o→p≤i→i<q→∀ w,S w→AtI F m P ops S aF o w) (hq:∀ fuel w,S w→(left ops L1).length≤fuel→wpAnyIn F m P md ops Q fuel L1 aF w) :
  ∀ (fuel:Nat) (listed:Array Bool) (a:Act) (w:World),(left ops listed).length≤fuel→Dc md ops listed→FitI ops aF L0 L1 listed p q a→S w→wpAnyIn F m P md ops Q fuel listed a w:=by
 have fin:∀ (fuel:Nat) (listed:Array Bool) (a:Act) (w:World),(left ops listed).length≤fuel→FitI ops aF L0 L1 listed p q a→S w→(∀ i,p≤i→i<q→i<ops.size→listed.getD i false=true)→wpAnyIn F m P md ops Q fuel listed a w:=fun fuel listed a w hl hf hS hall=>by
  have e1:listed=L1:=by
   apply Array.ext
   ·rw [hf.l,hb.s1]
   intro i h1 h2
   have hi:i<ops.size:=by rw [← hf.l];exact h1
   have g1:listed.getD i false=listed[i]:=by simp [h1]
   have g2:L1.getD i false=L1[i]:=by simp [h2]
   rw [← g1,← g2]
   cases hc:listed.getD i false with
   | true=>exact (hf.hi i hc).symm
   | false =>
    cases hc1:L1.getD i false with
    | false=>rfl
    | true =>
     rw [hb.l1 i hi,Bool.or_eq_true] at hc1
     rcases hc1 with e|e
     ·rw [hf.lo i e] at hc;cases hc
     ·simp only [Bool.and_eq_true,decide_eq_true_eq] at e
      rw [hall i e.1 e.2 hi] at hc;cases hc
  have e2:a=aF:=by
   have ht:a.tmps=aF.tmps:=by
    apply Array.ext_getElem?
    intro t
    by_cases hc:∃ (i:Nat) (o:Oper),ops[i]?=some o∧p≤i∧i<q∧o.dst=some t
    ·obtain⟨i,o,ho,hp,hq',hd⟩:=hc
     exact hf.w i o t ho hd (hall i hp hq' (Array.getElem?_eq_some_iff.1 ho).1)
    ·exact hf.o t fun i o ho hp hq' hd=>hc ⟨i,o,ho,hp,hq',hd⟩
   have hd:=hf.d
   cases a;cases aF
   simp only at ht hd
   rw [ht,hd]
  subst e1 e2
  exact hq fuel w hS hl
 intro fuel
 induction fuel with
 | zero =>
  intro listed a w hl hdc hf hS
  refine fin 0 listed a w hl hf hS fun i hp hq' hi=>?_
  have hz:left ops listed=[]:=List.eq_nil_of_length_eq_zero (by omega)
  cases hc:listed.getD i false with
  | true=>rfl
  | false =>
   have:i∈left ops listed:=List.mem_filter.2 ⟨List.mem_range.2 hi,by rw [getD_tf (by rw [hf.l];exact hi),hc];rfl⟩
   rw [hz] at this;cases this
 | succ fuel ih =>
  intro listed a w hl hdc hf hS
  by_cases hall:∀ i,p≤i→i<q→i<ops.size→listed.getD i false=true
  ·exact fin _ listed a w hl hf hS hall
  obtain⟨z,hz⟩:∃ z,p≤z∧z<q∧z<ops.size∧listed.getD z false=false:=by
   apply Classical.byContradiction
   intro hn
   exact hall fun i hp hq' hi=>by
    cases hc:listed.getD i false with
    | true=>rfl
    | false=>exact absurd ⟨i,hp,hq',hi,hc⟩ hn
  have inD:∀ i∈Region.ready md ops listed,p≤i∧i<q:=fun i hi=>by
   obtain⟨h0,o,ho,haft⟩:=mem_ready.1 hi
   have hi':=(Array.getElem?_eq_some_iff.1 ho).1
   have h0':listed.getD i false=false:=by rw [← getD_tf (by rw [hf.l];exact hi')];exact h0
   cases hc:L1.getD i false with
   | false =>
    have:=rch_listed hdc _ i z (fun o' ho'=>by rw [ho] at ho';cases ho';exact haft) (hb.wait i hi' hc z hz.1 hz.2.1)
    rw [hz.2.2.2] at this;cases this
   | true =>
    rw [hb.l1 i hi',Bool.or_eq_true] at hc
    rcases hc with e|e
    ·rw [hf.lo i e] at h0';cases h0'
    ·simpa using e
  refine⟨fun hr=>?_,fun i hi=>?_⟩
  ·exfalso
   have key:∀ k i,i≤k→p≤i→i<q→i<ops.size→listed.getD i false=true∨∃ j,j∈Region.ready md ops listed:=by
    intro k
    induction k with
    | zero =>
     intro i hik hp hq' hi
     cases hc:listed.getD i false with
     | true=>exact .inl rfl
     | false =>
      obtain⟨o,ho⟩:∃ o,ops[i]?=some o:=⟨_,Array.getElem?_eq_getElem hi⟩
      exact .inr ⟨i,mem_ready.2 ⟨by rw [getD_tf (by rw [hf.l];exact hi)];exact hc,o,ho,fun e he hbd=>by have:=hk.lt i o ho e he hbd;omega⟩⟩
    | succ k ihk =>
     intro i hik hp hq' hi
     cases hc:listed.getD i false with
     | true=>exact .inl rfl
     | false =>
      obtain⟨o,ho⟩:∃ o,ops[i]?=some o:=⟨_,Array.getElem?_eq_getElem hi⟩
      by_cases haft:∀ e∈o.after,Region.binds md e=true→listed.getD e.on false=true
      ·exact .inr ⟨i,mem_ready.2 ⟨by rw [getD_tf (by rw [hf.l];exact hi)];exact hc,o,ho,haft⟩⟩
      ·obtain⟨e,he⟩:∃ e,e∈o.after∧Region.binds md e=true∧listed.getD e.on false=false:=by
        apply Classical.byContradiction
        intro hn
        exact haft fun e he hbd=>by
         cases hce:listed.getD e.on false with
         | true=>rfl
         | false=>exact absurd ⟨e,he,hbd,hce⟩ hn
       have hlt:=hk.lt i o ho e he.1 he.2.1
       have hin:p≤e.on∧e.on<q:=by
        cases hc1:L1.getD e.on false with
        | true =>
         rw [hb.l1 _ (by omega),Bool.or_eq_true] at hc1
         rcases hc1 with g|g
         ·have:=hf.lo _ g;rw [he.2.2] at this;cases this
         ·simpa using g
        | false =>
         exfalso
         have hr2:=hb.wait e.on (by omega) hc1 i hp hq'
         have:∀ (k a b:Nat),rch md ops k a b=true→b<a:=by
          intro k
          induction k with
          | zero=>intro a b h;cases h
          | succ k ihr =>
           intro a b h
           rw [rch] at h
           cases hoa:ops[a]? with
           | none=>rw [hoa] at h;cases h
           | some oa =>
            rw [hoa] at h
            simp only [Array.any_eq_true] at h
            obtain⟨x,hx,hb'⟩:=h
            simp only [Bool.and_eq_true,Bool.or_eq_true,beq_iff_eq] at hb'
            have h1:=hk.lt a oa hoa _ (Array.getElem_mem hx) hb'.1
            rcases hb'.2 with g|g
            ·omega
            ·have:=ihr _ _ g;omega
         have:=this _ _ _ hr2
         omega
       rcases ihk e.on (by omega) hin.1 hin.2 (by omega) with g|g
       ·rw [he.2.2] at g;cases g
       ·exact .inr g
   rcases key z z (Nat.le_refl _) hz.1 hz.2.1 hz.2.2.1 with g|⟨j,g⟩
   ·rw [hz.2.2.2] at g;cases g
   ·rw [hr] at g;cases g
  ·obtain⟨hp,hq'⟩:=inD i hi
   obtain⟨h0,o,ho,haft⟩:=mem_ready.1 hi
   have hi':=(Array.getElem?_eq_some_iff.1 ho).1
   obtain⟨v,hv⟩:∃ v,∀ t,o.dst=some t→aF.tmps[t]?=some v:=by
    cases hd:o.dst with
    | none=>exact⟨undef,fun t h=>by cases h⟩
    | some t=>exact⟨aF.tmps[t]'(hk.dst i o t ho hd),fun t' h=>by cases h;exact Array.getElem?_eq_getElem _⟩
   refine wpOpIn_mono (fun a' w' ha=>?_) (wpOpI_same (v:=v) hF ho (hk.sel i o ho) (hdf i o ho) (fun t ht=>?_) hv hS (h i o ho hp hq' w hS))
   ·obtain⟨rfl,hS'⟩:=ha
    refine ih _ _ _ (by have:=left_set hf.l hi' h0;omega) ?_ ⟨?_,?_,?_,?_,?_,?_,?_⟩ hS'
    ·intro j y hj hlist e he hbd
     by_cases hij:i=j
     ·subst hij
      rw [ho] at hj;cases hj
      exact getD_set_true (haft e he hbd)
     ·rw [getD_set_ne false hij] at hlist
      exact getD_set_true (hdc j y hj hlist e he hbd)
    ·rw [put_def];exact hf.d
    ·cases hd:o.dst <;> simp [Act.put,hf.s]
    ·rw [Array.size_setIfInBounds];exact hf.l
    ·exact fun j hj=>getD_set_true (hf.lo j hj)
    ·intro j hj
     by_cases hij:i=j
     ·subst hij;rw [hb.l1 i hi'];simp [hp,hq']
     ·rw [getD_set_ne false hij] at hj;exact hf.hi j hj
    ·intro j y t hj hy hlist
     by_cases hij:i=j
     ·subst hij
      rw [ho] at hj
      cases hj
      have hlt:=hk.dst i o t ho hy
      rw [hv t hy,hy]
      simp [Act.put,hf.s,hlt]
     ·rw [getD_set_ne false hij] at hlist
      have:=hf.w j y t hj hy hlist
      cases hd:o.dst with
      | none=>exact this
      | some d =>
       have hne:d≠t:=fun e=>hij (hk.one i o d ho hd j y hj (by rw [hy,e]))
       simp only [Act.put,Array.getElem?_setIfInBounds_ne hne]
       exact this
    ·intro t ht
     have:=hf.o t ht
     cases hd:o.dst with
     | none=>exact this
     | some d =>
      have hne:d≠t:=fun e=>ht i o ho hp hq' (by rw [hd,e])
      simp only [Act.put,Array.getElem?_setIfInBounds_ne hne]
      exact this
   ·by_cases hc:∃ (j:Nat) (y:Oper),ops[j]?=some y∧y.dst=some t
    ·obtain⟨j,y,hj,hy⟩:=hc
     obtain⟨e,he,hbd,rfl⟩:=hk.look j y t hj hy i o ho ht
     exact hf.w _ y t hj hy (haft e he hbd)
    ·exact hf.o t fun j y hj _ _ hy=>hc ⟨j,y,hj,hy⟩
def TI (F:Fence) (m:Nat) (P:Program) (ops:Array Oper) (S:World→Prop) (E:Act→Prop):List Oper→Act→Prop
 | [],a=>E a
 | o::r,a=>∃ v,(∀ w,S w→AvI F m P ops S a v o w)∧TI F m P ops S E r (a.put o.dst v)
theorem ti_all {E:Act→Prop}:∀ (l:List Oper) (a:Act),(∀ o∈l,(∀ cs b,o.op≠.select cs b)∧∀ d,o.dst=some d→d<a.tmps.size∧d∉o.looksAt ops)→l.Pairwise (fun x y=>∀ d,y.dst=some d→d∉x.looksAt ops∧x.dst≠some d)→TI F m P ops S E l a →
  ∃ aF,aF.defers=a.defers∧aF.tmps.size=a.tmps.size∧(∀ t:Nat,(∀ o∈l,o.dst≠some t)→aF.tmps[t]?=a.tmps[t]?)∧(∀ o∈l,∀ w,S w→AtI F m P ops S aF o w)∧E aF
 | [],a,_,_,h=>⟨a,rfl,rfl,fun _ _=>rfl,fun _ h=>(by cases h),h⟩
 | o::r,a,h1,h2,⟨v,h3,h4⟩=>by
  rw [List.pairwise_cons] at h2
  have hsz:∀ d x,(a.put d x).tmps.size=a.tmps.size∧(a.put d x).defers=a.defers:=fun d x=>by cases d <;> simp [Act.put]
  obtain⟨aF,k1,k2,k3,k4,k5⟩:=ti_all r (a.put o.dst v) (fun x hx=>by rw [(hsz _ _).1];exact h1 x (List.mem_cons_of_mem _ hx)) h2.2 h4
  have hput:∀ t:Nat,o.dst≠some t→(a.put o.dst v).tmps[t]?=a.tmps[t]?:=fun t ht=>by
   cases hd:o.dst with
   | none=>rfl
   | some d =>
    have hne:d≠t:=fun e=>ht (by rw [hd,e])
    simp only [Act.put,Array.getElem?_setIfInBounds_ne hne]
  obtain⟨q1,q2⟩:=h1 o (List.mem_cons_self ..)
  refine⟨aF,by rw [k1,(hsz _ _).2],by rw [k2,(hsz _ _).1],fun t ht=>by rw [k3 t fun x hx=>ht x (List.mem_cons_of_mem _ hx),hput t (ht o (List.mem_cons_self ..))],fun x hx w hS=>?_,k5⟩
  rcases List.mem_cons.1 hx with rfl|hx
  ·refine atI_of q1 (fun t ht=>?_) (fun t ht=>(q2 t ht).1) (fun t ht=>?_) (h3 w hS)
   ·rw [k3 t fun y hy e=>(h2.1 y hy t e).1 ht,hput t fun e=>(q2 t e).2 ht]
   ·rw [k3 t fun y hy e=>(h2.1 y hy t e).2 ht,ht]
    simp [Act.put,(q2 t ht).1]
  ·exact k4 x hx w hS
def noDefer (ops:Array Oper):Bool:=ops.all fun o=>match o.op with | .defer _=>false|_=>true
theorem noDefer_spec (h:noDefer ops=true) (i:Nat) (o:Oper) (ho:ops[i]?=some o) (c:Call):o.op≠.defer c:=fun e=>by
 unfold noDefer at h
 rw [Array.all_eq_true_iff_forall_mem] at h
 have:=h o (Array.mem_of_getElem? ho)
 rw [e] at this;cases this
theorem intA {L0 L1:Array Bool} (p q:Nat) {a:Act} {E:Act→Prop} (hF:∀ f,F.fn f) (hk:Tk md ops a.tmps.size) (hdf:noDefer ops=true) (hb:Bar md ops L0 L1 p q) (h:TI F m P ops S E ((ops.toList.drop p).take (q-p)) a)
  (hE:∀ aF,E aF→∀ fuel w,S w→(left ops L1).length≤fuel→wpAnyIn F m P md ops Q fuel L1 aF w):∀ fuel w,S w→(left ops L0).length≤fuel→wpAnyIn F m P md ops Q fuel L0 a w:=by
 have len:∀ i,i<((ops.toList.drop p).take (q-p)).length→p+i<ops.size∧p+i<q:=fun i hi=>by
  simp only [List.length_take,List.length_drop,Array.length_toList] at hi;omega
 have get:∀ i (hi:i<((ops.toList.drop p).take (q-p)).length),ops[p+i]?=some ((ops.toList.drop p).take (q-p))[i]:=fun i hi=>by
  rw [List.getElem_take,List.getElem_drop]
  have:=(len i hi).1
  simp [this]
 have mem:∀ o∈(ops.toList.drop p).take (q-p),∃ i:Nat,ops[i]?=some o∧p≤i∧i<q:=fun o ho=>by
  obtain⟨i,hi,rfl⟩:=List.mem_iff_getElem.1 ho
  exact⟨p+i,get i hi,by omega,(len i hi).2⟩
 have self:∀ (i:Nat) (o:Oper) (d:Nat),ops[i]?=some o→o.dst=some d→d∉o.looksAt ops:=fun i o d ho hd hl=>by
  obtain⟨e,he,hb,h1⟩:=hk.look i o d ho hd i o ho hl
  have:=hk.lt i o ho e he hb
  omega
 obtain⟨aF,k1,k2,k3,k4,k5⟩:=ti_all _ a (fun o ho=>by
  obtain⟨i,hi,-⟩:=mem o ho
  exact⟨hk.sel i o hi,fun d hd=>⟨hk.dst i o d hi hd,self i o d hi hd⟩⟩) (by
  rw [List.pairwise_iff_getElem]
  intro i j hi hj hij d hd
  have gi:=get i hi
  have gj:=get j hj
  refine⟨fun hl=>?_,fun e=>?_⟩
  ·obtain⟨e,he,hb,h1⟩:=hk.look _ _ d gj hd _ _ gi hl
   have:=hk.lt _ _ gi e he hb
   omega
  ·have:=hk.one _ _ d gi e _ _ gj hd
   omega) h
 intro fuel w hS hl
 refine goI (aF:=aF) (L0:=L0) (L1:=L1) (p:=p) (q:=q) hF (by rw [k2];exact hk) (noDefer_spec hdf) hb (fun i o ho hp hq=>k4 o ?_) (hE aF k5) fuel L0 a w hl hb.dc ⟨k1.symm,k2.symm,hb.s0,fun i h=>h,fun i h=>?_,fun i o t ho hd hl=>?_,fun t ht=>?_⟩ hS
 ·have hi:=(Array.getElem?_eq_some_iff.1 ho).1
  have hx:i-p<((ops.toList.drop p).take (q-p)).length:=by simp only [List.length_take,List.length_drop,Array.length_toList];omega
  have:=get (i-p) hx
  rw [Nat.add_sub_cancel' hp,ho] at this
  rw [Option.some.inj this]
  exact List.getElem_mem _
 ·have hi:i<ops.size:=by
   rcases Nat.lt_or_ge i ops.size with g|g
   ·exact g
   ·rw [← hb.s0] at g
    simp [Array.getElem?_eq_none g] at h
  rw [hb.l1 i hi,h];rfl
 ·rw [k3]
  intro y hy e
  obtain⟨j,hj,hp,hq⟩:=mem y hy
  have hij:=hk.one i o t ho hd j y hj e
  subst hij
  rw [hb.l0 i (Array.getElem?_eq_some_iff.1 ho).1 hp hq] at hl
  cases hl
 ·rw [k3]
  intro y hy e
  obtain⟨j,hj,hp,hq⟩:=mem y hy
  exact ht j y hj hp hq e
def StI (F:Fence) (m:Nat) (P:Program) (ops:Array Oper) (S:World→Prop) (n:Nat) (K:Kl) (o:Oper) (v:Value):Prop :=
 kok ops K n o=true∧∀ w,S w→if Region.wanted o (ky ops K) then ((∃ w',(execOp (kv K) o).run P w=.ok (.value v) w'∧S w')∨∃ f args,(execOp (kv K) o).run P w=.ok (.enter f args) w∧(F.depth.isSome=true→1≤m)∧CallsIn F (m-1) P f args w fun e w'=>e=.returned v∧S w') else v=undef
def WI (F:Fence) (m:Nat) (P:Program) (ops:Array Oper) (S:World→Prop) (n:Nat) (C:Kl→Prop):List Oper→Kl→Prop
 | [],K=>C K
 | o::r,K=>∃ v,StI F m P ops S n K o v∧WI F m P ops S n C r (kput K o.dst v)
theorem kn_ev {n:Nat} {K:Kl} {o:Oper} {a:Act} (ha:Kn K n a) (hk:kok ops K n o=true):execOp a.eval o=execOp (kv K) o∧Region.wanted o (yielded ops a.tmps)=Region.wanted o (ky ops K)∧∀ t,o.dst=some t→t<n:=by
 unfold kok at hk
 rw [Bool.and_eq_true,Bool.and_eq_true,List.all_eq_true] at hk
 obtain⟨⟨k1,k2⟩,k3⟩:=hk
 have hget:∀ t∈o.looksAt ops,a.tmps[t]?=kf K t:=fun t ht=>by
  have:=k1 t ht
  rw [Option.isSome_iff_exists] at this
  obtain⟨x,hx⟩:=this
  rw [hx,ha.k t x hx]
 refine⟨execOp_congr o (fun cs b e=>by rw [e] at k2;cases k2) fun x hx=>?_,?_,fun t ht=>by rw [ht] at k3;simpa using k3⟩
 ·cases x with
  | tmp t =>
   have:=hget t (List.mem_append_left _ (List.mem_filterMap.2 ⟨.tmp t,by simpa using hx,rfl⟩))
   simp only [Act.eval,kv,Array.getD_eq_getD_getElem?,this]
  | _=>rfl
 ·unfold Region.wanted
  cases hg:o.guard with
  | none=>rfl
  | some gw =>
   obtain⟨g,want⟩:=gw
   have hy:yielded ops a.tmps g=ky ops K g:=by
    unfold yielded ky
    cases ht:(ops[g]?).bind (·.dst) with
    | none=>rfl
    | some t=>simp only [Option.bind_some,hget t (by simp [Oper.looksAt,hg,ht])];rfl
   simp only [hy]
theorem wi_ti {n:Nat} {C:Kl→Prop} {df:List Deferred}:∀ (l:List Oper) (K:Kl) (a:Act),WI F m P ops S n C l K→Kn K n a→a.defers=df→TI F m P ops S (fun a'=>∃ K',Kn K' n a'∧a'.defers=df∧C K') l a
 | [],K,_,h,ha,hd=>⟨K,ha,hd,h⟩
 | o::r,K,a,⟨v,h1,h2⟩,ha,hd=>by
  obtain⟨hk,hs⟩:=h1
  obtain⟨e1,e2,e3⟩:=kn_ev (ops:=ops) ha hk
  refine⟨v,fun w hS=>?_,wi_ti r _ _ h2 (kn_put ha e3) (by rw [put_def];exact hd)⟩
  have:=hs w hS
  unfold AvI
  rw [e2]
  split
  ·rename_i hc
   rw [if_pos hc] at this
   rw [e1]
   rcases this with ⟨w',g1,g2⟩|⟨f,args,g1,g2,g3⟩
   ·rw [g1];exact⟨rfl,g2⟩
   ·rw [g1]
    exact⟨g2,g3.mono fun e w' h3=>by
     obtain⟨rfl,h3⟩:=h3
     exact⟨rfl,h3⟩⟩
  ·rename_i hc
   rw [if_neg hc] at this
   exact this
theorem one {L:Array Bool} (b:Nat) {a:Act} {w:World} (hr:Region.ready md ops L=[b]) (h:wpOpIn F m P ops Q b (fun a' w'=>∀ fuel,(left ops (L.setIfInBounds b true)).length≤fuel→wpAnyIn F m P md ops Q fuel (L.setIfInBounds b true) a' w') a w) (hL:L.size=ops.size):∀ fuel,(left ops L).length≤fuel→wpAnyIn F m P md ops Q fuel L a w:=by
 intro fuel hl
 have hm:b∈Region.ready md ops L:=by rw [hr];exact List.mem_cons_self ..
 obtain⟨h0,o,ho,-⟩:=mem_ready.1 hm
 have hb:=(Array.getElem?_eq_some_iff.1 ho).1
 have hlt:=left_set hL hb h0
 cases fuel with
 | zero=>omega
 | succ fuel =>
  refine⟨fun h=>(by rw [hr] at h;cases h),fun i hi=>?_⟩
  rw [hr] at hi
  obtain rfl:=List.mem_singleton.1 hi
  exact wpOpIn_mono (fun a' w' h'=>h' fuel (by omega)) h
theorem opI {b n:Nat} {K:Kl} {o:Oper} {a:Act} {w:World} {C:Act→World→Prop} (hF:∀ f,F.fn f) (ho:ops[b]?=some o) (hdf:∀ c,o.op≠.defer c) (ha:Kn K n a) (hk:kok ops K n o=true) (hw:Region.wanted o (ky ops K)=true) (r:Result Next) (hr:(execOp (kv K) o).run P w=r) (h:o.uponIn F m P a C Q r):wpOpIn F m P ops Q b C a w:=by
 subst hr
 obtain⟨e1,e2,-⟩:=kn_ev (ops:=ops) ha hk
 unfold wpOpIn
 simp only [ho,e2,hw,if_true]
 refine⟨fun f _=>hF f,?_⟩
 rw [Oper.semAt_eq _ _ _ hdf,e1]
 exact h
theorem iv {n:Nat} {C:Kl→Prop} {o:Oper} {r:List Oper} {K:Kl} (v:Value) (he:∀ w,S w→(execOp (kv K) o).run P w=.ok (.value v) w) (h:WI F m P ops S n C r (kput K o.dst v)) (hw:Region.wanted o (ky ops K)=true:=by rfl) (hk:kok ops K n o=true:=by rfl):WI F m P ops S n C (o::r) K :=
 ⟨v,⟨hk,fun w hS=>by rw [if_pos hw];exact .inl ⟨w,he w hS,hS⟩⟩,h⟩
theorem inn {n:Nat} {C:Kl→Prop} {o:Oper} {r:List Oper} {K:Kl} (h:WI F m P ops S n C r (kput K o.dst undef)) (hw:Region.wanted o (ky ops K)=false:=by rfl) (hk:kok ops K n o=true:=by rfl):WI F m P ops S n C (o::r) K :=
 ⟨undef,⟨hk,fun w hS=>by rw [if_neg (by rw [hw];decide)]⟩,h⟩
theorem ic {n:Nat} {C:Kl→Prop} {o:Oper} {r:List Oper} {K:Kl} {v:Value} {f:FuncId} {args:Array Value} (hd:F.depth.isSome=true→1≤m) (hC:∀ w,S w→CallsIn F (m-1) P f args w fun e w'=>e=.returned v∧S w') (h:WI F m P ops S n C r (kput K o.dst v)) (he:∀ w,S w→(execOp (kv K) o).run P w=.ok (.enter f args) w:=by intro _ _;kernel_rfl) (hw:Region.wanted o (ky ops K)=true:=by rfl) (hk:kok ops K n o=true:=by rfl):WI F m P ops S n C (o::r) K :=
 ⟨v,⟨hk,fun w hS=>by rw [if_pos hw];exact .inr ⟨f,args,he w hS,hd,hC w hS⟩⟩,h⟩
theorem left_all (n:Nat) (h:n=ops.size):(left ops (Array.replicate n false)).length≤ops.size:=by
 subst h
 unfold left
 exact Nat.le_trans (List.length_filter_le _ _) (by simp)
def kfr:Nat→List Value→Kl
 | _,[]=>[]
 | i,v::r=>(i,v)::kfr (i+1) r
theorem kfr_get:∀ (l:List Value) (i t:Nat),kf (kfr i l) t=if t<i then none else l[t-i]?
 | [],i,t=>by simp [kfr,kf]
 | v::r,i,t=>by
  rw [kfr,kf,kfr_get r (i+1) t]
  by_cases h:i=t
  ·subst h;simp
  ·rw [if_neg h]
   by_cases h2:t<i
   ·rw [if_pos (by omega),if_pos h2]
   ·rw [if_neg (by omega),if_neg h2,show t-i=(t-(i+1))+1 by omega,List.getElem?_cons_succ]
theorem kn_fr {l:List Value} {df:List Deferred} {n:Nat} (hn:l.length=n):Kn (kfr 0 l) n ⟨l.toArray,df⟩:=⟨by simpa using hn,fun t v h=>by
 rw [kfr_get,if_neg (Nat.not_lt_zero _),Nat.sub_zero] at h
 simpa using h⟩
def kfrm (K:Kl) (n:Nat):Array Value:=((List.range n).map fun t=>(kf K t).getD undef).toArray
theorem kn_eq {K:Kl} {n:Nat} {a:Act} {df:List Deferred} (h:Kn K n a) (hd:a.defers=df) (ha:(List.range n).all (fun t=>(kf K t).isSome)=true):a=⟨kfrm K n,df⟩:=by
 rw [List.all_eq_true] at ha
 have ht:a.tmps=kfrm K n:=by
  apply Array.ext
  ·rw [h.s];simp [kfrm]
  intro i h1 h2
  have hi:i<n:=by rw [← h.s];exact h1
  have:=ha i (List.mem_range.2 hi)
  rw [Option.isSome_iff_exists] at this
  obtain⟨v,hv⟩:=this
  have g:=h.k i v hv
  rw [Array.getElem?_eq_getElem h1] at g
  rw [Option.some.inj g]
  simp [kfrm,hv]
 cases a
 simp only at ht hd
 rw [ht,hd]
theorem intF {L0:Array Bool} (L1:Array Bool) (p q:Nat) {n:Nat} {K:Kl} {df:List Deferred} {a:Act} (hF:∀ f,F.fn f) (hk:tabOk md ops n=true) (hdf:noDefer ops=true) (hb:barOk md ops L0 L1 p q=true) (ha:Kn K n a) (hd:a.defers=df)
  (h:WI F m P ops S n (fun K'=>(List.range n).all (fun t=>(kf K' t).isSome)=true∧∀ fuel w,S w→(left ops L1).length≤fuel→wpAnyIn F m P md ops Q fuel L1 ⟨kfrm K' n,df⟩ w) ((ops.toList.drop p).take (q-p)) K):∀ fuel w,S w→(left ops L0).length≤fuel→wpAnyIn F m P md ops Q fuel L0 a w :=
 intA p q hF (by rw [ha.s];exact tk_of hk) hdf (bar_of hb) (wi_ti _ _ _ h ha hd) fun aF ⟨_,k1,k2,k3,k4⟩=>by
  rw [kn_eq k1 k2 k3];exact k4
end
end Go.Proofs.YtdgnjhhieemcaaaGreatDoor.Tab
end
section
namespace Go.Proofs.YtdgnjhhieemcaaaGreatDoor.L16
open Go.RowKit L14 L15
open L13 (Ob)
attribute [local go_sem] Oper.semAt_some
abbrev nil3:Array Value:=#[.slice none 0 0,.slice none 0 0,.slice none 0 0]
theorem own_ro {W:World} {B e:TypeId} {v:Value} {l:List (Int × Int)} {n:Nat} (hn:l.length=n) (h:W.ownsRow B e 2 v n (l.flatMap L13.roL)):L13.RoAt W v l:=by
 subst hn
 rcases h.2 with ⟨rfl,h0⟩|⟨g,cap,cur,rfl,_,hh,_⟩
 ·exact .inr ⟨List.eq_nil_of_length_eq_zero h0,none,0,rfl⟩
 ·have hget:∀ j (hj:j<l.length) i u,(L13.roL l[j])[i]?=some u→W.cell? ⟨g,0+j*2+i,none⟩=some u:=fun j hj i u hu=>by
   have:=h.cells (g:=g) rfl (j*2+i) u (L10.flat_get L13.roL 2 (fun _=>rfl) l j hj i u hu)
   rw [Nat.zero_add]
   rwa [L8.add0] at this
  exact .inl ⟨g,0,cap,rfl,lt_of_block hh,fun j hj=>⟨hget j hj 0 _ rfl,hget j hj 1 _ rfl⟩⟩
theorem row_far {W W':World} {kr:Nat} {cs:Array Value} {t B e:TypeId} {size:Nat} {v:Value} {n:Nat} {xs:List Value} (hk:W.heap[kr]?=some (.cells cs t)) (ho:W.ownsRow B e size v n xs) (hg:W.grownBy W' v.ownBlock) (he:t≠e):W'.heap[kr]?=some (.cells cs t):=by
 refine (hg.block kr (lt_of_block hk) fun h=>?_).trans hk
 obtain⟨c,hc⟩:=L10.own_ty ho h.symm
 exact L10.ty_ne hk hc he rfl
theorem own_cell {W:World} {B e:TypeId} {sz n kr i:Nat} {v u:Value} {xs:List Value} {cs:Array Value} {t:TypeId} (h:W.ownsRow B e sz v n xs) (hr:W.heap[kr]?=some (.cells cs t)) (ht:t≠e):(W.setCell ⟨kr,i,none⟩ u).ownsRow B e sz v n xs :=
 L10.own_kept h (L10.gr_setCell W kr i u) (fun g hg=>by
  obtain⟨cur,hc⟩:=L10.own_ty h hg
  exact L10.ty_ne hr hc ht)
theorem own_apart {W W':World} {B B' e e' sz sz' n n':Nat} {v v':Value} {xs ys:List Value} (h:W.ownsRow B e sz v n xs) (ho:W.ownsRow B' e' sz' v' n' ys) (hg:W.grownBy W' v'.ownBlock) (he:e≠e'):W'.ownsRow B e sz v n xs :=
 L10.own_kept h hg (fun g hv hk=>by
  obtain⟨c1,h1⟩:=L10.own_ty h hv
  obtain⟨c2,h2⟩:=L10.own_ty ho hk
  rw [h1] at h2
  cases h2
  exact he rfl)
end Go.Proofs.YtdgnjhhieemcaaaGreatDoor.L16
end
section
namespace Go.Proofs.YtdgnjhhieemcaaaGreatDoor.L13
open Go.RowKit Go.Shelf L3 L4 L12
open L10 (Stm Pg jmI fmI lbK)
attribute [local go_sem] Oper.semAt_some
abbrev zOb:Obj:=obC (.slice none 0 0) (.slice none 0 0) (.slice none 0 0)
def TeP (w:World) (p:Pg) (e:Ending) (w':World):Prop:=∃ vm vc vr,e=.returned (.tuple #[.agg #[vm,vc,vr],.int .i64 0,.int .i64 0])∧ObOwn w.heap.size w' vm vc vr p∧Below w.heap.size w w'
theorem text_ok (t:ByteArray) (w:World) (p:Pg) (sl:List Int) (ln:Int) (hz:(L10.brV p).2.2=0) (hf:L10.Fits p) (hm:p.stmts.length≤6000) (hT:L1.Wid w∧L2.Regs w) (HP:∀ X,Below w.heap.size w X→Calls Tryz.prog 57 #[.string t] X (L10.PaP (p,sl,ln,0) X)) :
  Calls Tryz.prog 27 #[.string t] w fun e w'=>TeP w p e w':=by
 have HP:=Lib.hid HP
 have K0:=Lib.hid (heap_alloc_last w zOb)
 have HB:=Lib.hid (L8.bnew w zOb)
 obtain⟨b,kk,er,hr⟩:∃ b k er,L10.brV p=(b,k,er):=⟨_,_,_,rfl⟩
 obtain rfl:er=0:=by rw [hr] at hz;exact hz
 have HAs:=Lib.hid (fun (X:World) (hX:Below w.heap.size w X) (vm vs:Value) (hp:L10.PgAt X vm vs p)=>(assemble_at vm vs p _ X hp hf rfl hm ⟨L4.wid_below hT.1 hX,hT.2.below hX⟩ b kk 0 hr).mono (fun e w' h=>show TeP X p e w' from by
  obtain⟨h1,h2⟩:=h
  rcases h1 with ⟨h1,-⟩|⟨-,vm,vc,vr,h1,h3⟩
  ·exact absurd rfl h1
  ·exact⟨vm,vc,vr,h1,h3,h2⟩))
 obtain⟨n1,hn1⟩:∃ n,p.maps.length=n:=⟨_,rfl⟩
 obtain⟨n2,hn2⟩:∃ n,p.stmts.length=n:=⟨_,rfl⟩
 obtain⟨n3,hn3⟩:∃ n,sl.length=n:=⟨_,rfl⟩
 have HN:=Lib.hid (And.intro hn1 (And.intro hn2 hn3))
 clear hn1 hn2 hn3 hz hf hm hT hr
 go_enter Tryz.func27,Tryz.ntmps27
 go_upto_region 1 with (fail)
 obtain⟨k,hk⟩:∃ k,w.heap.size=k:=⟨_,rfl⟩
 have HKK:=Lib.hid (show w.heap.size≤k by omega)
 rw [hk] at K0 ⊢
 clear hk
 generalize w.alloc (.cells _ 26)=W0 at K0 HB ⊢
 go_upto_region 2 with (go_at_call 57;((with_reducible refine (HP.out _ HB.out).mono ?_);rintro e w1 ⟨vm,vs,lv,rfl,hp,hi,b1⟩;obtain⟨a1,c1,rfl,-⟩:=L10.df_form HN.out.1 hp.1;obtain⟨a2,c2,rfl,-⟩:=L10.sm_form HN.out.2.1 hp.2;obtain⟨a3,c3,rfl,-⟩:=L10.in_form HN.out.2.2 hi))
 have hkq:=heap_alloc_last w1 (.cells #[.slice a1 n1 c1,.slice a2 n2 c2] 58)
 have hn:=L8.bnew w1 (.cells #[.slice a1 n1 c1,.slice a2 n2 c2] 58)
 have hb:=L2.bch b1 hn
 have HB1:=Lib.hid (L2.bch HB.out hb)
 have K1:=Lib.hid (L8.row_up K0.out hb)
 have HPG:=Lib.hid (hp.below hn)
 obtain⟨q,hq⟩:∃ q,w1.heap.size=q:=⟨_,rfl⟩
 rw [hq] at hkq ⊢
 clear hb b1 hp hi hn hq
 generalize w1.alloc (.cells _ 58)=W1 at hkq HB1 K1 HPG ⊢
 obtain⟨x0,x1⟩:=L10.cells2p hkq
 have hl1:=lt_of_block hkq
 go_upto_region 5 with (go_at_call 58;((with_reducible refine (HAs.out _ HB1.out _ _ HPG.out).mono ?_);rintro e w2 ⟨vm,vc,vr,rfl,ho,b2⟩;obtain⟨e1,f1,e2,f2,e3,f3,rfl,rfl,rfl⟩:=ho.form))
 obtain⟨m1,hm1⟩:∃ m,p.maps.length=m:=⟨_,rfl⟩
 obtain⟨m2,hm2⟩:∃ m,(cdB p).length=m:=⟨_,rfl⟩
 obtain⟨m3,hm3⟩:∃ m,(rfT p p.stmts.length).length=m:=⟨_,rfl⟩
 rw [hm1,hm2,hm3] at ho ⊢
 have hk9:=heap_alloc_last w2 (obC (.slice e1 m1 f1) (.slice e2 m2 f2) (.slice e3 m3 f3))
 have hn9:=L8.bnew w2 (obC (.slice e1 m1 f1) (.slice e2 m2 f2) (.slice e3 m3 f3))
 have HO:=Lib.hid ((ho.weak HB1.out.size).below hn9)
 have HB2:=Lib.hid (L2.bch HB1.out (L2.bch b2 hn9))
 have K2:=Lib.hid (L8.row_up K1.out (L2.bch b2 hn9))
 obtain⟨q9,hq9⟩:∃ q,w2.heap.size=q:=⟨_,rfl⟩
 rw [hq9] at hk9 ⊢
 clear x0 x1 hl1 hkq ho b2 hn9 hq9 hm1 hm2 hm3 HPG HB1 K1 HAs HP K0 HB
 generalize w2.alloc (.cells _ 26)=W2 at hk9 HO HB2 K2 ⊢
 obtain⟨y0,y1,y2⟩:=cells3 hk9
 have hl9:=lt_of_block hk9
 clear hk9
 go_wp2_with (refine wpList_store_row rfl _ _ _ rfl k #[.slice e1 m1 f1,.slice e2 m2 f2,.slice e3 m3 f3] rfl rfl 26 _ K2.out (by kernel_rfl) rfl (by simp [Value.oneCell']) ?_)
 obtain⟨z0,z1,z2⟩:=cells3 (setRow_heap _ _ _ #[.slice e1 m1 f1,.slice e2 m2 f2,.slice e3 m3 f3] _ _ K2.out)
 exact bodyPost_ret (v:=.tuple #[.agg #[.slice e1 m1 f1,.slice e2 m2 f2,.slice e3 m3 f3],.int .i64 0,.int .i64 0]) (by simp [results,Tryz.results27,go_sem,z0,z1,z2]) rfl ⟨_,_,_,rfl,HO.out.set K2.out,below_setRow HB2.out HKK.out _⟩
end Go.Proofs.YtdgnjhhieemcaaaGreatDoor.L13
end
section
namespace Go.Proofs.YtdgnjhhieemcaaaGreatDoor.L16
open Go.ChangeShapes Go.WideShapes Go.ChangeAt Go.RowKit Go.Deep L14 L15
open L13 (Ob)
attribute [local go_sem] Oper.semAt_some
section
variable {H:Type} {enc:TypeId × Value→H} {W:World} {base:Nat} {sp:Nat→Bool} {held:Bool}
structure OW (o:Ob):Prop where
 m:o.maps.length≤8796093022208
 c:o.code.length≤maxLen
 r:o.rels.length≤8796093022208
 z:∀ d∈o.maps,d.nm.size≤maxLen
end
theorem gt_t {a b:Int} (h:b<a):decide (b<a)=true:=by simpa using h
theorem gt_f {a b:Int} (h:¬ b<a):decide (b<a)=false:=by simpa using h
end Go.Proofs.YtdgnjhhieemcaaaGreatDoor.L16
end
