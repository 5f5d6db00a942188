/- What slices.Clone returns at the three kinds of lists of a program, and what the program's Clone returns: a program of the same parts in memory of the call's own. Condition: memory holds the program, whose lists are not too long. -/
import Derived.Test.YtohkgdfkklfgmaaGreatDoorM14
import Derived.Test.YtohkgdfkklfgmaaGreatDoorM13
import Derived.Laws.OwnMore
import Derived.Lib.SliceRun
import Derived.Deep.RegionWith
import Derived.Deep.DeepCutAuto
set_option maxRecDepth 100000
set_option maxHeartbeats 1000000
namespace Go.Proofs.YtohkgdfkklfgmaaGreatDoor.L10
open Go.RowKit Go.Maps
attribute [local go_sem] Oper.semAt_some
theorem ad_plain (b o i:Nat):(⟨b,o,none⟩:Addr).add i=⟨b,o+i,none⟩:=by unfold Addr.add;split <;> simp_all
theorem flat_of {α:Type} (f:α→List Value) (c:Nat) (hf:∀ x,(f x).length=c):∀ (l:List α) (k:Nat) (u:Value),(l.flatMap f)[k]?=some u→∃ j i,∃ hj:j<l.length,k=j*c+i∧(f l[j])[i]?=some u
 | [],k,u,h=>by simp at h
 | a::r,k,u,h=>by
  rw [List.flatMap_cons] at h
  by_cases hk:k<c
  ·rw [List.getElem?_append_left (by rw [hf];exact hk)] at h
   exact⟨0,k,by simp,by omega,h⟩
  ·rw [List.getElem?_append_right (by rw [hf];omega),hf] at h
   obtain⟨j,i,hj,e,hu⟩:=flat_of f c hf r (k-c) u h
   exact⟨j+1,i,by simpa using hj,by rw [Nat.add_mul];omega,hu⟩
theorem flat_len {α:Type} (f:α→List Value) (c:Nat) (hf:∀ x,(f x).length=c):∀ l:List α,(l.flatMap f).length=l.length*c
 | []=>by simp
 | a::r=>by rw [List.flatMap_cons,List.length_append,hf,flat_len f c hf r,List.length_cons,Nat.add_mul];omega
def Flat (w:World) (v:Value) (n:Nat) (cs:List Value):Prop:=∃ a c,v=.slice a n c∧(a=none→n=0)∧∀ x,a=some x→∀ j u,cs[j]?=some u→w.cell? (x.add j)=some u
theorem DfAt.flat {w:World} {v:Value} {l:List L9.Df} (h:DfAt w v l):Flat w v l.length (l.flatMap dfL):=by
 rcases h with ⟨b,o,cap,rfl,hlt,hc⟩|⟨rfl,a,cap,rfl⟩
 ·refine⟨_,_,rfl,fun h=>(by cases h),fun x hx k u hu=>?_⟩
  cases hx
  obtain⟨j,i,hj,rfl,hu'⟩:=flat_of dfL 4 (fun _=>rfl) l k u hu
  rw [ad_plain,← Nat.add_assoc]
  exact hc j hj i u hu'
 ·exact⟨_,_,rfl,fun _=>rfl,fun x hx k u hu=>by simp at hu⟩
theorem SmAt.list {w:World} {v:Value} {l:List Stm} (h:SmAt w v l):∃ ll:List (Value × Stm),ll.map (·.2)=l∧(∀ x∈ll,L8.StAt w x.1 x.2.labs)∧Flat w v ll.length (smC ll):=by
 rcases h with ⟨b,o,cap,rfl,hlt,hc⟩|⟨rfl,a,cap,rfl⟩
 ·have each:∀ i,i<l.length→∃ x:Value × Stm,l[i]?=some x.2∧L8.StAt w x.1 x.2.labs∧∀ k u,(smL x.1 x.2)[k]?=some u→w.cell? ⟨b,o+i*9+k,none⟩=some u:=by
   intro i hi
   obtain⟨lv,h1,h2⟩:=hc i hi
   exact⟨(lv,l[i]),List.getElem?_eq_getElem hi,h1,h2⟩
  obtain⟨ll,hll,hp⟩:=list_of l.length each
  refine⟨ll,?_,fun x hx=>?_,_,_,by rw [hll],fun h=>(by cases h),fun x hx k u hu=>?_⟩
  ·apply List.ext_getElem?
   intro i
   rw [List.getElem?_map]
   by_cases hi:i<ll.length
   ·rw [List.getElem?_eq_getElem hi,(hp i hi).1];rfl
   ·rw [List.getElem?_eq_none (by omega),List.getElem?_eq_none (by omega)];rfl
  ·obtain⟨i,hi,rfl⟩:=List.mem_iff_getElem.1 hx
   exact (hp i hi).2.1
  ·cases hx
   obtain⟨j,i,hj,rfl,hu'⟩:=flat_of (fun x:Value × Stm=>smL x.1 x.2) 9 (fun _=>rfl) ll k u hu
   rw [ad_plain,← Nat.add_assoc]
   exact (hp j hj).2.2 i u hu'
 ·exact⟨[],rfl,by simp,_,_,rfl,fun _=>rfl,fun x hx k u hu=>by simp at hu⟩
def ClP (e:TypeId) (size n:Nat) (cs:List Value) (w:World) (en:Ending) (w':World):Prop:=∃ v',en=.returned v'∧w'.ownsRow w.heap.size e size v' n cs∧Below w.heap.size w w'
theorem cloneD_at (v:Value) (n:Nat) (cs:List Value) (w:World) (hm:n≤100000) (hl:cs.length=n*4) (h1:∀ u∈cs,u.oneCell'=true) (hv:Flat w v n cs) :
  Calls Tryz.prog 50 #[v] w (ClP 62 4 n cs w):=by
 obtain⟨i0,hi,hz0,hz1,hz2⟩:=info_parts infoD
 obtain⟨a,c,rfl,hn,hc⟩:=hv
 have q:∀ (w:World) (a:Option Addr) (n c n' c':Nat),(binOp .eql 22 (.slice a n c) (.slice none n' c')).run Tryz.prog w=.ok (.bool a.isNone) w:=fun w a n c n' c'=>Lib.run_eql_slice_nil w _ _ a n c n' c' Tryz.underlying22
 cases a with
 | none =>
  obtain rfl:n=0:=hn rfl
  obtain rfl:cs=[]:=List.eq_nil_of_length_eq_zero (by omega)
  clear hc hl h1
  go_enter Tryz.func50,Tryz.ntmps50
  go_wp2
  go_ret
  exact⟨_,rfl,World.ownsRow_nil _ _ _ _,Below.refl _ _⟩
 | some x =>
  have HC:=Lib.hid (hc x rfl)
  clear hc hn
  go_enter Tryz.func50,Tryz.ntmps50
  go_wp2_with (at_builtin;refine wpList_append_own _ rfl _ _ 22 rfl w.heap.size 62 i0 (.agg #[.string ⟨#[]⟩,.int .i64 0,.int .i64 0,.int .i64 0]) 4 40 Tryz.underlying22 hi hz0 hz1 hz2 rfl (by decide) _ _ _ rfl (World.ownsRow_made w #[] 0 (Nat.le_refl _) (Nat.zero_le _) rfl) x n c cs rfl hl (fun j u hu=>Lib.cell?_alloc_some _ (HC.out j u hu)) h1 ?qc4 ?qc5 ?qc6 ?_)
  case qc4=>unfold maxLen;omega
  case qc5=>omega
  case qc6=>simp
  intro v' w1 hown hgrow hnil
  go_wp2
  go_ret
  refine⟨v',rfl,by simpa using hown,?_⟩
  exact ((Below.refl _ w).alloc (Nat.le_refl _) _).grown hgrow (by simp) (by intro k hk;simp [Value.ownBlock] at hk;omega)
theorem one_df (l:List L9.Df):∀ u∈l.flatMap dfL,u.oneCell'=true:=by
 intro u hu
 obtain⟨d,_,hd⟩:=List.mem_flatMap.1 hu
 simp only [dfL,List.mem_cons,List.not_mem_nil,or_false] at hd
 rcases hd with rfl|rfl|rfl|rfl <;> rfl
theorem Flat.below {w w':World} {v:Value} {n:Nat} {cs:List Value} (h:Flat w v n cs) (hb:Below w.heap.size w w'):Flat w' v n cs:=by
 obtain⟨a,c,rfl,h0,hc⟩:=h
 exact⟨a,c,rfl,h0,fun x hx j u hu=>by
  have h1:=hc x hx j u hu
  exact (hb.cell (p:=x.add j) (World.block_lt_of_cell? w _ h1)).trans h1⟩
theorem own_up {w w':World} {b e:TypeId} {size:Nat} {v:Value} {n:Nat} {xs:List Value} (h:w.ownsRow b e size v n xs) (hb:Below w.heap.size w w'):w'.ownsRow b e size v n xs:=own_kept h (gr_of hb none) (fun g _=>by simp)
structure CloI (w W:World) (g:Nat) (va vb:Value) (l:List L9.Df) (ll:List (Value × Stm)):Prop where
 bel:Below w.heap.size w W
 row:W.heap[g]?=some (.cells #[va,vb] 50)
 res:W.heap[w.heap.size+1]?=some (.cells #[.slice none 0 0,.slice none 0 0] 50)
 lo:w.heap.size+1<g
 om:W.ownsRow w.heap.size 62 4 va l.length (l.flatMap dfL)
 os:W.ownsRow w.heap.size 94 9 vb ll.length (smC ll)
theorem CloI.below {w W W':World} {g:Nat} {va vb:Value} {l:List L9.Df} {ll:List (Value × Stm)} (h:CloI w W g va vb l ll) (hb:Below W.heap.size W W'):CloI w W' g va vb l ll :=
 ⟨h.bel.trans (hb.mono h.bel.size),L8.row_up h.row hb,L8.row_up h.res hb,h.lo,own_up h.om hb,own_up h.os hb⟩
theorem flat_get {α:Type} (f:α→List Value) (c:Nat) (hf:∀ x,(f x).length=c):∀ (l:List α) (j:Nat) (hj:j<l.length) (i:Nat) (u:Value),(f l[j])[i]?=some u→(l.flatMap f)[j*c+i]?=some u
 | a::r,0,_,i,u,h=>by
  have hi:i<(f a).length:=(List.getElem?_eq_some_iff.1 h).1
  rw [List.flatMap_cons,Nat.zero_mul,Nat.zero_add,List.getElem?_append_left hi]
  exact h
 | a::r,j+1,hj,i,u,h=>by
  rw [List.flatMap_cons,List.getElem?_append_right (by rw [hf,Nat.add_mul];omega),hf,show (j+1)*c+i-c=j*c+i by rw [Nat.add_mul];omega]
  exact flat_get f c hf r j (by simpa using hj) i u h
end Go.Proofs.YtohkgdfkklfgmaaGreatDoor.L10
