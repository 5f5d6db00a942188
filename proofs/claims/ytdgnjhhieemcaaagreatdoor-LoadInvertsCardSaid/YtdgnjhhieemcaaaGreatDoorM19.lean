/- Lemmas and walks of L10Ln, L10Chl: what each theorem states; conditions stand in each theorem. -/
import Derived.Test.YtdgnjhhieemcaaaGreatDoorM18
import Derived.Test.YtdgnjhhieemcaaaGreatDoorM11
set_option maxHeartbeats 2000000
set_option maxRecDepth 100000
section
namespace Go.Proofs.YtdgnjhhieemcaaaGreatDoor.L10
open Go.RowKit Go.Maps
attribute [local go_sem] Oper.semAt_some
def lnO (s:Rd) (b:Bool) (k:Nat):Int:=if h:k<(if b then s.ml else s.sl).length then (if b then s.ml else s.sl)[k] else s.line
theorem own_int {W:World} {B e:TypeId} {v:Value} {xs:List Int} (h:W.ownsRow B e 1 v xs.length (inI xs)):∃ a c,v=.slice a xs.length c∧(∀ k,(h:k<xs.length)→∃ b,a=some ⟨b,0,none⟩∧W.cell? ⟨b,k,none⟩=some (.int .i64 xs[k])):=by
 rcases h.2 with ⟨rfl,h0⟩|⟨g,cap,cur,rfl,_,hh,_⟩
 ·exact⟨none,0,by rw [h0],fun k hk=>by omega⟩
 ·refine⟨_,_,rfl,fun k hk=>⟨g,rfl,?_⟩⟩
  have:=h.cells (g:=g) rfl k (.int .i64 xs[k]) (by simp [inI,List.getElem?_eq_getElem hk])
  rwa [L8.add0] at this
theorem lineOf_at (B kr:Nat) (l:List (Value × Stm)) (s:Rd) (b:Bool) (k:Nat) (w:World) (h:RdM B kr w l s) (r:Int) (hr:lnO s b k=r) :
  Calls Tryz.prog 95 #[.pointer (some ⟨kr,0,none⟩),.agg #[.bool b,.int .i64 (k:Int)]] w fun e w'=>e=.returned (.int .i64 r)∧Below w.heap.size w w':=by
 obtain⟨vm,vs,mv,sv,lv,hrow,hR⟩:=h
 obtain⟨ma,mc,rfl,hmc⟩:=own_int hR.oml
 obtain⟨sa,sc,rfl,hsc⟩:=own_int hR.osl
 obtain⟨x0,x1,x2,x3,x4,x5,x6⟩:=cells7 hrow
 have hkl:=lt_of_block hrow
 have hw:w.heap.size≠kr:=by omega
 clear hR hrow
 unfold lnO at hr
 cases b
 ·simp only [Bool.false_eq_true,if_false] at hr
  by_cases hkn:k<s.sl.length
  ·rw [dif_pos hkn] at hr
   obtain⟨bb,rfl,hc⟩:=hsc k hkn
   rw [hr] at hc
   have hbl:=World.block_lt_of_cell? w _ hc
   have hk1:(k:Int)<(s.sl.length:Int):=by omega
   have hk2:¬ (s.sl.length:Int)≤(k:Int):=by omega
   clear hmc hsc hr
   go_enter Tryz.func95,Tryz.ntmps95
   go_wp2
   go_ret
   exact⟨rfl,L8.bnew _ _⟩
  ·rw [dif_neg hkn] at hr
   subst hr
   have hk2:(s.sl.length:Int)≤(k:Int):=by omega
   clear hmc hsc
   go_enter Tryz.func95,Tryz.ntmps95
   go_wp2
   go_ret
   exact⟨rfl,L8.bnew _ _⟩
 ·simp only [if_true] at hr
  by_cases hkn:k<s.ml.length
  ·rw [dif_pos hkn] at hr
   obtain⟨bb,rfl,hc⟩:=hmc k hkn
   rw [hr] at hc
   have hbl:=World.block_lt_of_cell? w _ hc
   have hk1:(k:Int)<(s.ml.length:Int):=by omega
   have hk2:¬ (s.ml.length:Int)≤(k:Int):=by omega
   clear hmc hsc hr
   go_enter Tryz.func95,Tryz.ntmps95
   go_wp2
   go_ret
   exact⟨rfl,L8.bnew _ _⟩
  ·rw [dif_neg hkn] at hr
   subst hr
   have hk2:(s.ml.length:Int)≤(k:Int):=by omega
   clear hmc hsc
   go_enter Tryz.func95,Tryz.ntmps95
   go_wp2
   go_ret
   exact⟨rfl,L8.bnew _ _⟩
end Go.Proofs.YtdgnjhhieemcaaaGreatDoor.L10
end
section
section
namespace Go.Proofs.YtdgnjhhieemcaaaGreatDoor.L4
open Go.RowKit L3 L1
end Go.Proofs.YtdgnjhhieemcaaaGreatDoor.L4
end
section
namespace Go.Proofs.YtdgnjhhieemcaaaGreatDoor.L10
open Go.RowKit Go.Maps
attribute [local go_sem] Oper.semAt_some
def mpI:Nat→List L9.Df→ByteArray→Int
 | _,[],_=>-1
 | k,d::r,x=>if d.nm=x then (k:Int) else mpI (k+1) r x
theorem mpI_on:∀ (l:List L9.Df) (k:Nat) (x:ByteArray),decide (mpI k l x<0)=!L2.on (l.map (·.nm)) x
 | [],k,x=>rfl
 | d::r,k,x=>by
  rw [mpI,List.map_cons,on_cons]
  by_cases h:d.nm=x
  ·rw [if_pos h];simp [h]
  ·rw [if_neg h,mpI_on r (k+1) x];simp [h]
end Go.Proofs.YtdgnjhhieemcaaaGreatDoor.L10
end
section
namespace Go.Proofs.YtdgnjhhieemcaaaGreatDoor.L10
open Go.RowKit
theorem feF_first:∀ (l:List Int) (k j:Nat) (h:j<l.length),(∀ i,(hi:i<j)→l[i]=0)→l[j]≠0→feF k l=(k+j,l[j])
 | e::r,k,0,_,_,hn=>by
  rw [feF,if_neg (by simpa using hn)];simp
 | e::r,k,j+1,h,hz,hn=>by
  have h0:e=0:=by simpa using hz 0 (by omega)
  rw [feF,if_pos h0,feF_first r (k+1) j (by simpa using h) (fun i hi=>by simpa using hz (i+1) (by omega)) (by simpa using hn)]
  simp;omega
theorem fe_sz (n:Nat):fe (szE n)=if n≤255 then (0,0) else (255,16):=by
 unfold fe
 split
 ·rename_i h
  refine feF_zero _ _ fun e he=>?_
  unfold szE at he
  obtain⟨i,hi,rfl⟩:=List.mem_map.1 he
  rw [if_pos (by have:=List.mem_range.1 hi;omega)]
 ·rename_i h
  have:=feF_first (szE n) 0 255 (by simp [szE];omega) (fun i hi=>by simp only [szE,List.getElem_map,List.getElem_range];rw [if_pos hi]) (by simp [szE])
  rw [this]
  simp [szE]
def pG:Nat→List (List ByteArray)→List (ByteArray × Nat)
 | _,[]=>[]
 | i,l::r=>l.map (fun x=>(x,i))++pG (i+1) r
def fd:List ByteArray→List (ByteArray × Nat)→Option Nat
 | _,[]=>none
 | ks,y::r=>if L2.on ks y.1 then some y.2 else fd (ks++[y.1]) r
theorem fd_list:∀ (labs ks:List ByteArray) (i:Nat) (R:List (ByteArray × Nat)),fd ks (labs.map (fun x=>(x,i))++R)=if addB ks labs then fd (ks++labs) R else some i
 | [],ks,i,R=>by simp [addB]
 | x::r,ks,i,R=>by
  rw [List.map_cons,List.cons_append,fd,addB]
  by_cases h:L2.on ks x=true
  ·rw [if_pos h,if_pos h];simp
  ·rw [if_neg h,if_neg h,fd_list r (ks++[x]) i R,List.append_assoc];rfl
theorem fe_dp:∀ (ll:List (List ByteArray)) (ks:List ByteArray) (i:Nat),feF i (dpE ks ll)=match fd ks (pG i ll) with|none=>(0,0)|some j=>(j,10)
 | [],ks,i=>rfl
 | l::r,ks,i=>by
  rw [dpE,feF,pG,fd_list]
  by_cases h:addB ks l=true
  ·rw [if_pos h,if_pos rfl,if_pos h,fe_dp r (ks++l) (i+1)]
  ·rw [if_neg h,if_neg (by decide),if_neg h]
def rq:Nat→List ByteArray→List (ByteArray × Nat)→Int
 | _,_,[]=>-1
 | k,ks,y::r=>if L2.on ks y.1 then (k:Int) else rq (k+1) (ks++[y.1]) r
theorem rq_fd:∀ (L:List (ByteArray × Nat)) (k:Nat) (ks:List ByteArray),(rq k ks L=-1∧fd ks L=none)∨∃ m,∃ h:m<L.length,rq k ks L=((k+m:Nat):Int)∧fd ks L=some L[m].2
 | [],_,_=>.inl ⟨rfl,rfl⟩
 | y::r,k,ks=>by
  rw [rq,fd]
  by_cases h:L2.on ks y.1=true
  ·rw [if_pos h,if_pos h]
   exact .inr ⟨0,by simp,by simp,by simp⟩
  ·rw [if_neg h,if_neg h]
   rcases rq_fd r (k+1) (ks++[y.1]) with h1|⟨m,hm,h1,h2⟩
   ·exact .inl h1
   ·exact .inr ⟨m+1,by simpa using hm,by rw [h1];congr 1;omega,by simpa using h2⟩
theorem rp_rq (L:List (ByteArray × Nat)):∀ (n k:Nat),L.length=k+n→L2.rpFrom n k (L.map (·.1))=rq k ((L.map (·.1)).take k) (L.drop k)
 | 0,k,h=>by rw [List.drop_eq_nil_of_le (by omega)];rfl
 | n+1,k,h=>by
  have hk:k<L.length:=by omega
  have e:(L.map (·.1)).take (k+1)=(L.map (·.1)).take k++[L[k].1]:=by
   rw [List.take_add_one,List.getElem?_map,List.getElem?_eq_getElem hk];rfl
  rw [List.drop_eq_getElem_cons hk,rq,L2.rpFrom,rp_rq L n (k+1) (by omega),e]
  have hg:(L.map (·.1)).getD k ByteArray.empty=L[k].1:=by simp [List.getD,List.getElem?_eq_getElem hk]
  rw [hg]
theorem rp_is (L:List (ByteArray × Nat)):L2.rp (L.map (·.1))=rq 0 [] L:=by
 have:=rp_rq L L.length 0 (by omega)
 rw [List.take_zero,List.drop_zero] at this
 rw [L2.rp,List.length_map]
 exact this
theorem dp_rp (ll:List (List ByteArray)):(L2.rp ((pG 0 ll).map (·.1))=-1∧fe (dpE [] ll)=(0,0))∨∃ m,∃ h:m<(pG 0 ll).length,L2.rp ((pG 0 ll).map (·.1))=(m:Int)∧fe (dpE [] ll)=((pG 0 ll)[m].2,10):=by
 rw [rp_is,fe,fe_dp]
 rcases rq_fd (pG 0 ll) 0 [] with ⟨h1,h2⟩|⟨m,hm,h1,h2⟩
 ·exact .inl ⟨h1,by rw [h2]⟩
 ·exact .inr ⟨m,hm,by rw [h1];simp,by rw [h2]⟩
theorem pG_ones:∀ (l:List L9.Df) (i:Nat),(pG i (l.map fun d=>[d.nm])).map (·.1)=l.map (·.nm)∧∀ m,(h:m<(pG i (l.map fun d=>[d.nm])).length)→(pG i (l.map fun d=>[d.nm]))[m].2=i+m
 | [],i=>⟨rfl,fun m h=>by simp [pG] at h⟩
 | d::r,i=>by
  obtain⟨h1,h2⟩:=pG_ones r (i+1)
  simp only [List.map_cons,pG,List.map_nil,List.cons_append,List.nil_append]
  refine⟨by rw [h1],fun m h=>?_⟩
  match m,h with
  | 0,_=>rfl
  | m+1,h =>
   have:=h2 m (by simpa using h)
   rw [List.getElem_cons_succ,this];omega
theorem dp_maps (l:List L9.Df):(L2.rp (l.map (·.nm))=-1∧fe (dpE [] (l.map fun d=>[d.nm]))=(0,0))∨∃ m:Nat,L2.rp (l.map (·.nm))=(m:Int)∧fe (dpE [] (l.map fun d=>[d.nm]))=(m,10):=by
 obtain⟨h1,h2⟩:=pG_ones l 0
 have:=dp_rp (l.map fun d=>[d.nm])
 rw [h1] at this
 rcases this with h|⟨m,hm,h3,h4⟩
 ·exact .inl h
 ·exact .inr ⟨m,h3,by rw [h4,h2 m hm,Nat.zero_add]⟩
theorem lbK_back (l:List Stm) (s:ByteArray):∀ n,0≤lbK l s n→∃ m,m<n∧L2.on (labsAt l m) s=true
 | 0,h=>by simp [lbK] at h
 | n+1,h=>by
  rw [lbK] at h
  by_cases hn:L2.on (labsAt l n) s=true
  ·exact⟨n,by omega,hn⟩
  ·rw [if_neg hn] at h
   obtain⟨m,h1,h2⟩:=lbK_back l s n h
   exact⟨m,by omega,h2⟩
theorem lbK_on (l:List Stm) (x:ByteArray):decide (lbK l x l.length<0)=!L2.on (l.flatMap (·.labs)) x:=by
 cases h:L2.on (l.flatMap (·.labs)) x
 ·simp only [Bool.not_false,decide_eq_true_eq]
  refine Int.not_le.1 fun hn=>?_
  obtain⟨m,h1,h2⟩:=lbK_back l x _ hn
  rw [labsAt_get l m h1] at h2
  have:L2.on (l.flatMap (·.labs)) x=true:=(L2.on_mem _ _).2 (List.mem_flatMap.2 ⟨l[m],List.getElem_mem h1,(L2.on_mem _ _).1 h2⟩)
  rw [h] at this
  cases this
 ·simp only [Bool.not_true,decide_eq_false_iff_not]
  obtain⟨s,hs,hx⟩:=List.mem_flatMap.1 ((L2.on_mem _ _).1 h)
  obtain⟨k,hk,rfl⟩:=List.mem_iff_getElem.1 hs
  obtain⟨m,h1,h2,_⟩:=lbK_in l x l.length k hk (by rw [labsAt_get l k hk];exact (L2.on_mem _ _).2 hx)
  rw [h2];omega
end Go.Proofs.YtdgnjhhieemcaaaGreatDoor.L10
end
section
namespace Go.Proofs.YtdgnjhhieemcaaaGreatDoor.L10
open Go.RowKit
attribute [local go_sem] Oper.semAt_some
end Go.Proofs.YtdgnjhhieemcaaaGreatDoor.L10
end
section
namespace Go.Proofs.YtdgnjhhieemcaaaGreatDoor.L10
open Go.RowKit
attribute [local go_sem] Oper.semAt_some
theorem unE_lb (p:Pg) (s:Stm):unE p s=if (s.tg.toList.isEmpty || !decide (lbK p.stmts s.tg p.stmts.length<0)) && (s.mp.toList.isEmpty || !decide (mpI 0 p.maps s.mp<0)) then 0 else 11:=by
 rw [lbK_on,mpI_on,Bool.not_not,Bool.not_not]
 rfl
end Go.Proofs.YtdgnjhhieemcaaaGreatDoor.L10
end
section
namespace Go.Proofs.YtdgnjhhieemcaaaGreatDoor.L10
open Go.RowKit
attribute [local go_sem] Oper.semAt_some
end Go.Proofs.YtdgnjhhieemcaaaGreatDoor.L10
end
end
