/- Lemmas and walks of L10Rd, L10Ad, L10Chl: what each theorem states; conditions stand in each theorem. -/
import Derived.Test.YtihiggnglmhggaaGreatDoorL10Fbw
import Derived.Test.YtihiggnglmhggaaGreatDoorM14
section
namespace Go.Proofs.YtihiggnglmhggaaGreatDoor.L10
open Go.RowKit Go.Maps
attribute [local go_sem] Oper.semAt_some
structure Rd where
 maps:List L9.Df
 stmts:List Stm
 ml:List Int
 sl:List Int
 labs:List ByteArray
 lbl:Int
 line:Int
theorem own_ty {w:World} {base e:TypeId} {size:Nat} {v:Value} {n:Nat} {xs:List Value} {g:Nat} (h:w.ownsRow base e size v n xs) (hg:v.ownBlock=some g):∃ cur,w.heap[g]?=some (.cells cur e (0,0)):=by
 rcases h.2 with ⟨rfl,_⟩|⟨g',cap,cur,rfl,_,hh,_⟩
 ·cases hg
 ·obtain rfl:g'=g:=by simpa [Value.ownBlock] using hg
  exact⟨cur,hh⟩
theorem own_kept {w w':World} {base e:TypeId} {size:Nat} {v:Value} {n:Nat} {xs:List Value} {o:Option Nat} (h:w.ownsRow base e size v n xs) (hg:w.grownBy w' o) (hne:∀ g,v.ownBlock=some g→o≠some g):w'.ownsRow base e size v n xs:=by
 refine h.kept hg ?_
 cases hv:v.ownBlock with
 | none=>exact .inl rfl
 | some g=>exact .inr fun e=>hne g hv e.symm
theorem ty_ne {w:World} {a b:Nat} {c1 c2:Array Value} {t1 t2:TypeId} {f1 f2:Nat × Nat} (h1:w.heap[a]?=some (.cells c1 t1 f1)) (h2:w.heap[b]?=some (.cells c2 t2 f2)) (h:t1≠t2):(some a:Option Nat)≠some b:=by
 intro e
 cases e
 rw [h1] at h2
 cases h2
 exact h rfl
section
variable {B:Nat} {W W':World} {vm vs mv sv lv:Value} {l:List (Value × Stm)} {s:Rd}
end
end Go.Proofs.YtihiggnglmhggaaGreatDoor.L10
end
section
namespace Go.Proofs.YtihiggnglmhggaaGreatDoor.L10
open Go.RowKit Go.Maps
attribute [local go_sem] Oper.semAt_some
theorem gr_setCell (w:World) (k i:Nat) (v:Value):w.grownBy (w.setCell ⟨k,i,none⟩ v) (some k):=⟨rfl,rfl,rfl,by simp [World.setCell],fun x _ hne=>Below.heap_setCell _ _ _ _ (fun e=>hne (by rw [e]))⟩
end Go.Proofs.YtihiggnglmhggaaGreatDoor.L10
end
section
section
namespace Go.Proofs.YtihiggnglmhggaaGreatDoor.L4
open Go.RowKit L3 L1
def rchF (f:Int) (reg:Bool) (dst src off imm:Int):Int :=
 rchk (decide (f<0)) (rZ f reg (uD f) (uS f reg) (uO f) (uI f reg) dst src off imm) (isG dst && isG src) (rY off) (rX f imm)
theorem off_range (off:Int):(sx 16 off==off)=!rY off:=by
 unfold rY sx
 rw [Bool.eq_iff_iff]
 simp
 omega
theorem imm_range (f imm:Int) (h0:-9223372036854775808≤imm) (h1:imm≤9223372036854775807):rng f imm=!rX f imm:=by
 unfold rng rX
 by_cases h5:f=5
 ·subst h5
  rw [Bool.eq_iff_iff]
  simp [sx]
  omega
 by_cases h11:f=11
 ·subst h11
  rw [Bool.eq_iff_iff]
  simp [sx]
  omega
 by_cases h10:f=10
 ·subst h10
  rw [Bool.eq_iff_iff]
  simp [sx]
  omega
 ·have e5:(f==5)=false:=by simpa using h5
  have e11:(f==11)=false:=by simpa using h11
  have e10:(f==10)=false:=by simpa using h10
  have n10:(f != 10)=true:=by rw [bne,e10];rfl
  rw [e5,e11,e10,n10]
  simp [bne]
theorem field_bad (reg e0 e4 vD vS vO vI d0 s0 o0 i0:Bool) :
  (!((!reg || e0 || e4) && ((vD || d0) && (vS || s0)) && ((vO || o0) && (vI || i0))))=(((((reg && !e0 && !e4) || (!vD && !d0)) || (!vS && !s0)) || (!vO && !o0)) || (!vI && !i0)):=by
 cases reg <;> cases e0 <;> cases e4 <;> cases vD <;> cases vS <;> cases vO <;> cases vI <;> cases d0 <;> cases s0 <;> cases o0 <;> cases i0 <;> rfl
theorem first_is (b1 b2 b3 b4 b5 b6 b7 n z y x:Bool) (hn:b1=!n) (hz:(!(b2 && b3 && b4))=z) (h6:b6=!y) (h7:b7=!x) :
  firstBad [(b1,6),(b2,12),(b3,12),(b4,12),(b5,5),(b6,4),(b7,4)]=rchk n z b5 y x:=by
 subst hn hz h6 h7
 cases n <;> cases b2 <;> cases b3 <;> cases b4 <;> cases b5 <;> cases y <;> cases x <;> rfl
theorem chk_eq (f:Int) (hF:IsF f) (reg:Bool) (dst src off imm:Int) (h0:-9223372036854775808≤imm) (h1:imm≤9223372036854775807):chkF f reg dst src off imm=rchF f reg dst src off imm:=by
 unfold chkF rchF
 refine first_is _ _ _ _ _ _ _ _ _ _ _ ?_ ?_ (off_range off) (imm_range f imm h0 h1)
 ·rcases hF with rfl|rfl|rfl|rfl|rfl|rfl|rfl|rfl|rfl|rfl|rfl|rfl|rfl <;> rfl
 ·rw [field_bad]
  rfl
theorem rcheck_is (op:Int) (reg:Bool) (dst src off imm f R:Int) (w:World) (hf:frm (ix op)=f) (hR:rchF f reg dst src off imm=R) :
  Calls Tryz.prog 77 #[.agg #[.int .i64 op,.bool reg,.int .i64 dst,.int .i64 src,.int .i64 off,.int .i64 imm]] w fun e w'=>e=.returned (.int .i64 R)∧Below w.heap.size w w':=by
 subst hR
 exact rcheck_at op reg dst src off imm f _ _ _ _ _ _ _ _ _ w hf rfl rfl rfl rfl rfl rfl rfl rfl rfl
end Go.Proofs.YtihiggnglmhggaaGreatDoor.L4
end
section
namespace Go.Proofs.YtihiggnglmhggaaGreatDoor.L10
open Go.RowKit Go.Maps
attribute [local go_sem] Oper.semAt_some
end Go.Proofs.YtihiggnglmhggaaGreatDoor.L10
end
section
namespace Go.Proofs.YtihiggnglmhggaaGreatDoor.L10
open Go.RowKit
theorem feF_first:∀ (l:List Int) (k j:Nat) (h:j<l.length),(∀ i,(hi:i<j)→l[i]=0)→l[j]≠0→feF k l=(k+j,l[j])
 | e::r,k,0,_,_,hn=>by
  rw [feF,if_neg (by simpa using hn)];simp
 | e::r,k,j+1,h,hz,hn=>by
  have h0:e=0:=by simpa using hz 0 (by omega)
  rw [feF,if_pos h0,feF_first r (k+1) j (by simpa using h) (fun i hi=>by simpa using hz (i+1) (by omega)) (by simpa using hn)]
  simp;omega
theorem fe_sz (n:Nat):fe (szE n)=if n≤255 then (0,0) else (255,16):=by
 unfold fe
 split
 ·rename_i h
  refine feF_zero _ _ fun e he=>?_
  unfold szE at he
  obtain⟨i,hi,rfl⟩:=List.mem_map.1 he
  rw [if_pos (by have:=List.mem_range.1 hi;omega)]
 ·rename_i h
  have:=feF_first (szE n) 0 255 (by simp [szE];omega) (fun i hi=>by simp only [szE,List.getElem_map,List.getElem_range];rw [if_pos hi]) (by simp [szE])
  rw [this]
  simp [szE]
def pG:Nat→List (List ByteArray)→List (ByteArray × Nat)
 | _,[]=>[]
 | i,l::r=>l.map (fun x=>(x,i))++pG (i+1) r
def fd:List ByteArray→List (ByteArray × Nat)→Option Nat
 | _,[]=>none
 | ks,y::r=>if L2.on ks y.1 then some y.2 else fd (ks++[y.1]) r
theorem fd_list:∀ (labs ks:List ByteArray) (i:Nat) (R:List (ByteArray × Nat)),fd ks (labs.map (fun x=>(x,i))++R)=if addB ks labs then fd (ks++labs) R else some i
 | [],ks,i,R=>by simp [addB]
 | x::r,ks,i,R=>by
  rw [List.map_cons,List.cons_append,fd,addB]
  by_cases h:L2.on ks x=true
  ·rw [if_pos h,if_pos h];simp
  ·rw [if_neg h,if_neg h,fd_list r (ks++[x]) i R,List.append_assoc];rfl
theorem fe_dp:∀ (ll:List (List ByteArray)) (ks:List ByteArray) (i:Nat),feF i (dpE ks ll)=match fd ks (pG i ll) with|none=>(0,0)|some j=>(j,10)
 | [],ks,i=>rfl
 | l::r,ks,i=>by
  rw [dpE,feF,pG,fd_list]
  by_cases h:addB ks l=true
  ·rw [if_pos h,if_pos rfl,if_pos h,fe_dp r (ks++l) (i+1)]
  ·rw [if_neg h,if_neg (by decide),if_neg h]
def rq:Nat→List ByteArray→List (ByteArray × Nat)→Int
 | _,_,[]=>-1
 | k,ks,y::r=>if L2.on ks y.1 then (k:Int) else rq (k+1) (ks++[y.1]) r
theorem rq_fd:∀ (L:List (ByteArray × Nat)) (k:Nat) (ks:List ByteArray),(rq k ks L=-1∧fd ks L=none)∨∃ m,∃ h:m<L.length,rq k ks L=((k+m:Nat):Int)∧fd ks L=some L[m].2
 | [],_,_=>.inl ⟨rfl,rfl⟩
 | y::r,k,ks=>by
  rw [rq,fd]
  by_cases h:L2.on ks y.1=true
  ·rw [if_pos h,if_pos h]
   exact .inr ⟨0,by simp,by simp,by simp⟩
  ·rw [if_neg h,if_neg h]
   rcases rq_fd r (k+1) (ks++[y.1]) with h1|⟨m,hm,h1,h2⟩
   ·exact .inl h1
   ·exact .inr ⟨m+1,by simpa using hm,by rw [h1];congr 1;omega,by simpa using h2⟩
theorem rp_rq (L:List (ByteArray × Nat)):∀ (n k:Nat),L.length=k+n→L2.rpFrom n k (L.map (·.1))=rq k ((L.map (·.1)).take k) (L.drop k)
 | 0,k,h=>by rw [List.drop_eq_nil_of_le (by omega)];rfl
 | n+1,k,h=>by
  have hk:k<L.length:=by omega
  have e:(L.map (·.1)).take (k+1)=(L.map (·.1)).take k++[L[k].1]:=by
   rw [List.take_add_one,List.getElem?_map,List.getElem?_eq_getElem hk];rfl
  rw [List.drop_eq_getElem_cons hk,rq,L2.rpFrom,rp_rq L n (k+1) (by omega),e]
  have hg:(L.map (·.1)).getD k ByteArray.empty=L[k].1:=by simp [List.getD,List.getElem?_eq_getElem hk]
  rw [hg]
theorem rp_is (L:List (ByteArray × Nat)):L2.rp (L.map (·.1))=rq 0 [] L:=by
 have:=rp_rq L L.length 0 (by omega)
 rw [List.take_zero,List.drop_zero] at this
 rw [L2.rp,List.length_map]
 exact this
theorem dp_rp (ll:List (List ByteArray)):(L2.rp ((pG 0 ll).map (·.1))=-1∧fe (dpE [] ll)=(0,0))∨∃ m,∃ h:m<(pG 0 ll).length,L2.rp ((pG 0 ll).map (·.1))=(m:Int)∧fe (dpE [] ll)=((pG 0 ll)[m].2,10):=by
 rw [rp_is,fe,fe_dp]
 rcases rq_fd (pG 0 ll) 0 [] with ⟨h1,h2⟩|⟨m,hm,h1,h2⟩
 ·exact .inl ⟨h1,by rw [h2]⟩
 ·exact .inr ⟨m,hm,by rw [h1];simp,by rw [h2]⟩
theorem pG_ones:∀ (l:List L9.Df) (i:Nat),(pG i (l.map fun d=>[d.nm])).map (·.1)=l.map (·.nm)∧∀ m,(h:m<(pG i (l.map fun d=>[d.nm])).length)→(pG i (l.map fun d=>[d.nm]))[m].2=i+m
 | [],i=>⟨rfl,fun m h=>by simp [pG] at h⟩
 | d::r,i=>by
  obtain⟨h1,h2⟩:=pG_ones r (i+1)
  simp only [List.map_cons,pG,List.map_nil,List.cons_append,List.nil_append]
  refine⟨by rw [h1],fun m h=>?_⟩
  match m,h with
  | 0,_=>rfl
  | m+1,h =>
   have:=h2 m (by simpa using h)
   rw [List.getElem_cons_succ,this];omega
theorem dp_maps (l:List L9.Df):(L2.rp (l.map (·.nm))=-1∧fe (dpE [] (l.map fun d=>[d.nm]))=(0,0))∨∃ m:Nat,L2.rp (l.map (·.nm))=(m:Int)∧fe (dpE [] (l.map fun d=>[d.nm]))=(m,10):=by
 obtain⟨h1,h2⟩:=pG_ones l 0
 have:=dp_rp (l.map fun d=>[d.nm])
 rw [h1] at this
 rcases this with h|⟨m,hm,h3,h4⟩
 ·exact .inl h
 ·exact .inr ⟨m,h3,by rw [h4,h2 m hm,Nat.zero_add]⟩
theorem deE_siz (d:L9.Df):deE d=if L2.vd d.nm then (if L9.sizV d then 0 else 9) else 7:=by
 have:((upB 64 d.key && upB 256 d.val) && upB 1024 d.ent)=L9.sizV d:=by simp [upB,L9.sizV,Bool.and_assoc]
 rw [deE,this]
end Go.Proofs.YtihiggnglmhggaaGreatDoor.L10
end
section
namespace Go.Proofs.YtihiggnglmhggaaGreatDoor.L10
open Go.RowKit
attribute [local go_sem] Oper.semAt_some
end Go.Proofs.YtihiggnglmhggaaGreatDoor.L10
end
section
namespace Go.Proofs.YtihiggnglmhggaaGreatDoor.L10
open Go.RowKit
attribute [local go_sem] Oper.semAt_some
theorem feM (l:List L9.Df) (g:L9.Df→Int) (j:Nat) (h:j<l.length):feF j ((l.map g).drop j)=if g l[j]=0 then feF (j+1) ((l.map g).drop (j+1)) else (j,g l[j]):=by
 have:=feF_step (l.map g) j (by simpa using h)
 simpa using this
theorem rrep10 (W:World) (v:Value) (l:List ByteArray) (hl:l.length≤1000) (h:L8.StAt W v l):Calls Tryz.prog 62 #[v] W fun e w'=>e=.returned (.int .i64 (L2.rp l))∧Below W.heap.size W w' :=
 (L2.rrep_any v l W hl h).mono fun e w' ⟨h1,m,h2⟩=>⟨h1,by subst h2;exact L8.bdN (Below.refl _ _) m⟩
end Go.Proofs.YtihiggnglmhggaaGreatDoor.L10
end
section
namespace Go.Proofs.YtihiggnglmhggaaGreatDoor.L10
open Go.RowKit
attribute [local go_sem] Oper.semAt_some
end Go.Proofs.YtihiggnglmhggaaGreatDoor.L10
end
end
