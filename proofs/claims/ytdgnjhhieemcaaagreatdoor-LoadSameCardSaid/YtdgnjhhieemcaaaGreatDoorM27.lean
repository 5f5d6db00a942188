/- Lemmas and walks of L16Ch, L17Sm, L17Dg, L17Rj, L17Fn: what each theorem states; conditions stand in each theorem. -/
import Derived.Test.YtdgnjhhieemcaaaGreatDoorM24
import Derived.Test.YtdgnjhhieemcaaaGreatDoorL13Asm
import Derived.Deep.Fields
set_option maxHeartbeats 2000000
set_option maxRecDepth 100000
section
namespace Go.Proofs.YtdgnjhhieemcaaaGreatDoor.L16
open L3 L4 L12
open L13 (Ob)
theorem sl_one {x:L9.Ins} (h:frm (ix x.op)≠-1):1≤slN x:=by
 have e:=slN_int x
 rcases L5.slo_of (frm_isF x.op) with k|k|k
 ·unfold slo at k
  rcases frm_isF x.op with f|f|f|f|f|f|f|f|f|f|f|f|f <;> rw [f] at k h <;> first|exact absurd rfl h|(simp at k)
 ·omega
 ·omega
theorem bytes_sl {x:L9.Ins} (h:frm (ix x.op)≠-1):(L13.tI x).bytes.length=8*slN x:=by
 have e:=slN_int x
 have e1:=sl_one h
 unfold L5.Ix.bytes
 rw [L5.encL_length]
 show (if slo (frm (ix x.op))=2 then 16 else 8)=_
 rcases L5.slo_of (frm_isF x.op) with k|k|k
 ·omega
 ·rw [k,if_neg (by decide)];omega
 ·rw [k,if_pos rfl];omega
theorem join_sl:∀ l:List L9.Ins,(∀ x∈l,frm (ix x.op)≠-1)→(L5.joinB (l.map L13.tI)).length=8*smN l
 | [],_=>rfl
 | x::r,h=>by
  have h1:=join_sl r fun y hy=>h y (List.mem_cons_of_mem _ hy)
  have h2:=bytes_sl (h x (List.mem_cons_self ..))
  unfold L5.joinB at h1 ⊢
  rw [List.map_cons,List.flatMap_cons,List.length_append,h1,h2,smN];omega
theorem sm_op:∀ l m:List L9.Ins,l.map (·.op)=m.map (·.op)→smN l=smN m
 | [],[],_=>rfl
 | [],y::m,h=>by simp at h
 | x::l,[],h=>by simp at h
 | x::l,y::m,h=>by
  simp only [List.map_cons,List.cons.injEq] at h
  rw [smN,smN,sm_op l m h.2]
  unfold slN
  rw [h.1]
end Go.Proofs.YtdgnjhhieemcaaaGreatDoor.L16
end
section
namespace Go.Proofs.YtdgnjhhieemcaaaGreatDoor.L17
open L3 L4 L12
open L13 (Ob)
open L16 (chE)
open L10 (jmI fmI)
def eaF (n:Nat) (p:Nat→Bool):Option Nat:=(List.range n).find? fun i=>!p i
def eaV (l:List L9.Ins) (p:Nat→Bool) (e:Int):Int × Int:=match eaF l.length p with
 | none=>(0,0)
 | some i=>((stN l i:Int),e)
theorem eaF_some {n:Nat} {p:Nat→Bool} {i:Nat} (hi:i<n) (h0:∀ j,j<i→p j=true) (h1:p i=false):eaF n p=some i:=by
 unfold eaF
 rw [List.find?_range_eq_some]
 exact⟨by simp [h1],by simpa using hi,fun j hj=>by simp [h0 j hj]⟩
theorem eaF_none {n:Nat} {p:Nat→Bool} (h:∀ j,j<n→p j=true):eaF n p=none:=by
 unfold eaF
 rw [List.find?_range_eq_none]
 intro j hj
 simp [h j hj]
theorem eaF_cases (n:Nat) (p:Nat→Bool):(eaF n p=none∧∀ j,j<n→p j=true)∨∃ i,eaF n p=some i∧i<n∧p i=false∧∀ j,j<i→p j=true:=by
 cases h:eaF n p with
 | none =>
  unfold eaF at h
  rw [List.find?_range_eq_none] at h
  exact .inl ⟨rfl,fun j hj=>by simpa using h j hj⟩
 | some i =>
  unfold eaF at h
  rw [List.find?_range_eq_some] at h
  obtain⟨h1,h2,h3⟩:=h
  exact .inr ⟨i,rfl,by simpa using h2,by simpa using h1,fun j hj=>by simpa using h3 j hj⟩
theorem eaV_some {l:List L9.Ins} {p:Nat→Bool} {e:Int} {i:Nat} (hi:i<l.length) (h0:∀ j,j<i→p j=true) (h1:p i=false):eaV l p e=((stN l i:Int),e):=by unfold eaV;rw [eaF_some hi h0 h1]
theorem eaV_none {l:List L9.Ins} {p:Nat→Bool} {e:Int} (h:∀ j,j<l.length→p j=true):eaV l p e=(0,0):=by unfold eaV;rw [eaF_none h]
def z9:L9.Ins:=⟨0,false,0,0,0,0⟩
def atI (l:List L9.Ins) (i:Nat):L9.Ins:=l.getD i z9
theorem atI_is {l:List L9.Ins} {i:Nat} (h:i<l.length):atI l i=l[i]:=by simp [atI,List.getD,List.getElem?_eq_getElem h]
def isRf (x:L9.Ins):Bool:=fmI x==11
def tgI (l:List L9.Ins) (i:Nat):Int:=atN 0 0 l ((stN l (i+1):Int)+(atI l i).off)
def pF (l:List L9.Ins) (i:Nat):Bool:=!isRf (atI l i) || (atI l i).imm==0
def pJ (l:List L9.Ins) (i:Nat):Bool:=!jmI (atI l i) || decide (0≤tgI l i)
def pW (l:List L9.Ins) (i:Nat):Bool:=wri (fmI (atI l i)) (atI l i).dst != 10
def pE (l:List L9.Ins) (i:Nat):Bool:=decide (i+1<l.length) || endF (fmI (atI l i))
def tgL (l:List L9.Ins) (k:Nat):List Int:=(List.range k).map fun i=>if jmI (atI l i) then tgI l i else -1
def taR (l:List L9.Ins):List Int × Int:=match eaF l.length (pJ l) with
 | none=>(tgL l l.length,-1)
 | some i=>([],(i:Int))
theorem tgL_len (l:List L9.Ins) (k:Nat):(tgL l k).length=k:=by simp [tgL]
theorem tgL_succ (l:List L9.Ins) (k:Nat):tgL l (k+1)=tgL l k++[if jmI (atI l k) then tgI l k else -1]:=by simp [tgL,List.range_succ]
theorem taR_jump (l:List L9.Ins):eaV l (fun i=>decide ((i:Int)≠(taR l).2)) 13=eaV l (pJ l) 13:=by
 unfold taR
 rcases eaF_cases l.length (pJ l) with ⟨e,k⟩|⟨i,e,hi,k0,k1⟩
 ·rw [e,eaV_none k]
  exact eaV_none fun j hj=>by simp <;> omega
 ·rw [e,eaV_some hi k1 k0]
  exact eaV_some hi (fun j hj=>by simp <;> omega) (by simp)
def rfB (l:List L9.Ins) (s:Int):Bool:=decide (0≤atN 0 0 l s) && isRf (atI l (atN 0 0 l s).toNat)
def hasR (r:List (Int × Int)) (s:Int):Bool:=r.any fun x=>x.1==s
def rlV (o:Ob) (l:List L9.Ins):Int × Int:=match eaF (o.code.length / 8) fun s=>rfB l s==hasR o.rels s with
 | none=>(0,0)
 | some s=>((s:Int),18)
def opS (l:List L9.Ins) (r:List (Int × Int)) (k:Nat) (s:Int):Bool:=hasR r s != (List.range k).any fun i=>isRf (atI l i) && ((stN l i:Int)==s)
theorem opS_zero (l:List L9.Ins) (r:List (Int × Int)) (s:Int):opS l r 0 s=hasR r s:=by simp [opS]
theorem stN_zero (l:List L9.Ins):stN l 0=0:=by simp [stN,smN]
theorem stN_next {l:List L9.Ins} {i:Nat} (h:i<l.length):stN l (i+1)=stN l i+slN (atI l i):=by rw [atI_is h];exact stN_succ l i h
theorem stN_mono {l:List L9.Ins} (hd:∀ x∈l,1≤slN x):∀ {i j:Nat},i<j→j≤l.length→stN l i<stN l j
 | i,0,h,_=>absurd h (by omega)
 | i,j+1,h,hj=>by
  have e:=stN_succ l j (by omega)
  have:=hd l[j] (List.getElem_mem _)
  by_cases hij:i=j
  ·subst hij;omega
  ·have:=stN_mono hd (show i<j by omega) (by omega)
   omega
theorem opS_succ (l:List L9.Ins) (r:List (Int × Int)) (k:Nat) (s:Int) (hd:∀ x∈l,1≤slN x) (hk:k<l.length):opS l r (k+1) s=if isRf (atI l k)=true∧(stN l k:Int)=s then !opS l r k s else opS l r k s:=by
 unfold opS
 rw [List.range_succ,List.any_append]
 simp only [List.any_cons,List.any_nil,Bool.or_false]
 by_cases h:isRf (atI l k)=true∧(stN l k:Int)=s
 ·have h0:((List.range k).any fun i=>isRf (atI l i) && ((stN l i:Int)==s))=false:=by
   rw [List.any_eq_false]
   intro i hi
   have:=stN_mono hd (List.mem_range.1 hi) (show k≤l.length by omega)
   have hne:((stN l i:Int)==s)=false:=by rw [beq_eq_false_iff_ne];omega
   simp [hne]
  rw [if_pos h,h0,h.1,h.2]
  cases hasR r s <;> simp
 ·rw [if_neg h]
  have:(isRf (atI l k) && ((stN l k:Int)==s))=false:=by
   cases h1:isRf (atI l k)
   ·rfl
   ·simp only [Bool.true_and,beq_eq_false_iff_ne]
    exact fun e=>h ⟨h1,e⟩
  rw [this,Bool.or_false]
theorem atN_inv:∀ (l:List L9.Ins) (k a:Nat) (s:Int),atN k a l s≠-1→∃ i,i<l.length∧atN k a l s=((k+i:Nat):Int)∧((a+stN l i:Nat):Int)=s
 | [],_,_,_,h=>absurd rfl h
 | x::r,k,a,s,h=>by
  rw [atN] at h ⊢
  by_cases e:(a:Int)=s
  ·rw [if_pos e]
   exact⟨0,by simp,by simp,by rw [stN_zero];simpa using e⟩
  ·rw [if_neg e] at h ⊢
   obtain⟨i,h1,h2,h3⟩:=atN_inv r (k+1) (a+slN x) s h
   refine⟨i+1,by simpa using h1,by rw [h2];congr 1;omega,?_⟩
   have:stN (x::r) (i+1)=slN x+stN r i:=by unfold stN;rw [List.take_succ_cons,smN]
   rw [this,← h3];congr 1;omega
theorem atN_at {l:List L9.Ins} (hd:∀ x∈l,1≤slN x) {i:Nat} (hi:i<l.length):atN 0 0 l (stN l i:Int)=(i:Int):=by
 have:=atN_hit l 0 0 i (fun x hx=>by have:=hd x hx;omega) hi
 simpa using this
theorem rfB_is {l:List L9.Ins} (hd:∀ x∈l,1≤slN x) (s:Int):rfB l s=(List.range l.length).any fun i=>isRf (atI l i) && ((stN l i:Int)==s):=by
 rw [Bool.eq_iff_iff,List.any_eq_true]
 unfold rfB
 constructor
 ·intro h
  simp only [Bool.and_eq_true,decide_eq_true_eq] at h
  obtain⟨i,h1,h2,h3⟩:=atN_inv l 0 0 s (by omega)
  rw [h2] at h
  simp only [Nat.zero_add,Int.toNat_natCast] at h h3
  exact⟨i,List.mem_range.2 h1,by simp [h.2,h3]⟩
 ·rintro ⟨i,hi,h⟩
  simp only [Bool.and_eq_true,beq_iff_eq] at h
  obtain⟨h1,rfl⟩:=h
  rw [atN_at hd (List.mem_range.1 hi)]
  simp [h1]
theorem opS_all {l:List L9.Ins} (hd:∀ x∈l,1≤slN x) (r:List (Int × Int)) (s:Int):opS l r l.length s=(hasR r s != rfB l s):=by unfold opS;rw [rfB_is hd]
structure Cg (o:Ob) (l:List L9.Ins):Prop where
 sl:∀ x∈l,1≤slN x
 sm:smN l=o.code.length / 8
 rl:∀ r∈o.rels,0≤r.1∧r.1<((o.code.length / 8:Nat):Int)
theorem opS_in {o:Ob} {l:List L9.Ins} (h:Cg o l) {s:Int} (hs:opS l o.rels l.length s=true):0≤s∧s<((o.code.length / 8:Nat):Int):=by
 rw [opS_all h.sl,bne_iff_ne] at hs
 cases h1:hasR o.rels s with
 | true =>
  unfold hasR at h1
  rw [List.any_eq_true] at h1
  obtain⟨r,hr,e⟩:=h1
  have:=h.rl r hr
  simp only [beq_iff_eq] at e
  omega
 | false =>
  rw [h1] at hs
  have h2:rfB l s=true:=by cases h3:rfB l s <;> simp [h3] at hs ⊢
  rw [rfB_is h.sl,List.any_eq_true] at h2
  obtain⟨i,hi,e⟩:=h2
  simp only [Bool.and_eq_true,beq_iff_eq] at e
  have:=stN_mono h.sl (List.mem_range.1 hi) (Nat.le_refl _)
  rw [stN_all,h.sm] at this
  omega
theorem rlV_none {o:Ob} {l:List L9.Ins} (h:Cg o l) (hs:∀ s,opS l o.rels l.length s=false):rlV o l=(0,0):=by
 unfold rlV
 rw [eaF_none]
 intro j _
 have:=hs (j:Int)
 rw [opS_all h.sl,bne_eq_false_iff_eq] at this
 simp [this]
theorem rlV_some {o:Ob} {l:List L9.Ins} (h:Cg o l) {s:Int} (hs:opS l o.rels l.length s=true) (hm:∀ t,opS l o.rels l.length t=true→s≤t):rlV o l=(s,18):=by
 obtain⟨h0,h1⟩:=opS_in h hs
 obtain⟨n,rfl⟩:=Int.eq_ofNat_of_zero_le h0
 unfold rlV
 rw [eaF_some (i:=n) (by omega)]
 ·intro j hj
  cases hj':opS l o.rels l.length (j:Int) with
  | true=>have:=hm _ hj';omega
  | false =>
   rw [opS_all h.sl,bne_eq_false_iff_eq] at hj'
   simp [hj']
 ·rw [opS_all h.sl,bne_iff_ne] at hs
  simpa using fun e=>hs e.symm
def stZ (l:List L9.Ins):List Int:=(stL 0 l).map fun (a:Nat)=>(a:Int)
theorem stL_ge:∀ (l:List L9.Ins) (a y:Nat),y∈stL a l→a≤y
 | [],_,_,h=>by cases h
 | x::r,a,y,h=>by
  rw [stL] at h
  rcases List.mem_cons.1 h with rfl|h
  ·exact Nat.le_refl _
  ·have:=stL_ge r _ y h
   omega
theorem stL_sorted:∀ (l:List L9.Ins) (a:Nat),((stL a l).map fun (a:Nat)=>(a:Int)).Pairwise (·≤·)
 | [],_=>List.Pairwise.nil
 | x::r,a=>by
  rw [stL,List.map_cons,List.pairwise_cons]
  refine⟨fun y hy=>?_,stL_sorted r _⟩
  obtain⟨z,hz,rfl⟩:=List.mem_map.1 hy
  have:=stL_ge r _ z hz
  omega
theorem bs_is:∀ (l:List L9.Ins) (k a:Nat) (s:Int),atN k a l s=if ((stL a l).map fun (a:Nat)=>(a:Int)).contains s then ((k+((stL a l).map fun (a:Nat)=>(a:Int)).countP (·<s):Nat):Int) else -1
 | [],_,_,_=>by simp [atN,stL]
 | x::r,k,a,s=>by
  have ih:=bs_is r (k+1) (a+slN x) s
  rw [atN,stL,List.map_cons,List.contains_cons,List.countP_cons]
  by_cases e:(a:Int)=s
  ·subst e
   have h0:((stL (a+slN x) r).map fun (a:Nat)=>(a:Int)).countP (·<(a:Int))=0:=by
    rw [List.countP_eq_zero]
    intro y hy
    obtain⟨z,hz,rfl⟩:=List.mem_map.1 hy
    have:=stL_ge r _ z hz
    simp only [decide_eq_true_eq];omega
   rw [if_pos rfl,h0]
   simp
  ·have e':(s==(a:Int))=false:=by rw [beq_eq_false_iff_ne];exact fun h=>e h.symm
   rw [if_neg e,ih,e',Bool.false_or]
   by_cases hc:((stL (a+slN x) r).map fun (a:Nat)=>(a:Int)).contains s=true
   ·have hlt:(a:Int)<s:=by
     rw [List.contains_iff_mem] at hc
     obtain⟨z,hz,rfl⟩:=List.mem_map.1 hc
     have:=stL_ge r _ z hz
     omega
    rw [if_pos hc,if_pos hc,if_pos (by simpa using hlt)]
    congr 1;omega
   ·rw [if_neg hc,if_neg hc]
def iT (x:L5.Ix):L9.Ins:=⟨x.op,x.reg,x.dst,x.src,x.off,x.imm⟩
def rdC (c:List UInt8):List L5.Rdg:=L5.rds c.length 0 c
def inL (c:List UInt8):List L9.Ins:=(rdC c).map fun r=>iT r.x
theorem inL_tI (c:List UInt8):(inL c).map L13.tI=(rdC c).map fun r=>r.x:=by
 unfold inL
 rw [List.map_map]
 exact List.map_congr_left fun r _=>rfl
def fr:List (Int × Int)→Int × Int
 | []=>(0,0)
 | x::r=>if x.2≠0 then x else fr r
def insE (c:List UInt8):Int × Int:=if (L5.la (rdC c)).e=0 then (0,0) else (((L5.la (rdC c)).at':Int),(L5.la (rdC c)).e)
theorem insE_ok {c:List UInt8} (h:(L5.la (rdC c)).e=0):insE c=(0,0):=by unfold insE;rw [if_pos h]
theorem insE_no {c:List UInt8} (h:(L5.la (rdC c)).e≠0):insE c=(((L5.la (rdC c)).at':Int),(L5.la (rdC c)).e):=by unfold insE;rw [if_neg h]
theorem insE_z {c:List UInt8}:(insE c).2=0↔(L5.la (rdC c)).e=0:=by
 unfold insE
 split
 ·rename_i h;simp [h]
 ·rfl
def vL (o:Ob):List (Int × Int):=[(0,chE o),insE o.code,eaV (inL o.code) (pF (inL o.code)) 12,rlV o (inL o.code),eaV (inL o.code) (pJ (inL o.code)) 13,eaV (inL o.code) (pW (inL o.code)) 14,eaV (inL o.code) (pE (inL o.code)) 15]
def vE (o:Ob):Int × Int:=fr (vL o)
end Go.Proofs.YtdgnjhhieemcaaaGreatDoor.L17
end
section
namespace Go.Proofs.YtdgnjhhieemcaaaGreatDoor.L5
open Go.RowKit L3 L1 L4
theorem hiL_b (l:List UInt8):-2147483648≤hiL l∧hiL l≤2147483647:=sx32_b _
theorem ivL_b (l:List UInt8):-2147483648≤ivL l∧ivL l≤2147483647:=by
 unfold ivL
 split
 ·exact sx32_b _
 ·omega
theorem rdL_fits (l:List UInt8):(rdL l).fits:=by
 have h1:=ivL_b l
 have h2:=hiL_b l
 show -9223372036854775808≤(if slo (fL l)=2 then bits .or .i64 (wrap64 (ivL l % 4294967296)) (hiL l*4294967296) else ivL l)∧(if slo (fL l)=2 then bits .or .i64 (wrap64 (ivL l % 4294967296)) (hiL l*4294967296) else ivL l)≤9223372036854775807
 split
 ·rw [show wrap64 (ivL l % 4294967296)=ivL l % 4294967296 by unfold wrap64;omega,or_hi _ _ (Int.emod_nonneg _ (by decide)) (Int.emod_lt_of_pos _ (by decide)) h2.1 h2.2]
  exact vb _ _ (Int.emod_nonneg _ (by decide)) (Int.emod_lt_of_pos _ (by decide)) h2.1 h2.2
 ·omega
theorem dec_good (l:List UInt8) (h:(decF l).2.2=0):∃ s:Nat,(decF l).2.1=(s:Int)∧1≤s∧s≤2∧8*s≤l.length∧(decF l).1.err=0∧(decF l).1.fits∧(decF l).1.bytes=l.take (8*s):=by
 obtain⟨s,hs,h1,h2,h3⟩:=decF_ok l h
 refine⟨s,hs,h1,h2,h3,?_⟩
 have key:∀ x:Ix,∀ n e:Int,decF l=(x,n,e)→e=0→x=rdL l∧(rdL l).chk (fL l)=0∧l.take ((rdL l).enc (ix (idL l).1) (fL l)).length=(rdL l).enc (ix (idL l).1) (fL l)∧n=slo (fL l):=by
  intro x n e hd he
  unfold decF at hd
  repeat' split at hd
  all_goals simp only [Prod.mk.injEq] at hd
  all_goals obtain⟨d1,d2,d3⟩:=hd
  all_goals first|(exfalso;omega)|skip
  rename_i hh
  exact⟨d1.symm,hh.1,hh.2,d2.symm⟩
 obtain⟨⟨x,n,e⟩,hd⟩:∃ d,decF l=d:=⟨_,rfl⟩
 rw [hd] at h hs ⊢
 obtain⟨k1,k2,k3,k4⟩:=key x n e hd h
 subst k1
 have hs':n=(s:Int):=hs
 have hlen:((rdL l).enc (ix (idL l).1) (fL l)).length=8*s:=by
  show (encL _ _ _ _ _ _ _).length=_
  rw [encL_length]
  split <;> omega
 rw [hlen] at k3
 exact⟨k2,rdL_fits l,k3.symm⟩
end Go.Proofs.YtdgnjhhieemcaaaGreatDoor.L5
end
section
namespace Go.Proofs.YtdgnjhhieemcaaaGreatDoor.L17
open Go.RowKit L3 L1 L4 L5
open L13 (Ob)
theorem la_cons (x y:Rdg) (q:List Rdg):la (x::y::q)=la (y::q):=rfl
theorem rds_join:∀ (n a:Nat) (l:List UInt8),l.length≤n→(la (rds n a l)).e=0→joinB ((rds n a l).map fun x=>x.x)=l∧∀ x∈(rds n a l).map (fun x=>x.x),x.err=0∧x.fits
 | 0,a,l,h,_=>by
  have:l=[]:=List.eq_nil_of_length_eq_zero (by omega)
  subst this
  simp [rds,joinB]
 | n+1,a,l,h,he=>by
  by_cases hl:l=[]
  ·subst hl
   simp [rds,joinB]
  by_cases hd:(decF l).2.2=0
  ·obtain⟨s,hs,h1,h2,h8,g1,g2,g3⟩:=dec_good l hd
   rw [rds_go n a s l hl hd hs] at he ⊢
   have he':(la (rds n (a+s) (l.drop (8*s)))).e=0:=by
    cases hq:rds n (a+s) (l.drop (8*s)) with
    | nil=>rfl
    | cons y q=>rw [hq,la_cons] at he;exact he
   obtain⟨i1,i2⟩:=rds_join n (a+s) (l.drop (8*s)) (by rw [List.length_drop];omega) he'
   refine⟨?_,?_⟩
   ·simp only [List.map_cons]
    rw [show ∀ (x:Ix) (q:List Ix),joinB (x::q)=x.bytes++joinB q from fun _ _=>rfl,i1,g3,List.take_append_drop]
   ·intro x hx
    rcases List.mem_cons.1 hx with rfl|hx
    ·exact⟨g1,g2⟩
    ·exact i2 x hx
  ·rw [rds_bad n a l hl hd] at he
   exact absurd he hd
theorem rdC_good {c:List UInt8} (h:(la (rdC c)).e=0):joinB ((inL c).map L13.tI)=c∧∀ x∈inL c,(L13.tI x).err=0∧(L13.tI x).fits:=by
 obtain⟨h1,h2⟩:=rds_join c.length 0 c (Nat.le_refl _) h
 rw [inL_tI]
 refine⟨h1,fun x hx=>h2 _ ?_⟩
 obtain⟨r,hr,rfl⟩:=List.mem_map.1 hx
 exact List.mem_map.2 ⟨r,hr,rfl⟩
theorem err_f {x:L9.Ins} (h:(L13.tI x).err=0):frm (ix x.op)≠-1:=by
 unfold Ix.err at h
 exact (L11.chk_all h).1
theorem sx16_rng (x:Int):-32768≤L1.sx 16 x∧L1.sx 16 x≤32767:=by
 unfold L1.sx
 rw [if_neg (by decide),if_pos (by decide)]
 omega
theorem err_off {x:L9.Ins} (h:(L13.tI x).err=0):-32768≤x.off∧x.off≤32767:=by
 unfold Ix.err at h
 obtain⟨-,-,-,-,-,-,-,-,k,-⟩:=L11.chk_all h
 have:L1.sx 16 x.off=x.off:=k
 have:=sx16_rng x.off
 omega
theorem inL_f {c:List UInt8} (h:(la (rdC c)).e=0):∀ x∈inL c,frm (ix x.op)≠-1:=fun x hx=>err_f ((rdC_good h).2 x hx).1
theorem inL_off {c:List UInt8} (h:(la (rdC c)).e=0):∀ x∈inL c,-32768≤x.off∧x.off≤32767:=fun x hx=>err_off ((rdC_good h).2 x hx).1
theorem inL_sl {c:List UInt8} (h:(la (rdC c)).e=0):∀ x∈inL c,1≤L12.slN x:=fun x hx=>L16.sl_one (inL_f h x hx)
theorem inL_len {c:List UInt8} (h:(la (rdC c)).e=0):c.length=8*L12.smN (inL c):=by
 have h1:=L16.join_sl (inL c) (inL_f h)
 rw [(rdC_good h).1] at h1
 exact h1
theorem len_le:∀ l:List L9.Ins,(∀ x∈l,1≤L12.slN x)→l.length≤L12.smN l
 | [],_=>by simp
 | x::r,h=>by
  have h1:=h x (List.mem_cons_self ..)
  have h2:=len_le r fun y hy=>h y (List.mem_cons_of_mem _ hy)
  rw [L12.smN,List.length_cons];omega
theorem cg_of {o:Ob} (hG:L16.Gd o) (h:(la (rdC o.code)).e=0):Cg o (inL o.code) :=
 ⟨inL_sl h,by have:=inL_len h;omega,fun r hr=>by have:=L16.rl_in _ _ _ _ hG.rl r hr;omega⟩
theorem inL_pos {o:Ob} (hG:L16.Gd o) (h:(la (rdC o.code)).e=0):0<(inL o.code).length:=by
 have h1:=inL_len h
 have h2:=hG.code.1
 cases hc:inL o.code with
 | nil=>rw [hc,L12.smN] at h1;omega
 | cons x r=>simp
theorem allP_no {w:World} {r:List Rdg} {e:Ending} {w':World} (h:AllP w r e w') (h0:(la r).e≠0) :
  e=.returned (.tuple #[.slice none 0 0,.int .i64 ((la r).at':Int),.int .i64 (la r).e])∧Below w.heap.size w w':=by
 obtain⟨h,hb⟩:=h
 rcases h with ⟨-,rfl⟩|⟨h,-⟩
 ·exact⟨rfl,hb⟩
 ·refine absurd ?_ h0
  cases r with
  | nil=>rfl
  | cons y q=>exact h _ (by simp only [la];rw [List.getLastD_eq_getLast?,List.getLast?_eq_some_getLast (by simp)];exact List.getLast_mem _)
end Go.Proofs.YtdgnjhhieemcaaaGreatDoor.L17
end
section
namespace Go.Proofs.YtdgnjhhieemcaaaGreatDoor.L17
open Go.RowKit L3 L4 L12 L14
attribute [local go_sem] Oper.semAt_some
theorem bch {w a b:World} (h:Below w.heap.size w a) (k:Below a.heap.size a b):Below w.heap.size w b:=L14.bch h k
theorem bnew (w:World) (o:Obj):Below w.heap.size w (w.alloc o):=L14.bnew w o
abbrev xA (x:L9.Ins):Array Value:=#[.int .i64 x.op,.bool x.reg,.int .i64 x.dst,.int .i64 x.src,.int .i64 x.off,.int .i64 x.imm]
theorem cells5c {w:World} {k:Nat} {a b c d e:Value} {t:TypeId} (h:w.heap[k]?=some (.cells #[a,b,c,d,e] t)):w.cell? ⟨k,0,none⟩=some a∧w.cell? ⟨k,1,none⟩=some b∧w.cell? ⟨k,2,none⟩=some c∧w.cell? ⟨k,3,none⟩=some d∧w.cell? ⟨k,4,none⟩=some e:=by
 simp [World.cell?,h]
theorem cells6c {w:World} {k:Nat} {a b c d e f:Value} {t:TypeId} (h:w.heap[k]?=some (.cells #[a,b,c,d,e,f] t)):w.cell? ⟨k,0,none⟩=some a∧w.cell? ⟨k,1,none⟩=some b∧w.cell? ⟨k,2,none⟩=some c∧w.cell? ⟨k,3,none⟩=some d∧w.cell? ⟨k,4,none⟩=some e∧w.cell? ⟨k,5,none⟩=some f:=by
 simp [World.cell?,h]
theorem refers_at (op:Int) (reg:Bool) (dst src off imm:Int) (v:Bool) (w:World) (hv:(frm (ix op)==11)=v) :
  Calls Tryz.prog 137 #[.agg #[.int .i64 op,.bool reg,.int .i64 dst,.int .i64 src,.int .i64 off,.int .i64 imm]] w fun e w'=>e=.returned (.bool v)∧Below w.heap.size w w':=by
 obtain⟨f,hf⟩:∃ f,frm (ix op)=f:=⟨_,rfl⟩
 rw [hf] at hv
 have HF:=Lib.hid hf
 clear hf
 go_enter Tryz.func137,Tryz.ntmps137
 go_wp2_with (go_at_call 62;((with_reducible refine (form_at op _ _ HF.out).mono ?_);rintro e w1 ⟨rfl,b1⟩))
 go_ret
 exact⟨rfl,bch (bnew _ _) b1⟩
theorem k1_at (i:Int) (x:L9.Ins) (v:Bool) (w:World) (hv:(!isRf x || x.imm==0)=v):Calls Tryz.prog 136 #[.int .i64 i,.agg (xA x)] w fun e w'=>e=.returned (.bool v)∧Below w.heap.size w w':=by
 obtain⟨op,reg,dst,src,off,imm⟩:=x
 obtain⟨r,hr⟩:∃ r,isRf ⟨op,reg,dst,src,off,imm⟩=r:=⟨_,rfl⟩
 obtain⟨z,hz⟩:∃ z,(imm==0)=z:=⟨_,rfl⟩
 have HF:=Lib.hid (fun W=>refers_at op reg dst src off imm r W hr)
 rw [hr] at hv
 simp only [hz] at hv
 have K0:=Lib.hid (heap_alloc_last w (.cells #[.int .i64 op,.bool reg,.int .i64 dst,.int .i64 src,.int .i64 off,.int .i64 imm] 45))
 clear hr
 cases r <;> cases z
 all_goals
  simp at hv
  subst hv
  go_enter Tryz.func136,Tryz.ntmps136
  go_wp2_with (go_at_call 137;((with_reducible refine (HF.out _).mono ?_);rintro e w1 ⟨rfl,b1⟩;obtain⟨x0,x1,x2,x3,x4,x5⟩:=cells6c (L8.row_up K0.out b1)))
  go_ret
  exact⟨rfl,bch (bnew _ _) b1⟩
theorem k2_at (i:Int) (k:Nat) (g:Int) (x:L9.Ins) (v:Bool) (w:World) (hk:w.cell? ⟨k,0,none⟩=some (.int .i64 g)) (hv:decide (i≠g)=v):Calls Tryz.prog 142 #[.int .i64 i,.agg (xA x),.pointer (some ⟨k,0,none⟩)] w fun e w'=>e=.returned (.bool v)∧Below w.heap.size w w':=by
 have hl:=World.block_lt_of_cell? w _ hk
 have hv':(i != g)=v:=by rw [← hv];by_cases h:i=g <;> simp [h]
 clear hv
 go_enter Tryz.func142,Tryz.ntmps142
 go_wp2
 go_ret
 exact⟨rfl,bnew _ _⟩
theorem k3_at (i:Int) (x:L9.Ins) (v:Bool) (w:World) (hv:(wri (L10.fmI x) x.dst != 10)=v):Calls Tryz.prog 143 #[.int .i64 i,.agg (xA x)] w fun e w'=>e=.returned (.bool v)∧Below w.heap.size w w':=by
 obtain⟨op,reg,dst,src,off,imm⟩:=x
 obtain⟨r,hr⟩:∃ r,wri (frm (ix op)) dst=r:=⟨_,rfl⟩
 have HF:=Lib.hid (fun W=>writes_at op reg dst src off imm _ r W rfl hr)
 have hv':(r != 10)=v:=by rw [← hr];exact hv
 clear hr hv
 go_enter Tryz.func143,Tryz.ntmps143
 go_wp2_with (go_at_call 144;((with_reducible refine (HF.out _).mono ?_);rintro e w1 ⟨rfl,b1⟩))
 go_ret
 exact⟨rfl,bch (bnew _ _) b1⟩
theorem k4_at (i n k kc c:Nat) (a:Option Addr) (x:L9.Ins) (v:Bool) (w:World) (hp:w.cell? ⟨k,0,none⟩=some (.pointer (some ⟨kc,0,none⟩))) (hc:w.cell? ⟨kc,3,none⟩=some (.slice a n c)) (hn:0<n∧n≤100000) (hv:(decide (i+1<n) || endF (L10.fmI x))=v) :
  Calls Tryz.prog 145 #[.int .i64 (i:Int),.agg (xA x),.pointer (some ⟨k,0,none⟩)] w fun e w'=>e=.returned (.bool v)∧Below w.heap.size w w':=by
 obtain⟨op,reg,dst,src,off,imm⟩:=x
 obtain⟨n,rfl⟩:∃ m,n=m+1:=⟨n-1,by omega⟩
 obtain⟨r,hr⟩:∃ r,endF (frm (ix op))=r:=⟨_,rfl⟩
 have HF:=Lib.hid (fun W=>ends_at op reg dst src off imm _ r W rfl hr)
 have hlp:=World.block_lt_of_cell? w _ hp
 have hlc:=World.block_lt_of_cell? w _ hc
 have hnb:=hn.2
 have e1:((n+1:Nat):Int)-1=(n:Int):=by omega
 have hv':(decide (i<n) || r)=v:=by rw [← hr,← hv];congr 1;simp
 obtain⟨u,hu⟩:∃ u,decide ((i:Int)<(n:Int))=u:=⟨_,rfl⟩
 have hu':decide (i<n)=u:=by rw [← hu];simp
 rw [hu'] at hv'
 have K0:=Lib.hid (heap_alloc_last w (.cells #[.int .i64 op,.bool reg,.int .i64 dst,.int .i64 src,.int .i64 off,.int .i64 imm] 45))
 clear hr hv hu' hn
 cases u
 ·simp only [Bool.false_or] at hv'
  subst hv'
  simp only [decide_eq_false_iff_not] at hu
  go_enter Tryz.func145,Tryz.ntmps145
  go_wp2_with (go_at_call 146;((with_reducible refine (HF.out _).mono ?_);rintro e w1 ⟨rfl,b1⟩))
  go_ret
  exact⟨rfl,bch (bnew _ _) b1⟩
 ·simp only [Bool.true_or] at hv'
  subst hv'
  simp only [decide_eq_true_eq] at hu
  go_enter Tryz.func145,Tryz.ntmps145
  go_wp2
  go_ret
  exact⟨rfl,bnew _ _⟩
structure CkA (w:World) (kc:Nat) (vm vc vr vl vt:Value) (l:List L9.Ins):Prop where
 row:w.heap[kc]?=some (.cells #[vm,vc,vr,vl,vt] 115)
 is:IsAt w vl l
 st:L10.InAt w vt (stZ l)
 ow:w.ownsRow (kc+1) 45 6 vl l.length (L5.insL (l.map L13.tI))
theorem CkA.below {w w':World} {kc:Nat} {vm vc vr vl vt:Value} {l:List L9.Ins} (h:CkA w kc vm vc vr vl vt l) (hb:Below w.heap.size w w'):CkA w' kc vm vc vr vl vt l:=⟨L8.row_up h.row hb,h.is.below hb,h.st.below hb,L8.own_below h.ow hb⟩
theorem stZ_len (l:List L9.Ins):(stZ l).length=l.length:=by rw [stZ,List.length_map,stL_len]
theorem stZ_get (l:List L9.Ins) (i:Nat) (h:i<(stZ l).length):(stZ l)[i]=(stN l i:Int):=by
 have hl:i<l.length:=by rwa [stZ_len] at h
 have e:=stL_get l 0 i hl
 rw [List.getElem?_eq_getElem (by rw [stL_len];exact hl),Option.some.injEq,Nat.zero_add] at e
 have k:(stZ l)[i]=(((stL 0 l)[i]'(by rw [stL_len];exact hl):Nat):Int):=by simp [stZ]
 rw [k,e]
theorem each_at (F kc:Nat) (vm vc vr vl vt:Value) (l:List L9.Ins) (p:Nat→Bool) (er S E:Int) (w:World) (hF:∀ args w,(callFunc F args).run Tryz.prog w=.ok (.enter F args) w)
  (hA:CkA w kc vm vc vr vl vt l) (hm:l.length≤100000)
  (hK:∀ i (h:i<l.length) W,Below w.heap.size w W→Calls Tryz.prog F #[.int .i64 (i:Int),.agg (xA l[i])] W fun e W'=>e=.returned (.bool (p i))∧Below W.heap.size W W') (hR:eaV l p er=(S,E)) :
  Calls Tryz.prog 135 #[.pointer (some ⟨kc,0,none⟩),.func (.func F) #[] #[],.int .i64 er] w fun e w'=>e=.returned (.tuple #[.int .i64 S,.int .i64 E])∧Below w.heap.size w w':=by
 obtain⟨n,hn⟩:∃ n,l.length=n:=⟨_,rfl⟩
 obtain⟨a,cap,rfl,hc⟩:=is_form hn hA.is
 obtain⟨ta,tc,rfl,ht⟩:=L10.in_form (n:=n) (by rw [stZ_len,hn]) hA.st
 rw [hn] at hm
 have HA:=Lib.hid hA
 have HC:=Lib.hid hc
 have HT:=Lib.hid ht
 have HN:=Lib.hid hn
 have HK:=Lib.hid hK
 have HR:=Lib.hid hR
 clear hc ht hn hK hR
 obtain⟨x0,x1,x2,x3,x4⟩:=cells5c hA.row
 clear hA x0 x1 x2
 go_enter Tryz.func135,Tryz.ntmps135
 go_wp2
 go_loopw [15] (fun i wr=>∃ j:Nat,j≤n∧i=.int .i64 (j:Int)∧Hid (Below w.heap.size w wr∧∀ q,q<j→p q=true)) (fun i _=>n-(intOf i).toNat)
 case atStart=>exact⟨0,Nat.zero_le _,rfl,Lib.hid ⟨Below.refl _ _,fun q hq=>absurd hq (Nat.not_lt_zero _)⟩⟩
 case round =>
  clear x3 x4
  obtain⟨j,hj,rfl,hI⟩:=hrel
  by_cases hlt:j<n
  ·have hjl:j<l.length:=by rw [HN.out];exact hlt
   obtain⟨b,o,rfl,hbl,hc⟩:=HC.out (by omega)
   obtain⟨tb,tof,rfl,htl,ht⟩:=HT.out (by omega)
   obtain⟨y0,y1,y2,y3,y4,y5⟩:=(hc j hjl).below hbl hI.out.1
   have HTC:=Lib.hid (fun (W:World) (hW:Below wr.heap.size wr W)=>(((bch hI.out.1 hW).cell (p:=⟨tb,tof+j,none⟩) (by exact htl)).trans (ht j (by rw [stZ_len];exact hjl))).trans (by rw [stZ_get]))
   have HX:=Lib.hid (fun (W:World) (hW:Below wr.heap.size wr W)=>cells5c (HA.out.below (bch hI.out.1 hW)).row)
   have HK2:=Lib.hid (fun (W:World) (hW:Below wr.heap.size wr W)=>HK.out j hjl W (bch hI.out.1 hW))
   obtain⟨x,hx⟩:∃ x,l[j]=x:=⟨_,rfl⟩
   rw [hx] at y0 y1 y2 y3 y4 y5 HK2
   obtain⟨v,hv⟩:∃ v,p j=v:=⟨_,rfl⟩
   rw [hv] at HK2
   have HV:=Lib.hid hv
   have hlt':(j:Int)<(n:Int):=by omega
   clear hc ht hx hv
   cases v
   ·have HE:=Lib.hid (show (S,E)=((stN l j:Int),er) by rw [← HR.out];exact eaV_some hjl hI.out.2 HV.out)
    go_wp2_with (go_at_fn F;((with_reducible refine (HK2.out _ (bnew wr _)).mono ?_);rintro e w1 ⟨rfl,b1⟩;have b2:=bch (bnew wr _) b1;obtain⟨-,-,-,-,z4⟩:=HX.out _ b2;have z5:=HTC.out _ b2))
    go_ret2
    cases HE.out
    exact⟨rfl,bch hI.out.1 b2⟩
   ·go_wp2_with (go_at_fn F;((with_reducible refine (HK2.out _ (bnew wr _)).mono ?_);rintro e w1 ⟨rfl,b1⟩;have b2:=bch (bnew wr _) b1))
    go_roundw
    case rel =>
     refine⟨j+1,by omega,by go_num,Lib.hid ⟨bch hI.out.1 b2,fun q hq=>?_⟩⟩
     by_cases h:q<j
     ·exact hI.out.2 q h
     ·obtain rfl:q=j:=by omega
      exact HV.out
    case measure=>simp [intOf];omega
  ·obtain rfl:j=n:=by omega
   have HE:=Lib.hid (show (S,E)=(0,0) by rw [← HR.out];exact eaV_none (fun q hq=>hI.out.2 q (by rw [HN.out] at hq;exact hq)))
   go_wp2
   go_ret2
   cases HE.out
   exact⟨rfl,hI.out.1⟩
theorem eachp_at (F kp kc:Nat) (vm vc vr vl vt:Value) (l:List L9.Ins) (p:Nat→Bool) (er S E:Int) (w:World) (hF:∀ args w,(callFunc F args).run Tryz.prog w=.ok (.enter F args) w)
  (hA:CkA w kc vm vc vr vl vt l) (hm:l.length≤100000)
  (hK:∀ i (h:i<l.length) W,Below w.heap.size w W→Calls Tryz.prog F #[.int .i64 (i:Int),.agg (xA l[i]),.pointer (some ⟨kp,0,none⟩)] W fun e W'=>e=.returned (.bool (p i))∧Below W.heap.size W W') (hR:eaV l p er=(S,E)) :
  Calls Tryz.prog 135 #[.pointer (some ⟨kc,0,none⟩),.func (.func F) #[] #[.pointer (some ⟨kp,0,none⟩)],.int .i64 er] w fun e w'=>e=.returned (.tuple #[.int .i64 S,.int .i64 E])∧Below w.heap.size w w':=by
 obtain⟨n,hn⟩:∃ n,l.length=n:=⟨_,rfl⟩
 obtain⟨a,cap,rfl,hc⟩:=is_form hn hA.is
 obtain⟨ta,tc,rfl,ht⟩:=L10.in_form (n:=n) (by rw [stZ_len,hn]) hA.st
 rw [hn] at hm
 have HA:=Lib.hid hA
 have HC:=Lib.hid hc
 have HT:=Lib.hid ht
 have HN:=Lib.hid hn
 have HK:=Lib.hid hK
 have HR:=Lib.hid hR
 clear hc ht hn hK hR
 obtain⟨x0,x1,x2,x3,x4⟩:=cells5c hA.row
 clear hA x0 x1 x2
 go_enter Tryz.func135,Tryz.ntmps135
 go_wp2
 go_loopw [15] (fun i wr=>∃ j:Nat,j≤n∧i=.int .i64 (j:Int)∧Hid (Below w.heap.size w wr∧∀ q,q<j→p q=true)) (fun i _=>n-(intOf i).toNat)
 case atStart=>exact⟨0,Nat.zero_le _,rfl,Lib.hid ⟨Below.refl _ _,fun q hq=>absurd hq (Nat.not_lt_zero _)⟩⟩
 case round =>
  clear x3 x4
  obtain⟨j,hj,rfl,hI⟩:=hrel
  by_cases hlt:j<n
  ·have hjl:j<l.length:=by rw [HN.out];exact hlt
   obtain⟨b,o,rfl,hbl,hc⟩:=HC.out (by omega)
   obtain⟨tb,tof,rfl,htl,ht⟩:=HT.out (by omega)
   obtain⟨y0,y1,y2,y3,y4,y5⟩:=(hc j hjl).below hbl hI.out.1
   have HTC:=Lib.hid (fun (W:World) (hW:Below wr.heap.size wr W)=>(((bch hI.out.1 hW).cell (p:=⟨tb,tof+j,none⟩) (by exact htl)).trans (ht j (by rw [stZ_len];exact hjl))).trans (by rw [stZ_get]))
   have HX:=Lib.hid (fun (W:World) (hW:Below wr.heap.size wr W)=>cells5c (HA.out.below (bch hI.out.1 hW)).row)
   have HK2:=Lib.hid (fun (W:World) (hW:Below wr.heap.size wr W)=>HK.out j hjl W (bch hI.out.1 hW))
   obtain⟨x,hx⟩:∃ x,l[j]=x:=⟨_,rfl⟩
   rw [hx] at y0 y1 y2 y3 y4 y5 HK2
   obtain⟨v,hv⟩:∃ v,p j=v:=⟨_,rfl⟩
   rw [hv] at HK2
   have HV:=Lib.hid hv
   have hlt':(j:Int)<(n:Int):=by omega
   clear hc ht hx hv
   cases v
   ·have HE:=Lib.hid (show (S,E)=((stN l j:Int),er) by rw [← HR.out];exact eaV_some hjl hI.out.2 HV.out)
    go_wp2_with (go_at_fn F;((with_reducible refine (HK2.out _ (bnew wr _)).mono ?_);rintro e w1 ⟨rfl,b1⟩;have b2:=bch (bnew wr _) b1;obtain⟨-,-,-,-,z4⟩:=HX.out _ b2;have z5:=HTC.out _ b2))
    go_ret2
    cases HE.out
    exact⟨rfl,bch hI.out.1 b2⟩
   ·go_wp2_with (go_at_fn F;((with_reducible refine (HK2.out _ (bnew wr _)).mono ?_);rintro e w1 ⟨rfl,b1⟩;have b2:=bch (bnew wr _) b1))
    go_roundw
    case rel =>
     refine⟨j+1,by omega,by go_num,Lib.hid ⟨bch hI.out.1 b2,fun q hq=>?_⟩⟩
     by_cases h:q<j
     ·exact hI.out.2 q h
     ·obtain rfl:q=j:=by omega
      exact HV.out
    case measure=>simp [intOf];omega
  ·obtain rfl:j=n:=by omega
   have HE:=Lib.hid (show (S,E)=(0,0) by rw [← HR.out];exact eaV_none (fun q hq=>hI.out.2 q (by rw [HN.out] at hq;exact hq)))
   go_wp2
   go_ret2
   cases HE.out
   exact⟨rfl,hI.out.1⟩
end Go.Proofs.YtdgnjhhieemcaaaGreatDoor.L17
end
