/- The image of an object and the object of an image, plain: what is written into instructions that refer to maps, and what is read out of them. It speaks of no memory and has no condition. -/
import Derived.Test.YtdgnjhhieemcaaaGreatDoorM27
namespace Go.Proofs.YtdgnjhhieemcaaaGreatDoor.L18
set_option maxRecDepth 100000
open L3 L4 L12 L17
open L13 (Ob)
open L16 (chE)
def syL (r:List (Int × Int)) (s z:Int):Int:=r.foldl (fun a x=>if x.1=s then x.2 else a) z
theorem syL_snoc (r:List (Int × Int)) (x:Int × Int) (s z:Int):syL (r++[x]) s z=if x.1=s then x.2 else syL r s z:=by simp [syL,List.foldl_append]
theorem syL_cons (x:Int × Int) (r:List (Int × Int)) (s z:Int):syL (x::r) s z=syL r s (if x.1=s then x.2 else z):=rfl
theorem syL_no:∀ (r:List (Int × Int)) (s z:Int),hasR r s=false→syL r s z=z
 | [],_,_,_=>rfl
 | x::r,s,z,h=>by
  unfold hasR at h
  rw [List.any_cons,Bool.or_eq_false_iff,beq_eq_false_iff_ne] at h
  rw [syL_cons,if_neg h.1]
  exact syL_no r s z h.2
def wI (x:L9.Ins) (v:Int):L9.Ins:=⟨x.op,x.reg,x.dst,x.src,x.off,v⟩
theorem wI_rf (x:L9.Ins) (v:Int):isRf (wI x v)=isRf x:=rfl
theorem wI_self (x:L9.Ins):wI x x.imm=x:=rfl
theorem wI_wI (x:L9.Ins) (u v:Int):wI (wI x u) v=wI x v:=rfl
def wrT (l:List L9.Ins) (g:Nat→Int) (k:Nat):List L9.Ins:=l.mapIdx fun i x=>if i<k∧isRf x=true then wI x (g i) else x
theorem wrT_len (l:List L9.Ins) (g:Nat→Int) (k:Nat):(wrT l g k).length=l.length:=by simp [wrT]
theorem wrT_get (l:List L9.Ins) (g:Nat→Int) (k i:Nat) (h:i<(wrT l g k).length):(wrT l g k)[i]=if i<k∧isRf (l[i]'(by rwa [wrT_len] at h))=true then wI (l[i]'(by rwa [wrT_len] at h)) (g i) else l[i]'(by rwa [wrT_len] at h):=by simp [wrT]
theorem wrT_zero (l:List L9.Ins) (g:Nat→Int):wrT l g 0=l:=by
 apply List.ext_getElem (wrT_len _ _ _)
 intro i h1 h2
 rw [wrT_get,if_neg (fun h=>absurd h.1 (Nat.not_lt_zero _))]
theorem wrT_rf {l:List L9.Ins} {g:Nat→Int} {k:Nat} (hk:k<l.length) (h:isRf l[k]=true):wrT l g (k+1)=(wrT l g k).set k (wI (atI (wrT l g k) k) (g k)):=by
 have hkl:k<(wrT l g k).length:=by rw [wrT_len];exact hk
 have e:atI (wrT l g k) k=l[k]:=by rw [atI_is hkl,wrT_get,if_neg (fun q=>absurd q.1 (Nat.lt_irrefl _))]
 rw [e]
 apply List.ext_getElem (by rw [List.length_set,wrT_len,wrT_len])
 intro i h1 h2
 rw [List.getElem_set,wrT_get,wrT_get]
 by_cases e:k=i
 ·subst e
  rw [if_pos rfl,if_pos ⟨Nat.lt_succ_self _,h⟩]
 ·rw [if_neg e]
  by_cases h3:i<k
  ·simp only [h3,show i<k+1 by omega,true_and]
  ·simp only [h3,show ¬ i<k+1 by omega,false_and]
theorem wrT_no {l:List L9.Ins} {g:Nat→Int} {k:Nat} (hk:k<l.length) (h:isRf l[k]=false):wrT l g (k+1)=wrT l g k:=by
 apply List.ext_getElem (by rw [wrT_len,wrT_len])
 intro i h1 h2
 rw [wrT_get,wrT_get]
 by_cases e:k=i
 ·subst e
  rw [h];simp
 ·by_cases h3:i<k
  ·simp only [h3,show i<k+1 by omega,true_and]
  ·simp only [h3,show ¬ i<k+1 by omega,false_and]
theorem wrT_ops (l:List L9.Ins) (g:Nat→Int) (k:Nat):(wrT l g k).map (·.op)=l.map (·.op):=by
 apply List.ext_getElem (by rw [List.length_map,List.length_map,wrT_len])
 intro i h1 h2
 rw [List.getElem_map,List.getElem_map,wrT_get]
 split <;> rfl
theorem st_op {l m:List L9.Ins} (h:l.map (·.op)=m.map (·.op)) (i:Nat):stN l i=stN m i:=by
 unfold stN
 refine L16.sm_op _ _ ?_
 rw [List.map_take,List.map_take,h]
theorem atI_wrT {l:List L9.Ins} {g:Nat→Int} {k i:Nat} (h:i<l.length):atI (wrT l g k) i=if i<k∧isRf (atI l i)=true then wI (atI l i) (g i) else atI l i:=by
 rw [atI_is (by rw [wrT_len];exact h),wrT_get,atI_is h]
def rfF (l:List L9.Ins) (k:Nat):List (Fin l.length):=((List.finRange l.length).take k).filter fun i=>isRf l[i.1]
theorem fin_step (n k:Nat) (h:k<n):(List.finRange n).take (k+1)=(List.finRange n).take k++[⟨k,h⟩]:=by
 rw [List.take_add_one,List.getElem?_eq_getElem (by simpa using h),List.getElem_finRange]
 rfl
theorem rfF_rf {l:List L9.Ins} {k:Nat} (hk:k<l.length) (h:isRf l[k]=true):rfF l (k+1)=rfF l k++[⟨k,hk⟩]:=by
 unfold rfF
 rw [fin_step _ _ hk,List.filter_append]
 simp [h]
theorem rfF_no {l:List L9.Ins} {k:Nat} (hk:k<l.length) (h:isRf l[k]=false):rfF l (k+1)=rfF l k:=by
 unfold rfF
 rw [fin_step _ _ hk,List.filter_append]
 simp [h]
theorem rfF_len (l:List L9.Ins) (k:Nat):(rfF l k).length≤(rfF l l.length).length:=by
 unfold rfF
 rw [List.take_of_length_le (l:=List.finRange l.length) (i:=l.length) (by simp)]
 exact (List.Sublist.filter _ (List.take_sublist _ _)).length_le
theorem rfF_pre (l:List L9.Ins) (k:Nat):rfF l k <+: rfF l l.length:=by
 unfold rfF
 rw [List.take_of_length_le (l:=List.finRange l.length) (i:=l.length) (by simp)]
 exact (List.take_prefix _ _).filter _
def wS (l:List L9.Ins) (g:Nat→Int) (pre:List (Fin l.length)):List L9.Ins:=pre.foldl (fun m i=>m.set i.1 (wI (atI m i.1) (g i.1))) l
def rS (l:List L9.Ins) (g:Nat→Int):List L9.Ins→List (Fin l.length)→List (Int × Int)
 | _,[]=>[]
 | m,i::r=>((stN l i.1:Int),(atI m i.1).imm)::rS l g (m.set i.1 (wI (atI m i.1) (g i.1))) r
theorem wS_snoc (l:List L9.Ins) (g:Nat→Int) (pre:List (Fin l.length)) (i:Fin l.length):wS l g (pre++[i])=(wS l g pre).set i.1 (wI (atI (wS l g pre) i.1) (g i.1)):=by simp [wS,List.foldl_append]
theorem rS_snoc (l:List L9.Ins) (g:Nat→Int) (i:Fin l.length):∀ (pre:List (Fin l.length)) (m:List L9.Ins),rS l g m (pre++[i])=rS l g m pre++[((stN l i.1:Int),(atI (pre.foldl (fun m i=>m.set i.1 (wI (atI m i.1) (g i.1))) m) i.1).imm)]
 | [],_=>rfl
 | x::r,m=>by
  rw [List.cons_append,rS,rS_snoc l g i r]
  rfl
theorem wS_len (l:List L9.Ins) (g:Nat→Int) (pre:List (Fin l.length)):(wS l g pre).length=l.length:=by
 unfold wS
 suffices ∀ (pre:List (Fin l.length)) (m:List L9.Ins),(pre.foldl (fun m i=>m.set i.1 (wI (atI m i.1) (g i.1))) m).length=m.length from this pre l
 intro pre
 induction pre with
 | nil=>intro m;rfl
 | cons x r ih=>intro m;rw [List.foldl_cons,ih,List.length_set]
theorem wS_is (l:List L9.Ins) (g:Nat→Int):∀ k,k≤l.length→wS l g (rfF l k)=wrT l g k
 | 0,_=>by rw [wrT_zero];rfl
 | k+1,h=>by
  have ih:=wS_is l g k (by omega)
  cases hr:isRf l[k] with
  | true=>rw [rfF_rf h hr,wS_snoc,ih,wrT_rf h hr]
  | false=>rw [rfF_no h hr,ih,wrT_no h hr]
def urT (l:List L9.Ins) (k:Nat):List (Int × Int):=(rfF l k).map fun i=>((stN l i.1:Int),l[i.1].imm)
theorem rS_is (l:List L9.Ins) (g:Nat→Int):∀ k,k≤l.length→rS l g l (rfF l k)=urT l k
 | 0,_=>rfl
 | k+1,h=>by
  have ih:=rS_is l g k (by omega)
  cases hr:isRf l[k] with
  | true =>
   unfold urT at ih ⊢
   rw [rfF_rf h hr,rS_snoc,ih,List.map_append]
   have e:(rfF l k).foldl (fun m i=>m.set i.1 (wI (atI m i.1) (g i.1))) l=wrT l g k:=wS_is l g k (by omega)
   rw [e,atI_wrT h,if_neg (fun q=>absurd q.1 (Nat.lt_irrefl _)),atI_is h]
   rfl
  | false =>
   unfold urT at ih ⊢
   rw [rfF_no h hr,ih]
def imL (l:List L9.Ins) (r:List (Int × Int)):List L9.Ins:=wrT l (fun i=>syL r (stN l i:Int) 0) l.length
def ldL (o:Ob):List L9.Ins:=imL (inL o.code) o.rels
def zrL (l:List L9.Ins):List L9.Ins:=wrT l (fun _=>0) l.length
open Classical in
noncomputable def unC (l:List L9.Ins):List UInt8:=if ∀ x∈(zrL l).map L13.tI,x.err=0 then L5.joinB ((zrL l).map L13.tI) else []
noncomputable def unO (ms:List L9.Df) (l:List L9.Ins):Ob:=⟨ms,unC l,urT l l.length⟩
theorem imL_len (l:List L9.Ins) (r:List (Int × Int)):(imL l r).length=l.length:=wrT_len _ _ _
theorem imL_at {l:List L9.Ins} {r:List (Int × Int)} {i:Nat} (h:i<l.length):atI (imL l r) i=if isRf (atI l i)=true then wI (atI l i) (syL r (stN l i:Int) 0) else atI l i:=by
 unfold imL
 rw [atI_wrT h]
 simp only [h,true_and]
theorem zrL_at {l:List L9.Ins} {i:Nat} (h:i<l.length):atI (zrL l) i=if isRf (atI l i)=true then wI (atI l i) 0 else atI l i:=by
 unfold zrL
 rw [atI_wrT h]
 simp only [h,true_and]
theorem atI_ext {l m:List L9.Ins} (hl:l.length=m.length) (h:∀ i,i<l.length→atI l i=atI m i):l=m:=by
 apply List.ext_getElem hl
 intro i h1 h2
 rw [← atI_is h1,← atI_is h2]
 exact h i h1
structure Vd (o:Ob):Prop where
 ch:chE o=0
 la:(L5.la (rdC o.code)).e=0
 im:∀ i,i<(inL o.code).length→isRf (atI (inL o.code) i)=true→(atI (inL o.code) i).imm=0
 rl:∀ s:Nat,s<o.code.length / 8→rfB (inL o.code) (s:Int)=hasR o.rels (s:Int)
theorem fr_z {x:Int × Int} {r:List (Int × Int)} (h:(fr (x::r)).2=0):x.2=0∧(fr r).2=0:=by
 by_cases e:x.2=0
 ·rw [fr,if_neg (by simpa using e)] at h
  exact⟨e,h⟩
 ·rw [fr,if_pos e] at h
  exact absurd h e
theorem vd_of {o:Ob} (h:(vE o).2=0):Vd o:=by
 unfold vE vL at h
 obtain⟨h1,h⟩:=fr_z h
 obtain⟨h2,h⟩:=fr_z h
 obtain⟨h3,h⟩:=fr_z h
 obtain⟨h4,-⟩:=fr_z h
 refine⟨h1,insE_z.1 h2,fun i hi hr=>?_,fun s hs=>?_⟩
 ·rcases eaF_cases (inL o.code).length (pF (inL o.code)) with ⟨-,k⟩|⟨j,e,-⟩
  ·have:=k i hi
   unfold pF at this
   rw [hr] at this
   simpa using this
  ·unfold eaV at h3
   rw [e] at h3
   cases h3
 ·rcases eaF_cases (o.code.length / 8) (fun s=>rfB (inL o.code) s==hasR o.rels s) with ⟨-,k⟩|⟨j,e,-⟩
  ·have:=k s hs
   simpa using this
  ·unfold rlV at h4
   rw [e] at h4
   cases h4
theorem Vd.sm {o:Ob} (h:Vd o):smN (inL o.code)=o.code.length / 8:=by have:=inL_len h.la;omega
theorem Vd.at' {o:Ob} (h:Vd o) {i:Nat} (hi:i<(inL o.code).length):hasR o.rels (stN (inL o.code) i:Int)=isRf (atI (inL o.code) i):=by
 have hsl:=inL_sl h.la
 have hm:=stN_mono hsl hi (Nat.le_refl _)
 rw [stN_all,h.sm] at hm
 rw [← h.rl _ hm]
 unfold rfB
 rw [atN_at hsl hi]
 simp
theorem rlF_lt:∀ (r:List (Int × Int)) (la:Int) (s m:Nat),L16.rlF la s m r=true→(∀ x∈r,la<x.1)∧r.Pairwise (fun x y=>x.1<y.1)∧∀ x∈r,x.1<(s:Int)∧0≤x.2∧x.2<(m:Int)
 | [],_,_,_,_=>by simp
 | x::r,la,s,m,h=>by
  rw [L16.rlF] at h
  simp only [Bool.and_eq_true,decide_eq_true_eq] at h
  obtain⟨⟨⟨⟨h1,h2⟩,h3⟩,h4⟩,h5⟩:=h
  obtain⟨i1,i2,i3⟩:=rlF_lt r x.1 s m h5
  refine⟨fun y hy=>?_,List.pairwise_cons.2 ⟨i1,i2⟩,fun y hy=>?_⟩
  ·rcases List.mem_cons.1 hy with rfl|hy
   ·exact h1
   ·have:=i1 y hy;omega
  ·rcases List.mem_cons.1 hy with rfl|hy
   ·exact⟨h2,h3,h4⟩
   ·exact i3 y hy
theorem syL_mem:∀ (r:List (Int × Int)) (z:Int),r.Pairwise (fun x y=>x.1<y.1)→∀ p∈r,syL r p.1 z=p.2
 | [],_,_,p,h=>by cases h
 | x::r,z,hp,p,h=>by
  rw [List.pairwise_cons] at hp
  rw [syL_cons]
  rcases List.mem_cons.1 h with rfl|h
  ·rw [if_pos rfl]
   refine syL_no _ _ _ ?_
   unfold hasR
   rw [List.any_eq_false]
   intro y hy
   have:=hp.1 y hy
   simp only [beq_iff_eq];omega
  ·exact syL_mem r _ hp.2 p h
theorem sorted_eq:∀ (a b:List Int),a.Pairwise (·< ·)→b.Pairwise (·< ·)→(∀ x,x∈a↔x∈b)→a=b
 | [],[],_,_,_=>rfl
 | [],y::b,_,_,h=>absurd ((h y).2 (List.mem_cons_self ..)) (by simp)
 | x::a,[],_,_,h=>absurd ((h x).1 (List.mem_cons_self ..)) (by simp)
 | x::a,y::b,ha,hb,h=>by
  rw [List.pairwise_cons] at ha hb
  have e:x=y:=by
   rcases List.mem_cons.1 ((h x).1 (List.mem_cons_self ..)) with e|e
   ·exact e
   ·rcases List.mem_cons.1 ((h y).2 (List.mem_cons_self ..)) with k|k
    ·exact k.symm
    ·have:=ha.1 y k
     have:=hb.1 x e
     omega
  subst e
  congr 1
  refine sorted_eq a b ha.2 hb.2 fun z=>?_
  constructor
  ·intro hz
   rcases List.mem_cons.1 ((h z).1 (List.mem_cons_of_mem _ hz)) with rfl|k
   ·have:=ha.1 z hz;omega
   ·exact k
  ·intro hz
   rcases List.mem_cons.1 ((h z).2 (List.mem_cons_of_mem _ hz)) with rfl|k
   ·have:=hb.1 z hz;omega
   ·exact k
theorem mem_rfF (l:List L9.Ins) (i:Fin l.length):i∈rfF l l.length↔isRf l[i.1]=true:=by
 unfold rfF
 rw [List.take_of_length_le (l:=List.finRange l.length) (i:=l.length) (by simp)]
 simp
theorem fin_pw (n:Nat):(List.finRange n).Pairwise (fun i j=>i.1<j.1):=by
 rw [List.pairwise_iff_getElem]
 intro i j hi hj hij
 simpa using hij
theorem rf_sorted {l:List L9.Ins} (hd:∀ x∈l,1≤slN x):((rfF l l.length).map fun i=>(stN l i.1:Int)).Pairwise (·< ·):=by
 rw [List.pairwise_map]
 unfold rfF
 refine List.Pairwise.filter _ (List.Pairwise.sublist (List.take_sublist _ _) ((fin_pw _).imp fun {i j} h=>?_))
 have:=stN_mono hd h (Nat.le_of_lt j.2)
 omega
theorem ur_im {o:Ob} (h:Vd o):urT (ldL o) (ldL o).length=o.rels:=by
 have hsl:=inL_sl h.la
 have hg:=L16.gd_of h.ch
 obtain⟨k1,k2,k3⟩:=rlF_lt _ _ _ _ hg.rl
 have e1:(rfF (ldL o) (ldL o).length).map (fun i=>(stN (ldL o) i.1:Int))=o.rels.map (·.1):=by
  have hops:(ldL o).map (·.op)=(inL o.code).map (·.op):=wrT_ops _ _ _
  have hln:(ldL o).length=(inL o.code).length:=imL_len _ _
  refine sorted_eq _ _ (rf_sorted fun x hx=>?_) (by rw [List.pairwise_map];exact k2) fun s=>?_
  ·obtain⟨i,hi,rfl⟩:=List.mem_iff_getElem.1 hx
   have e:=imL_at (l:=inL o.code) (r:=o.rels) (i:=i) (by rwa [hln] at hi)
   have e2:slN (ldL o)[i]=slN (atI (inL o.code) i):=by
    rw [← atI_is hi]
    show slN (atI (imL (inL o.code) o.rels) i)=_
    rw [e]
    split <;> rfl
   rw [e2,atI_is (by rwa [hln] at hi)]
   exact hsl _ (List.getElem_mem _)
  ·constructor
   ·intro hs
    obtain⟨i,hi,rfl⟩:=List.mem_map.1 hs
    rw [mem_rfF] at hi
    have hi2:i.1<(inL o.code).length:=by rw [← hln];exact i.2
    have e3:isRf (atI (inL o.code) i.1)=true:=by
     rw [← atI_is i.2] at hi
     have e:=imL_at (l:=inL o.code) (r:=o.rels) hi2
     have e':atI (ldL o) i.1=atI (imL (inL o.code) o.rels) i.1:=rfl
     rw [e',e] at hi
     split at hi
     ·assumption
     ·exact hi
    have:=h.at' hi2
    rw [e3] at this
    unfold hasR at this
    rw [List.any_eq_true] at this
    obtain⟨p,hp,e4⟩:=this
    rw [st_op hops]
    exact List.mem_map.2 ⟨p,hp,by simpa using e4⟩
   ·intro hs
    obtain⟨p,hp,rfl⟩:=List.mem_map.1 hs
    obtain⟨n,hn⟩:=Int.eq_ofNat_of_zero_le (show 0≤p.1 by have:=k1 p hp;omega)
    have hb:=(k3 p hp).1
    rw [hn] at hb
    have hrl:=h.rl n (by omega)
    have hhas:hasR o.rels (n:Int)=true:=by
     unfold hasR
     rw [List.any_eq_true]
     exact⟨p,hp,by rw [hn];simp⟩
    rw [hhas,rfB_is hsl,List.any_eq_true] at hrl
    obtain⟨i,hi,e⟩:=hrl
    have hi:=List.mem_range.1 hi
    simp only [Bool.and_eq_true,beq_iff_eq] at e
    have hi2:i<(ldL o).length:=by rw [hln];exact hi
    refine List.mem_map.2 ⟨⟨i,hi2⟩,?_,?_⟩
    ·rw [mem_rfF]
     show isRf (ldL o)[i]=true
     rw [← atI_is hi2]
     show isRf (atI (imL (inL o.code) o.rels) i)=true
     rw [imL_at hi,if_pos e.1,wI_rf]
     exact e.1
    ·show (stN (ldL o) i:Int)=p.1
     rw [st_op hops,e.2,hn]
 have e2:urT (ldL o) (ldL o).length=((rfF (ldL o) (ldL o).length).map (fun i=>(stN (ldL o) i.1:Int))).map fun s=>(s,syL o.rels s 0):=by
  unfold urT
  rw [List.map_map]
  refine List.map_congr_left fun i hi=>?_
  rw [mem_rfF] at hi
  have hi2:i.1<(inL o.code).length:=by rw [← imL_len (inL o.code) o.rels];exact i.2
  have hops:(ldL o).map (·.op)=(inL o.code).map (·.op):=wrT_ops _ _ _
  simp only [Function.comp_apply,Prod.mk.injEq,true_and]
  rw [← atI_is i.2] at hi ⊢
  have e':atI (ldL o) i.1=if isRf (atI (inL o.code) i.1)=true then wI (atI (inL o.code) i.1) (syL o.rels (stN (inL o.code) i.1:Int) 0) else atI (inL o.code) i.1:=imL_at hi2
  rw [st_op hops]
  rw [e'] at hi ⊢
  by_cases hr:isRf (atI (inL o.code) i.1)=true
  ·rw [if_pos hr];rfl
  ·rw [if_neg hr] at hi;exact absurd hi hr
 rw [e2,e1,List.map_map]
 refine (List.map_congr_left fun p hp=>?_).trans (List.map_id _)
 show (p.1,syL o.rels p.1 0)=p
 rw [syL_mem _ _ k2 p hp]
theorem zr_im {o:Ob} (h:Vd o):zrL (ldL o)=inL o.code:=by
 have hln:(ldL o).length=(inL o.code).length:=imL_len _ _
 refine atI_ext (by rw [← hln];exact wrT_len _ _ _) fun i hi=>?_
 have hi':i<(ldL o).length:=by unfold zrL at hi;rwa [wrT_len] at hi
 have hi2:i<(inL o.code).length:=by rwa [hln] at hi'
 have e':atI (ldL o) i=if isRf (atI (inL o.code) i)=true then wI (atI (inL o.code) i) (syL o.rels (stN (inL o.code) i:Int) 0) else atI (inL o.code) i:=imL_at hi2
 rw [zrL_at hi',e']
 by_cases hr:isRf (atI (inL o.code) i)=true
 ·rw [if_pos hr,wI_rf,if_pos hr,wI_wI]
  have:=h.im i hi2 hr
  conv=>rhs;rw [← wI_self (atI (inL o.code) i),this]
 ·rw [if_neg hr,if_neg hr]
theorem un_im {o:Ob} (h:Vd o):unO o.maps (ldL o)=o:=by
 have hg:=rdC_good h.la
 have hc:unC (ldL o)=o.code:=by
  unfold unC
  rw [zr_im h,if_pos,hg.1]
  intro x hx
  obtain⟨y,hy,rfl⟩:=List.mem_map.1 hx
  exact (hg.2 y hy).1
 unfold unO
 rw [hc,ur_im h]
end Go.Proofs.YtdgnjhhieemcaaaGreatDoor.L18
