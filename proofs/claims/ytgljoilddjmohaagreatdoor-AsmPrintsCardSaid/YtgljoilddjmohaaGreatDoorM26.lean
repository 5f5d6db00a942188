/- Lemmas and walks of L11Ig, L13Pad, L13Rp2: what each theorem states; conditions stand in each theorem. -/
import Derived.Test.YtgljoilddjmohaaGreatDoorM24
import Derived.Test.YtgljoilddjmohaaGreatDoorM17
import Derived.Lib.Bytealg
import Derived.KernelRfl
import Derived.Test.YtgljoilddjmohaaGreatDoorM25
import Derived.Lib.ReplaceLaws
section
namespace Go.Proofs.YtgljoilddjmohaaGreatDoor.L11
open L10 (Stm Pg Rd foldL rdL foldI itL It)
def rpF (N:List UInt8):List UInt8→List UInt8
 | []=>[]
 | c::r=>if c=10 then N++rpF N r else c::rpF N r
structure Sim (s t:Rd):Prop where
 maps:s.maps=t.maps
 stmts:s.stmts=t.stmts
 labs:s.labs=t.labs
theorem sim_foldI:∀ (l:List It) (s t:Rd),Sim s t→(foldI s l).2=(foldI t l).2∧Sim (foldI s l).1 (foldI t l).1
 | [],s,t,h=>⟨rfl,h⟩
 | .lb x::r,s,t,h=>by
  rw [foldI,foldI]
  exact sim_foldI r _ _ ⟨h.maps,h.stmts,by show s.labs++[x]=t.labs++[x];rw [h.labs]⟩
 | .mp d::r,s,t,h=>by
  rw [foldI,foldI]
  by_cases hc:s.labs≠[]∨s.stmts≠[]
  ·rw [if_pos hc,if_pos (by rw [← h.labs,← h.stmts];exact hc)]
   exact⟨rfl,h⟩
  ·rw [if_neg hc,if_neg (by rw [← h.labs,← h.stmts];exact hc)]
   exact sim_foldI r _ _ ⟨by show s.maps++[d]=t.maps++[d];rw [h.maps],h.stmts,h.labs⟩
 | .cd x tg mp::r,s,t,h=>by
  rw [foldI,foldI]
  exact sim_foldI r _ _ ⟨h.maps,by show s.stmts++[⟨s.labs,x,tg,mp⟩]=t.stmts++[⟨t.labs,x,tg,mp⟩];rw [h.stmts,h.labs],rfl⟩
theorem sim_rdL {a b:ByteArray} (hi:itL b=itL a) {s t:Rd} (h:Sim s t):(rdL s a).2=(rdL t b).2∧Sim (rdL s a).1 (rdL t b).1:=by
 unfold L10.rdL
 rw [hi]
 split
 ·exact⟨rfl,h.maps,h.stmts,h.labs⟩
 ·exact sim_foldI _ _ _ ⟨h.maps,h.stmts,h.labs⟩
theorem sim_paF {q r:Rd × Int} (h1:q.2=r.2) (h2:Sim q.1 r.1):(L10.paF q).1=(L10.paF r).1∧(L10.paF q).2.2.2=(L10.paF r).2.2.2:=by
 obtain⟨s,e⟩:=q
 obtain⟨t,f⟩:=r
 obtain⟨m1,m2,m3⟩:=h2
 dsimp only at h1 m1 m2 m3
 subst h1
 unfold L10.paF
 dsimp only
 rw [m1,m2,m3]
 split
 ·exact⟨rfl,rfl⟩
 split
 ·exact⟨rfl,rfl⟩
 split
 ·exact⟨rfl,rfl⟩
 ·exact⟨rfl,rfl⟩
theorem rp_len (N:List UInt8):∀ l:List UInt8,(rpF N l).length+Lib.countByte l 10=l.length+Lib.countByte l 10*N.length
 | []=>by simp [rpF,Lib.countByte]
 | c::r=>by
  have ih:=rp_len N r
  unfold Lib.countByte at ih ⊢
  rw [rpF]
  by_cases h:c=10
  ·subst h
   rw [if_pos rfl,List.count_cons_self,List.length_append,List.length_cons,Nat.add_mul]
   omega
  ·rw [if_neg h,List.count_cons_of_ne (by simpa using h),List.length_cons,List.length_cons]
   omega
end Go.Proofs.YtgljoilddjmohaaGreatDoor.L11
end
section
namespace Go.Proofs.YtgljoilddjmohaaGreatDoor.L13
open L8 (wb cmt spc pun tx)
open L10 (Stm Pg Rd foldL rdL itL)
open L11 (liT lnT pgT lfB Sim)
def cmF:List UInt8→List UInt8
 | []=>[]
 | [c]=>[c]
 | c::d::r=>if c=44∧d=32 then 9::32::44::cmF r else c::cmF (d::r)
theorem cmF_pair (r:List UInt8):cmF (44::32::r)=9::32::44::cmF r:=by rw [cmF,if_pos ⟨rfl,rfl⟩]
theorem cmF_ne {c:UInt8} (h:c≠44) (r:List UInt8):cmF (c::r)=c::cmF r:=by
 cases r with
 | nil=>rfl
 | cons d r=>rw [cmF,if_neg (fun k=>h k.1)]
theorem cmF_no {c:UInt8} (r:List UInt8) (h:∀ s,r≠32::s):cmF (c::r)=c::cmF r:=by
 cases r with
 | nil=>rfl
 | cons d r=>rw [cmF,if_neg (fun k=>h r (by rw [k.2]))]
theorem cm_cases (c:UInt8) (r:List UInt8):(∃ s,c=44∧r=32::s)∨cmF (c::r)=c::cmF r:=by
 by_cases hc:c=44
 ·cases r with
  | nil=>exact .inr rfl
  | cons d s =>
   by_cases hd:d=32
   ·exact .inl ⟨s,hc,by rw [hd]⟩
   ·exact .inr (cmF_no _ (fun q hq=>hd (by cases hq;rfl)))
 ·exact .inr (cmF_ne hc r)
theorem wb_ne {c:UInt8} (h:wb c=true):c≠44:=by
 rintro rfl
 exact absurd h (by decide)
theorem wn_cm:∀ l:List UInt8,L2.wn (cmF l)=L2.wn l∧(cmF l).take (L2.wn l)=l.take (L2.wn l)∧(cmF l).drop (L2.wn l)=cmF (l.drop (L2.wn l))
 | []=>⟨rfl,rfl,rfl⟩
 | c::r=>by
  by_cases hw:wb c=true
  ·obtain⟨h1,h2,h3⟩:=wn_cm r
   rw [cmF_ne (wb_ne hw),L8.wn_pos hw,L8.wn_pos hw,h1]
   exact⟨rfl,by rw [List.take_succ_cons,List.take_succ_cons,h2],by rw [List.drop_succ_cons,List.drop_succ_cons,h3]⟩
  ·rw [L8.wn_neg hw]
   refine⟨?_,rfl,rfl⟩
   rcases cm_cases c r with ⟨s,rfl,rfl⟩|h
   ·rw [cmF_pair];exact L8.wn_neg (by decide)
   ·rw [h];exact L8.wn_neg hw
theorem cmF_len:∀ l:List UInt8,l.length≤(cmF l).length∧2*(cmF l).length≤3*l.length
 | []=>by simp [cmF]
 | [c]=>by simp [cmF]
 | c::d::r=>by
  have h1:=cmF_len r
  have h2:=cmF_len (d::r)
  rw [cmF]
  split
  ·simp only [List.length_cons] at h1 ⊢;omega
  ·simp only [List.length_cons] at h2 ⊢;omega
theorem tx_cm:∀ (n f g:Nat) (l:List UInt8),l.length≤n→(cmF l).length≤f→l.length≤g→tx f (cmF l)=tx g l
 | _,f,g,[],_,_,_=>by rw [show cmF []=[] from rfl,L9.tx_nil,L9.tx_nil]
 | 0,_,_,c::r,h,_,_=>absurd h (by simp)
 | n+1,f,g,c::r,h0,h1,h2=>by
  simp only [List.length_cons] at h0 h2
  obtain⟨g,rfl⟩:∃ g',g=g'+1:=⟨g-1,by omega⟩
  rcases cm_cases c r with ⟨s,rfl,rfl⟩|he
  ·rw [cmF_pair] at h1 ⊢
   simp only [List.length_cons] at h0 h1 h2
   obtain⟨f,rfl⟩:∃ f',f=f'+3:=⟨f-3,by omega⟩
   obtain⟨g,rfl⟩:∃ g',g=g'+1:=⟨g-1,by omega⟩
   have ih:=tx_cm n f g s (by omega) (by omega) (by omega)
   have a:tx (f+3) (9::32::44::cmF s)=([44]::(tx f (cmF s)).1,(tx f (cmF s)).2):=rfl
   have b:tx (g+1+1) (44::32::s)=([44]::(tx g s).1,(tx g s).2):=rfl
   rw [a,b,ih]
  ·rw [he] at h1 ⊢
   simp only [List.length_cons] at h1
   obtain⟨f,rfl⟩:∃ f',f=f'+1:=⟨f-1,by omega⟩
   have ih:=tx_cm n f g r (by omega) (by omega) (by omega)
   rw [tx,tx]
   by_cases hc:cmt c=true
   ·rw [if_pos hc,if_pos hc]
   rw [if_neg hc,if_neg hc]
   by_cases hs:spc c=true
   ·rw [if_pos hs,if_pos hs];exact ih
   rw [if_neg hs,if_neg hs]
   by_cases hw:wb c=true
   ·rw [if_pos hw,if_pos hw]
    obtain⟨k1,k2,k3⟩:=wn_cm (c::r)
    rw [he] at k1 k2 k3
    have hpos:=L8.wn_pos (r:=r) hw
    have hle:=L2.wn_le r
    have hl:((c::r).drop (L2.wn (c::r))).length=r.length-L2.wn r:=by rw [hpos,List.length_drop,List.length_cons];omega
    have hl2:(cmF ((c::r).drop (L2.wn (c::r)))).length≤f:=by
     rw [← k3,List.length_drop,hpos,List.length_cons];omega
    rw [k1,k2,k3,tx_cm n f g ((c::r).drop (L2.wn (c::r))) (by omega) hl2 (by omega)]
   rw [if_neg hw,if_neg hw]
   by_cases hp:pun c=true
   ·rw [if_pos hp,if_pos hp,ih]
   ·rw [if_neg hp,if_neg hp]
theorem tx_com (C:List UInt8):∀ (n f g:Nat) (S:List UInt8),S.length≤n→S.length≤g→S.length+3≤f→tx f (S++13::32::35::C)=tx g S
 | _,0,_,_,_,_,h=>absurd h (by omega)
 | _,1,_,_,_,_,h=>absurd h (by omega)
 | _,2,_,_,_,_,h=>absurd h (by omega)
 | _,f+3,g,[],_,_,_=>by
  rw [L9.tx_nil,List.nil_append]
  rfl
 | 0,_,_,c::r,h,_,_=>absurd h (by simp)
 | _,_,0,c::r,_,h,_=>absurd h (by simp)
 | n+1,f+3,g+1,c::r,h0,h1,h2=>by
  simp only [List.length_cons] at h0 h1 h2
  rw [List.cons_append]
  rw [tx,tx]
  by_cases hc:cmt c=true
  ·rw [if_pos hc,if_pos hc]
  rw [if_neg hc,if_neg hc]
  by_cases hs:spc c=true
  ·rw [if_pos hs,if_pos hs]
   exact tx_com C n (f+2) g r (by omega) (by omega) (by omega)
  rw [if_neg hs,if_neg hs]
  by_cases hw:wb c=true
  ·rw [if_pos hw,if_pos hw]
   have hm:=L9.wn_tail 13 (32::35::C) (by decide) (c::r)
   rw [List.cons_append] at hm
   rw [hm]
   have hle:L2.wn (c::r)≤(c::r).length:=L2.wn_le _
   have hpos:=L8.wn_pos (r:=r) hw
   have e1:(c::(r++13::32::35::C)).take (L2.wn (c::r))=(c::r).take (L2.wn (c::r)):=by
    rw [← List.cons_append,List.take_append_of_le_length hle]
   have e2:(c::(r++13::32::35::C)).drop (L2.wn (c::r))=(c::r).drop (L2.wn (c::r))++13::32::35::C:=by
    rw [← List.cons_append,List.drop_append_of_le_length hle]
   have hl:((c::r).drop (L2.wn (c::r))).length=r.length-L2.wn r:=by rw [hpos,List.length_drop,List.length_cons];omega
   rw [e1,e2,tx_com C n (f+2) g ((c::r).drop (L2.wn (c::r))) (by omega) (by omega) (by omega)]
  rw [if_neg hw,if_neg hw]
  by_cases hp:pun c=true
  ·rw [if_pos hp,if_pos hp]
   rw [tx_com C n (f+2) g r (by omega) (by omega) (by omega)]
  ·rw [if_neg hp,if_neg hp]
def liF (s:ByteArray):ByteArray:=⟨(cmF s.data.toList++[13,32,35,32,120]).toArray⟩
theorem itL_same {s s2:ByteArray} (e:tx s2.size s2.data.toList=tx s.size s.data.toList):itL s2=itL s:=by
 obtain⟨h1,h2⟩:=L8.txts_tx s2
 obtain⟨g1,g2⟩:=L8.txts_tx s
 rw [e] at h1 h2
 have k1:=h1.trans g1.symm
 have k2:=h2.trans g2.symm
 unfold L10.itL
 rcases L8.bad_cases s with hb|hb
 ·have hb2:=k2.2 hb
  rw [if_neg (by omega),if_neg (by omega),L9.txB_of,L9.txB_of,k1]
 ·have hb2:0≤L8.bad s2:=by
   rcases L8.bad_cases s2 with hb2|hb2
   ·have:=k2.1 hb2;omega
   ·exact hb2
  rw [if_pos hb,if_pos hb2]
theorem itL_liF (s:ByteArray):itL (liF s)=itL s:=by
 refine itL_same ?_
 have hz:(liF s).size=(cmF s.data.toList).length+5:=by
  rw [← L8.size_list];simp [liF]
 have hl:(liF s).data.toList=cmF s.data.toList++13::32::35::[32,120]:=rfl
 rw [hz,hl,tx_com [32,120] _ _ ((cmF s.data.toList).length) (cmF s.data.toList) (Nat.le_refl _) (Nat.le_refl _) (by omega)]
 exact tx_cm s.data.toList.length _ _ s.data.toList (Nat.le_refl _) (Nat.le_refl _) (by rw [L8.size_list];exact Nat.le_refl _)
theorem itL_eB:itL L9.eB=([],0):=by kernel_rfl
theorem cmF_line:∀ (x rest:List UInt8),(10:UInt8)∉x→cmF (x++10::rest)=cmF x++10::cmF rest
 | [],rest,_=>cmF_ne (by decide) rest
 | [c],rest,_=>by
  rw [List.singleton_append,cmF_no _ (fun s h=>by cases h),cmF_ne (by decide) rest]
  rfl
 | c::d::r,rest,h=>by
  have h1:=cmF_line r rest (fun hm=>h (by simp [hm]))
  have h2:=cmF_line (d::r) rest (fun hm=>h (by rcases List.mem_cons.1 hm with hm|hm <;> simp [hm]))
  rw [List.cons_append,List.cons_append,cmF,cmF]
  split
  ·rw [h1];rfl
  ·rw [List.cons_append] at h2;rw [h2];rfl
theorem cmF_lf:∀ x:List UInt8,(10:UInt8)∉x→(10:UInt8)∉cmF x
 | [],_=>by simp [cmF]
 | [c],h=>by simpa [cmF] using h
 | c::d::r,h=>by
  have h1:=cmF_lf r (fun hm=>h (by simp [hm]))
  have h2:=cmF_lf (d::r) (fun hm=>h (by rcases List.mem_cons.1 hm with hm|hm <;> simp [hm]))
  rw [cmF]
  split
  ·simp only [List.mem_cons,not_or]
   exact⟨by decide,by decide,by decide,h1⟩
  ·rw [List.mem_cons,not_or]
   exact⟨fun e=>h (by simp [e]),h2⟩
abbrev nwR:List UInt8:=[13,32,35,32,120,10]
theorem rpF_line (N:List UInt8):∀ (x rest:List UInt8),(10:UInt8)∉x→L11.rpF N (x++10::rest)=x++(N++L11.rpF N rest)
 | [],rest,_=>by rw [List.nil_append,L11.rpF,if_pos rfl];rfl
 | c::r,rest,h=>by
  rw [List.cons_append,L11.rpF,if_neg (fun e=>h (by rw [e];simp)),rpF_line N r rest (fun hm=>h (by simp [hm]))]
  rfl
theorem other_li:∀ l:List ByteArray,(∀ t∈l,(10:UInt8)∉t.data.toList)→L11.rpF nwR (cmF (liT l).data.toList)=(liT (l.map liF)).data.toList
 | [],_=>rfl
 | t::r,h=>by
  have ht:=h t (by simp)
  have ih:=other_li r (fun x hx=>h x (by simp [hx]))
  have e:(liT (t::r)).data.toList=t.data.toList++10::(liT r).data.toList:=by simp [liT,lfB]
  have e2:(liT ((t::r).map liF)).data.toList=(cmF t.data.toList++[13,32,35,32,120])++10::(liT (r.map liF)).data.toList:=by simp [liT,lfB,liF]
  rw [e,e2,cmF_line _ _ ht,rpF_line _ _ _ (cmF_lf _ ht),ih]
  simp [nwR]
theorem liF_lf {s:ByteArray} (h:(10:UInt8)∉s.data.toList):(10:UInt8)∉(liF s).data.toList:=by
 have e:(liF s).data.toList=cmF s.data.toList++[13,32,35,32,120]:=rfl
 rw [e,List.mem_append,not_or]
 exact⟨cmF_lf _ h,by decide⟩
theorem sim_map (g:ByteArray→ByteArray) (hg:∀ x,itL (g x)=itL x):∀ (l:List ByteArray) (s t:Rd),Sim s t→(foldL s l).2=(foldL t (l.map g)).2∧Sim (foldL s l).1 (foldL t (l.map g)).1
 | [],s,t,h=>⟨rfl,h⟩
 | x::l,s,t,h=>by
  obtain⟨h1,h2⟩:=L11.sim_rdL (a:=x) (b:=g x) (hg x) h
  rw [List.map_cons,foldL,foldL,← h1]
  by_cases h0:(rdL s x).2=0
  ·rw [if_neg (by simp [h0]),if_neg (by simp [h0])]
   exact sim_map g hg l _ _ h2
  ·rw [if_pos h0,if_pos h0]
   exact⟨h1,h2⟩
theorem rdL_eB (s:Rd):(rdL s L9.eB).2=0∧Sim s (rdL s L9.eB).1:=by
 unfold L10.rdL
 rw [itL_eB,if_neg (by simp)]
 exact⟨rfl,rfl,rfl,rfl⟩
theorem pa_other (p:Pg) (h:(L10.brV p).2.2=0) (t2:ByteArray) (ht:t2.data.toList=10::L11.rpF nwR (cmF (pgT p).data.toList)):∃ sl ln,L10.paV t2=(p,sl,ln,0):=by
 obtain⟨sl,hp⟩:=L11.pa_text p h
 have hlf:=L11.lnT_lf h
 have e:t2=liT (L9.eB::(lnT p).map liF):=by
  have:t2.data.toList=(liT (L9.eB::(lnT p).map liF)).data.toList:=by
   rw [ht]
   unfold L11.pgT
   rw [other_li _ hlf]
   simp [liT,lfB,L9.eB]
  apply ByteArray.ext
  exact Array.toList_inj.1 this
 have hln:L8.lns t2=L9.eB::(lnT p).map liF:=by
  rw [e]
  refine L11.lns_liT _ fun t ht=>?_
  rcases List.mem_cons.1 ht with rfl|ht
  ·simp [L9.eB]
  ·obtain⟨x,hx,rfl⟩:=List.mem_map.1 ht
   exact liF_lf (hlf x hx)
 have hln0:L8.lns (pgT p)=lnT p:=L11.lns_liT _ hlf
 have hs:(foldL Rd.z (lnT p)).2=(foldL Rd.z (L9.eB::(lnT p).map liF)).2∧Sim (foldL Rd.z (lnT p)).1 (foldL Rd.z (L9.eB::(lnT p).map liF)).1:=by
  obtain⟨k1,k2⟩:=rdL_eB Rd.z
  rw [foldL,if_neg (by simp [k1])]
  exact sim_map liF itL_liF _ _ _ k2
 have q:L10.paV t2=L10.paF (foldL Rd.z (L9.eB::(lnT p).map liF)):=by unfold L10.paV;rw [hln]
 have q0:L10.paV (pgT p)=L10.paF (foldL Rd.z (lnT p)):=by unfold L10.paV;rw [hln0]
 obtain⟨m1,m2⟩:=L11.sim_paF hs.1 hs.2
 rw [← q,← q0,hp] at m1 m2
 refine⟨(L10.paV t2).2.1,(L10.paV t2).2.2.1,?_⟩
 rw [← show (L10.paV t2).1=p from m1.symm,← show (L10.paV t2).2.2.2=0 from m2.symm]
end Go.Proofs.YtgljoilddjmohaaGreatDoor.L13
end
section
namespace Go.Proofs.YtgljoilddjmohaaGreatDoor.L13
open Go.Lib
theorem ix_hit {old r:List UInt8} (h:old.isPrefixOf r=true):index r old=0:=by
 cases r with
 | nil =>
  cases old with
  | nil=>rfl
  | cons a b=>simp at h
 | cons b l=>unfold index;rw [if_pos h]
theorem ix_miss {old:List UInt8} {b:UInt8} {l:List UInt8} (h:old.isPrefixOf (b::l)=false):index (b::l) old=if index l old==-1 then -1 else index l old+1:=by
 conv=>lhs;unfold index
 rw [h,if_neg Bool.false_ne_true]
theorem cnt_miss {old:List UInt8} (ho:old≠[]) {b:UInt8} {l:List UInt8} (h:old.isPrefixOf (b::l)=false):count (b::l) old=count l old:=by
 have hi:=ix_miss h
 rcases index_spec l old with ⟨hm,-⟩|⟨i,hm,-,-,-⟩
 ·rw [hm] at hi
  rw [count_miss hi,count_miss hm]
 ·have hi':index (b::l) old=((i+1:Nat):Int):=by
   rw [hi,hm,if_neg (by simp only [beq_iff_eq];omega)]
   omega
  rw [count_hit ho hi',count_hit ho hm,show i+1+old.length=(i+old.length)+1 from by omega,List.drop_succ_cons]
theorem cnt_hit {old:List UInt8} (ho:old≠[]) {r:List UInt8} (h:old.isPrefixOf r=true):count r old=count (r.drop old.length) old+1:=by
 rw [count_hit ho (i:=0) (ix_hit h),Nat.zero_add];omega
theorem rK_hit {old new:List UInt8} {r:List UInt8} (h:old.isPrefixOf r=true) (k:Nat):replaceK old new (k+1) r=new++replaceK old new k (r.drop old.length):=by
 rw [replaceK_hit old new k r 0 (ix_hit h),List.take_zero,List.nil_append,Nat.zero_add]
theorem rK_miss {old new:List UInt8} {b:UInt8} {l:List UInt8} (h:old.isPrefixOf (b::l)=false) (k:Nat):replaceK old new k (b::l)=b::replaceK old new k l:=by
 cases k with
 | zero=>rfl
 | succ k =>
  have hi:=ix_miss h
  rcases index_spec l old with ⟨hm,-⟩|⟨i,hm,-,-,-⟩
  ·rw [hm] at hi
   rw [replaceK,replaceK,hi,hm,if_pos (by decide),if_pos (by decide)]
  ·have hi':index (b::l) old=((i+1:Nat):Int):=by
    rw [hi,hm,if_neg (by simp only [beq_iff_eq];omega)]
    omega
   rw [replaceK_hit old new k _ _ hi',replaceK_hit old new k _ _ hm,show i+1+old.length=(i+old.length)+1 from by omega,List.drop_succ_cons,List.take_succ_cons]
   rfl
theorem cm_step (c:UInt8) (r:List UInt8):(∃ s,c=44∧r=32::s)∨(cmF (c::r)=c::cmF r∧([44,32]:List UInt8).isPrefixOf (c::r)=false):=by
 by_cases hc:c=44
 ·cases r with
  | nil=>exact .inr ⟨rfl,by rw [hc];rfl⟩
  | cons d s =>
   by_cases hd:d=32
   ·exact .inl ⟨s,hc,by rw [hd]⟩
   ·refine .inr ⟨cmF_no _ (fun q hq=>hd (by cases hq;rfl)),?_⟩
    have:(32==d)=false:=beq_eq_false_iff_ne.2 (fun e=>hd e.symm)
    simp [List.isPrefixOf,this]
 ·refine .inr ⟨cmF_ne hc r,?_⟩
  have:(44==c)=false:=beq_eq_false_iff_ne.2 (fun e=>hc e.symm)
  simp [List.isPrefixOf,this]
theorem rk_cm:∀ (n:Nat) (l:List UInt8),l.length≤n→replaceK [44,32] [9,32,44] (count l [44,32]) l=cmF l
 | _,[],_=>by rw [count_miss rfl];rfl
 | 0,c::r,h=>absurd h (by simp)
 | n+1,c::r,h=>by
  simp only [List.length_cons] at h
  rcases cm_step c r with ⟨s,rfl,rfl⟩|⟨h1,h2⟩
  ·simp only [List.length_cons] at h
   rw [cnt_hit (by simp) (by rfl),rK_hit (by rfl),cmF_pair]
   have ih:=rk_cm n s (by omega)
   have e:((44:UInt8)::32::s).drop ([44,32]:List UInt8).length=s:=rfl
   rw [e,ih]
   rfl
  ·rw [cnt_miss (by simp) h2,rK_miss h2,rk_cm n r (by omega),h1]
theorem rk_rp (N:List UInt8):∀ l:List UInt8,replaceK [10] N (count l [10]) l=L11.rpF N l
 | []=>by rw [count_miss rfl];rfl
 | c::r=>by
  by_cases hc:c=10
  ·subst hc
   rw [cnt_hit (by simp) (by rfl),rK_hit (by rfl),L11.rpF,if_pos rfl]
   have e:((10:UInt8)::r).drop ([10]:List UInt8).length=r:=rfl
   rw [e,rk_rp N r]
  ·have h2:([10]:List UInt8).isPrefixOf (c::r)=false:=by
    have:(10==c)=false:=beq_eq_false_iff_ne.2 (fun e=>hc e.symm)
    simp [List.isPrefixOf,this]
   rw [cnt_miss (by simp) h2,rK_miss h2,rk_rp N r,L11.rpF,if_neg hc]
theorem ra_cm (l:List UInt8):replaceAll l [44,32] [9,32,44]=cmF l:=by
 unfold replaceAll replace
 rw [if_neg (by decide)]
 unfold replaceNum
 rw [if_pos (.inl (by decide))]
 exact rk_cm _ l (Nat.le_refl _)
theorem ra_rp (l:List UInt8):replaceAll l [10] nwR=L11.rpF nwR l:=by
 unfold replaceAll replace
 rw [if_neg (by decide)]
 unfold replaceNum
 rw [if_pos (.inl (by decide))]
 exact rk_rp nwR l
theorem rp_le (N:List UInt8) (h:1≤N.length) (l:List UInt8):(L11.rpF N l).length=l.length+Lib.countByte l 10*(N.length-1):=by
 have:=L11.rp_len N l
 have e:Lib.countByte l 10*N.length=Lib.countByte l 10*(N.length-1)+Lib.countByte l 10:=by
  obtain⟨k,hk⟩:∃ k,N.length=k+1:=⟨N.length-1,by omega⟩
  rw [hk,Nat.add_sub_cancel,Nat.mul_succ]
 omega
theorem cm_lf:∀ (n:Nat) (l:List UInt8),l.length≤n→Lib.countByte (cmF l) 10=Lib.countByte l 10
 | _,[],_=>rfl
 | 0,c::r,h=>absurd h (by simp)
 | n+1,c::r,h=>by
  simp only [List.length_cons] at h
  rcases cm_step c r with ⟨s,rfl,rfl⟩|⟨h1,-⟩
  ·simp only [List.length_cons] at h
   rw [cmF_pair]
   have ih:=cm_lf n s (by omega)
   unfold Lib.countByte at ih ⊢
   rw [List.count_cons_of_ne (by decide),List.count_cons_of_ne (by decide),List.count_cons_of_ne (by decide),List.count_cons_of_ne (by decide),List.count_cons_of_ne (by decide),ih]
  ·have ih:=cm_lf n r (by omega)
   unfold Lib.countByte at ih ⊢
   rw [h1,List.count_cons,List.count_cons,ih]
end Go.Proofs.YtgljoilddjmohaaGreatDoor.L13
end
