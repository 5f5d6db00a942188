/- An object that is handed over reads as some object; how long its lists may be. No condition. -/
import Derived.Test.YtohkgdfkklfgmaaGreatDoorM30
import Derived.Test.YtohkgdfkklfgmaaGreatDoorM15
import Derived.WideShapes
set_option maxRecDepth 100000
namespace Go.Proofs.YtohkgdfkklfgmaaGreatDoor.L13
open Go.ChangeShapes Go.WideShapes Go.ChangeAt Go.RowKit Go.Deep
theorem cR:Tryz.prog.cellsOf 59=2:=by kernel_rfl
theorem cO:Tryz.prog.cellsOf 26=3:=by kernel_rfl
theorem cUs:Tryz.prog.cellsOf 23=1:=by kernel_rfl
theorem cRs:Tryz.prog.cellsOf 24=1:=by kernel_rfl
theorem bD:Tryz.prog.bytesOf 62=40:=by kernel_rfl
theorem bR:Tryz.prog.bytesOf 59=16:=by kernel_rfl
section
variable {H:Type} {enc:TypeId × Value→H} {W:World} {base:Nat} {sp:Nat→Bool} {held:Bool}
theorem slice_room {t e:TypeId} {fuel:Nat} {v:Value} {x:DataW H × List MemPlace} (ht:Tryz.prog.underlying t=some (.slice e)) (hb:16≤Tryz.prog.bytesOf e) (h:DataW.trod enc Tryz.prog W base sp held fuel t [v]=some x) :
  ∃ a n c,v=.slice a n c∧(L10.Wt t x.1→n≤8796093022208):=by
 rcases open_slice ht h with ⟨hcs,-⟩|⟨a,len,cap,m,n,D,Pl,hcs,-,hl,-,hmm,hx,hi⟩
 ·simp only [List.cons.injEq,and_true] at hcs
  exact⟨none,0,0,hcs,fun _=>by omega⟩
 ·simp only [List.cons.injEq,and_true] at hcs
  refine⟨some a,len,cap,hcs,fun hw=>?_⟩
  rw [hx] at hw
  unfold L10.Wt at hw
  simp only [DataW.weights,ht] at hw
  have h1:=hw _ (List.mem_cons_self ..)
  simp only [List.length_map,List.length_range] at h1
  have h2:len*16≤reachBytes:=by
   refine Nat.le_trans ?_ h1
   exact Nat.mul_le_mul (by omega) hb
  unfold reachBytes at h2
  omega
theorem open_rel {fuel:Nat} {cs:List Value} {x:DataW H × List MemPlace} (h:DataW.trod enc Tryz.prog W base sp held fuel 59 cs=some x):∃ d:Int × Int,cs=roL d:=by
 obtain⟨xs,n,_,_,hcl,hlen,hg⟩:=DataW.trod_struct Tryz.underlying59 h
 rw [cR] at hcl
 match cs,hcl,xs,hlen with
 | [c0,c1],_,[y0,y1],_ =>
  have g0:DataW.trod enc Tryz.prog W base sp held n 3 [c0]=some y0:=by simpa [L10.cN] using hg 0 _ rfl
  have g1:DataW.trod enc Tryz.prog W base sp held n 3 [c1]=some y1:=by simpa [L10.cN] using hg 1 _ rfl
  obtain⟨n0,e0,-,-⟩:=DataW.trod_int Tryz.underlying3 g0
  obtain⟨n1,e1,-,-⟩:=DataW.trod_int Tryz.underlying3 g1
  simp only [List.cons.injEq,and_true] at e0 e1
  subst e0 e1
  exact⟨(n0,n1),rfl⟩
theorem open_rels {fuel:Nat} {cs:List Value} {x:DataW H × List MemPlace} (h:DataW.trod enc Tryz.prog W base sp held fuel 24 cs=some x) :
  ∃ v l,cs=[v]∧RoAt W v l:=by
 rcases open_slice Tryz.underlying24 h with ⟨hcs,-⟩|⟨a,len,cap,m,n,D,Pl,hcs,-,hl,-,hmm,-,hi⟩
 ·exact⟨_,[],hcs,.inr ⟨rfl,none,0,rfl⟩⟩
 ·rw [cR] at hi
  have each:∀ i,i<len→∃ d:Int × Int,∀ k u,(roL d)[k]?=some u→W.cell? (a.add (i*2+k))=some u:=by
   intro i hil
   obtain⟨cs',hc,ht⟩:=hi i (by split at hmm <;> omega)
   obtain⟨d,hd⟩:=open_rel ht
   obtain⟨_,hcl,hat⟩:=World.cells?_some hc
   refine⟨d,fun k u hu=>?_⟩
   have hk:k<2:=by
    have:=(List.getElem?_eq_some_iff.1 hu).1
    simpa using this
   rw [← Go.Deep.add_add,hat k hk,hd];exact hu
  obtain⟨l,hll,hp⟩:=L10.list_of len each
  subst hll
  refine⟨_,l,hcs,?_⟩
  by_cases h0:l=[]
  ·exact .inr ⟨h0,some a,cap,by rw [h0];rfl⟩
  ·have hpos:0<l.length:=List.length_pos_iff.2 h0
   have hc0:=hp 0 hpos 0 _ rfl
   obtain⟨b,off,spot⟩:=a
   have hspot:spot=none:=by simpa [Addr.add] using World.cell?_spot hc0
   subst hspot
   have hb:=World.block_lt_of_cell? W _ hc0
   refine .inl ⟨b,off,cap,rfl,hb,fun j hj=>⟨?_,?_⟩⟩
   ·rw [← add_plain]
    exact hp j hj 0 _ rfl
   ·rw [Nat.add_assoc,← add_plain]
    exact hp j hj 1 _ rfl
end
end Go.Proofs.YtohkgdfkklfgmaaGreatDoor.L13
