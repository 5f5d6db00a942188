/- Lemmas and walks of L10Opn, L12Lp: what each theorem states; conditions stand in each theorem. -/
import Derived.Test.YtihiggnglmhggaaGreatDoorM18
set_option maxHeartbeats 2000000
set_option maxRecDepth 100000
section
section
namespace Go.Proofs.YtihiggnglmhggaaGreatDoor.L10
open Go.ChangeShapes Go.WideShapes Go.ChangeAt Go.RowKit Go.Deep
theorem list_of {α:Type} {P:Nat→α→Prop}:∀ n:Nat,(∀ i,i<n→∃ x,P i x)→∃ l:List α,l.length=n∧∀ i,(hi:i<l.length)→P i l[i]
 | 0,_=>⟨[],rfl,fun i hi=>absurd hi (by simp)⟩
 | n+1,h=>by
  obtain⟨l,hl,hp⟩:=list_of n (fun i hi=>h i (by omega))
  obtain⟨x,hx⟩:=h n (by omega)
  refine⟨l++[x],by simp [hl],fun i hi=>?_⟩
  by_cases hlt:i<l.length
  ·rw [List.getElem_append_left hlt];exact hp i hlt
  ·have:i=n:=by simp at hi;omega
   subst this
   rw [List.getElem_append_right (by omega)]
   simpa [hl] using hx
theorem cD:Tryz.prog.cellsOf 88=4:=by kernel_rfl
theorem cI:Tryz.prog.cellsOf 45=6:=by kernel_rfl
theorem cT:Tryz.prog.cellsOf 9=1:=by kernel_rfl
theorem cN:Tryz.prog.cellsOf 3=1:=by kernel_rfl
theorem cL:Tryz.prog.cellsOf 2=1:=by kernel_rfl
theorem cDs:Tryz.prog.cellsOf 22=1:=by kernel_rfl
section
variable {H:Type} {enc:TypeId × Value→H} {W:World} {base:Nat} {sp:Nat→Bool} {held:Bool}
theorem open_def {fuel:Nat} {cs:List Value} {x:DataW H × List MemPlace} (h:DataW.trod enc Tryz.prog W base sp held fuel 88 cs=some x) :
  ∃ d:L9.Df,cs=dfL d∧DfFit d:=by
 obtain⟨xs,n,_,_,hcl,hlen,hg⟩:=DataW.trod_struct Tryz.underlying88 h
 rw [cD] at hcl
 match cs,hcl,xs,hlen with
 | [c0,c1,c2,c3],_,[y0,y1,y2,y3],_ =>
  have g0:DataW.trod enc Tryz.prog W base sp held n 9 [c0]=some y0:=by simpa [cT] using hg 0 _ rfl
  have g1:DataW.trod enc Tryz.prog W base sp held n 3 [c1]=some y1:=by simpa [cN] using hg 1 _ rfl
  have g2:DataW.trod enc Tryz.prog W base sp held n 3 [c2]=some y2:=by simpa [cN] using hg 2 _ rfl
  have g3:DataW.trod enc Tryz.prog W base sp held n 3 [c3]=some y3:=by simpa [cN] using hg 3 _ rfl
  obtain⟨s0,e0,-,k0⟩:=DataW.trod_string Tryz.underlying9 g0
  obtain⟨n1,e1,-,k1⟩:=DataW.trod_int Tryz.underlying3 g1
  obtain⟨n2,e2,-,k2⟩:=DataW.trod_int Tryz.underlying3 g2
  obtain⟨n3,e3,-,k3⟩:=DataW.trod_int Tryz.underlying3 g3
  simp only [List.cons.injEq,and_true] at e0 e1 e2 e3
  subst e0 e1 e2 e3
  exact⟨⟨s0,n1,n2,n3⟩,rfl,k0,k1,k2,k3⟩
theorem open_insC {fuel:Nat} {cs:List Value} {x:DataW H × List MemPlace} (h:DataW.trod enc Tryz.prog W base sp held fuel 45 cs=some x) :
  ∃ d:L9.Ins,cs=inL d∧(Lit.int .i64 d.op).wf=true∧(Lit.int .i64 d.dst).wf=true∧(Lit.int .i64 d.src).wf=true∧(Lit.int .i64 d.off).wf=true∧(Lit.int .i64 d.imm).wf=true:=by
 obtain⟨xs,n,_,_,hcl,hlen,hg⟩:=DataW.trod_struct Tryz.underlying45 h
 rw [cI] at hcl
 match cs,hcl,xs,hlen with
 | [c0,c1,c2,c3,c4,c5],_,[y0,y1,y2,y3,y4,y5],_ =>
  have g0:DataW.trod enc Tryz.prog W base sp held n 3 [c0]=some y0:=by simpa [cN] using hg 0 _ rfl
  have g1:DataW.trod enc Tryz.prog W base sp held n 4 [c1]=some y1:=by simpa [cB] using hg 1 _ rfl
  have g2:DataW.trod enc Tryz.prog W base sp held n 3 [c2]=some y2:=by simpa [cN] using hg 2 _ rfl
  have g3:DataW.trod enc Tryz.prog W base sp held n 3 [c3]=some y3:=by simpa [cN] using hg 3 _ rfl
  have g4:DataW.trod enc Tryz.prog W base sp held n 3 [c4]=some y4:=by simpa [cN] using hg 4 _ rfl
  have g5:DataW.trod enc Tryz.prog W base sp held n 2 [c5]=some y5:=by simpa [cL] using hg 5 _ rfl
  obtain⟨n0,e0,-,k0⟩:=DataW.trod_int Tryz.underlying3 g0
  obtain⟨n1,e1,-⟩:=DataW.trod_bool Tryz.underlying4 g1
  obtain⟨n2,e2,-,k2⟩:=DataW.trod_int Tryz.underlying3 g2
  obtain⟨n3,e3,-,k3⟩:=DataW.trod_int Tryz.underlying3 g3
  obtain⟨n4,e4,-,k4⟩:=DataW.trod_int Tryz.underlying3 g4
  obtain⟨n5,e5,-,k5⟩:=DataW.trod_int Tryz.underlying2 g5
  simp only [List.cons.injEq,and_true] at e0 e1 e2 e3 e4 e5
  subst e0 e1 e2 e3 e4 e5
  exact⟨⟨n0,n1,n2,n3,n4,n5⟩,rfl,k0,k2,k3,k4,k5⟩
theorem open_defs {fuel:Nat} {cs:List Value} {x:DataW H × List MemPlace} (h:DataW.trod enc Tryz.prog W base sp held fuel 22 cs=some x) :
  ∃ v l,cs=[v]∧DfAt W v l∧∀ d∈l,DfFit d:=by
 rcases open_slice Tryz.underlying22 h with ⟨hcs,-⟩|⟨a,len,cap,m,n,D,Pl,hcs,-,hl,-,hmm,-,hi⟩
 ·exact⟨_,[],hcs,.inr ⟨rfl,none,0,rfl⟩,by simp⟩
 ·rw [cD] at hi
  have each:∀ i,i<len→∃ d:L9.Df,DfFit d∧∀ k u,(dfL d)[k]?=some u→W.cell? (a.add (i*4+k))=some u:=by
   intro i hil
   obtain⟨cs',hc,ht⟩:=hi i (by split at hmm <;> omega)
   obtain⟨d,hd,hfit⟩:=open_def ht
   obtain⟨_,hcl,hat⟩:=World.cells?_some hc
   refine⟨d,hfit,fun k u hu=>?_⟩
   have hk:k<4:=by
    have:=(List.getElem?_eq_some_iff.1 hu).1
    simpa using this
   rw [← Go.Deep.add_add,hat k hk,hd];exact hu
  obtain⟨l,hll,hp⟩:=list_of len each
  subst hll
  refine⟨_,l,hcs,?_,fun d hd=>?_⟩
  ·by_cases h0:l=[]
   ·exact .inr ⟨h0,some a,cap,by rw [h0];rfl⟩
   ·have hpos:0<l.length:=List.length_pos_iff.2 h0
    have hc0:=(hp 0 hpos).2 0 _ rfl
    obtain⟨b,off,spot⟩:=a
    have hspot:spot=none:=by simpa [Addr.add] using World.cell?_spot hc0
    subst hspot
    have hb:=World.block_lt_of_cell? W _ hc0
    refine .inl ⟨b,off,cap,rfl,hb,fun j hj i u hu=>?_⟩
    rw [Nat.add_assoc,← add_plain]
    exact (hp j hj).2 i u hu
  ·obtain⟨i,hi,rfl⟩:=List.mem_iff_getElem.1 hd
   exact (hp i hi).1
end
end Go.Proofs.YtihiggnglmhggaaGreatDoor.L10
end
section
namespace Go.Proofs.YtihiggnglmhggaaGreatDoor.L12
open Go.RowKit Go.Shelf L3 L4
attribute [local go_sem] Oper.semAt_some
theorem nq_in (op:Int) (reg:Bool) (dst src off imm:Int) (w:World):(binOp .neq 45 (.agg #[.int .i64 op,.bool reg,.int .i64 dst,.int .i64 src,.int .i64 off,.int .i64 imm]) (.agg #[.int .i64 op,.bool reg,.int .i64 dst,.int .i64 src,.int .i64 off,.int .i64 imm])).run Tryz.prog w=.ok (.bool false) w:=by
 have hp:Tryz.prog.stoodInHeld 45=false:=by kernel_rfl
 have a4:∀ w,(isAgg 4).run Tryz.prog w=.ok false w:=fun w=>by kernel_rfl
 have a3:∀ w,(isAgg 3).run Tryz.prog w=.ok false w:=fun w=>by kernel_rfl
 have a2:∀ w,(isAgg 2).run Tryz.prog w=.ok false w:=fun w=>by kernel_rfl
 simp [go_sem,hp,Tryz.underlying45,Tryz.underlying4,Tryz.underlying3,Tryz.underlying2,part,a4,a3,a2]
theorem isame12_at (v v':Value) (l:List L9.Ins) (w:World) (hl:l.length≤100000) (hv:IsAt w v l) (hv':IsAt w v' l) :
  Calls Tryz.prog 17 #[v,v'] w fun e w'=>e=.returned (.bool true)∧Below w.heap.size w w':=by
 obtain⟨n,hn⟩:∃ n,l.length=n:=⟨_,rfl⟩
 obtain⟨a,c,rfl,hc⟩:=is_form hn hv
 obtain⟨a',c',rfl,hc'⟩:=is_form hn hv'
 rw [hn] at hl
 have HN:=Lib.hid hn
 have HC:=Lib.hid hc
 have HC':=Lib.hid hc'
 clear hn hc hc' hv hv'
 go_enter Tryz.func17,Tryz.ntmps17
 go_wp2
 go_loopw [5] (fun i wr=>∃ (k q:Nat),k≤n∧i=.int .i64 (k:Int)∧wr=w.drewN q) (fun i _=>n-(RowKit.intOf i).toNat)
 case atStart=>exact⟨0,0,Nat.zero_le _,rfl,rfl⟩
 case round =>
  obtain⟨k,q,hk,rfl,rfl⟩:=hrel
  by_cases hlt:k<n
  ·have hk1:k<l.length:=by rw [HN.out];exact hlt
   obtain⟨b1,o1,rfl,hb1,hc1⟩:=HC.out (by omega)
   obtain⟨b2,o2,rfl,hb2,hc2⟩:=HC'.out (by omega)
   obtain⟨x0,x1,x2,x3,x4,x5⟩:=hc1 k hk1
   obtain⟨y0,y1,y2,y3,y4,y5⟩:=hc2 k hk1
   have hlt':(k:Int)<(n:Int):=by omega
   generalize l[k]=x at x0 x1 x2 x3 x4 x5 y0 y1 y2 y3 y4 y5
   obtain⟨op,reg,dst,src,off,imm⟩:=x
   have hq:=nq_in op reg dst src off imm
   clear hc1 hc2
   go_wp2
   go_quiet (fail)
   go_wp2
   go_roundw
   case rel=>exact⟨k+1,q+nq,by omega,by go_num,rfl⟩
   case measure=>simp [RowKit.intOf];omega
  ·obtain rfl:k=n:=by omega
   go_wp2
   go_ret
   exact⟨rfl,L8.bdN (Below.refl _ _) _⟩
end Go.Proofs.YtihiggnglmhggaaGreatDoor.L12
end
end
