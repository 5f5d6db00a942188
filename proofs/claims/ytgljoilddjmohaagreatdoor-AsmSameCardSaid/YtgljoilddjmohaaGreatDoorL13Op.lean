/- An object that is handed over reads as some object; how long its lists may be. No condition. -/
import Derived.Test.YtgljoilddjmohaaGreatDoorM30
import Derived.Test.YtgljoilddjmohaaGreatDoorM15
import Derived.WideShapes
set_option maxRecDepth 100000
namespace Go.Proofs.YtgljoilddjmohaaGreatDoor.L13
open Go.ChangeShapes Go.WideShapes Go.ChangeAt Go.RowKit Go.Deep
theorem cR:Tryz.prog.cellsOf 75=2:=by kernel_rfl
theorem cO:Tryz.prog.cellsOf 38=3:=by kernel_rfl
theorem cU:Tryz.prog.cellsOf 5=1:=by kernel_rfl
theorem cUs:Tryz.prog.cellsOf 35=1:=by kernel_rfl
theorem cRs:Tryz.prog.cellsOf 36=1:=by kernel_rfl
theorem bD:Tryz.prog.bytesOf 70=40:=by kernel_rfl
theorem bR:Tryz.prog.bytesOf 75=16:=by kernel_rfl
section
variable {H:Type} {enc:TypeId × Value→H} {W:World} {base:Nat} {sp:Nat→Bool} {held:Bool}
theorem slice_room {t e:TypeId} {fuel:Nat} {v:Value} {x:DataW H × List MemPlace} (ht:Tryz.prog.underlying t=some (.slice e)) (hb:16≤Tryz.prog.bytesOf e) (h:DataW.trod enc Tryz.prog W base sp held fuel t [v]=some x) :
  ∃ a n c,v=.slice a n c∧(L10.Wt t x.1→n≤8796093022208):=by
 rcases open_slice ht h with ⟨hcs,-⟩|⟨a,len,cap,m,n,D,Pl,hcs,-,hl,-,hmm,hx,hi⟩
 ·simp only [List.cons.injEq,and_true] at hcs
  exact⟨none,0,0,hcs,fun _=>by omega⟩
 ·simp only [List.cons.injEq,and_true] at hcs
  refine⟨some a,len,cap,hcs,fun hw=>?_⟩
  rw [hx] at hw
  unfold L10.Wt at hw
  simp only [DataW.weights,ht] at hw
  have h1:=hw _ (List.mem_cons_self ..)
  simp only [List.length_map,List.length_range] at h1
  have h2:len*16≤reachBytes:=by
   refine Nat.le_trans ?_ h1
   exact Nat.mul_le_mul (by omega) hb
  unfold reachBytes at h2
  omega
theorem open_rel {fuel:Nat} {cs:List Value} {x:DataW H × List MemPlace} (h:DataW.trod enc Tryz.prog W base sp held fuel 75 cs=some x):∃ d:Int × Int,cs=roL d:=by
 obtain⟨xs,n,_,_,hcl,hlen,hg⟩:=DataW.trod_struct Tryz.underlying75 h
 rw [cR] at hcl
 match cs,hcl,xs,hlen with
 | [c0,c1],_,[y0,y1],_ =>
  have g0:DataW.trod enc Tryz.prog W base sp held n 3 [c0]=some y0:=by simpa [L10.cN] using hg 0 _ rfl
  have g1:DataW.trod enc Tryz.prog W base sp held n 3 [c1]=some y1:=by simpa [L10.cN] using hg 1 _ rfl
  obtain⟨n0,e0,-,-⟩:=DataW.trod_int Tryz.underlying3 g0
  obtain⟨n1,e1,-,-⟩:=DataW.trod_int Tryz.underlying3 g1
  simp only [List.cons.injEq,and_true] at e0 e1
  subst e0 e1
  exact⟨(n0,n1),rfl⟩
theorem open_rels {fuel:Nat} {cs:List Value} {x:DataW H × List MemPlace} (h:DataW.trod enc Tryz.prog W base sp held fuel 36 cs=some x) :
  ∃ v l,cs=[v]∧RoAt W v l:=by
 rcases open_slice Tryz.underlying36 h with ⟨hcs,-⟩|⟨a,len,cap,m,n,D,Pl,hcs,-,hl,-,hmm,-,hi⟩
 ·exact⟨_,[],hcs,.inr ⟨rfl,none,0,rfl⟩⟩
 ·rw [cR] at hi
  have each:∀ i,i<len→∃ d:Int × Int,∀ k u,(roL d)[k]?=some u→W.cell? (a.add (i*2+k))=some u:=by
   intro i hil
   obtain⟨cs',hc,ht⟩:=hi i (by split at hmm <;> omega)
   obtain⟨d,hd⟩:=open_rel ht
   obtain⟨_,hcl,hat⟩:=World.cells?_some hc
   refine⟨d,fun k u hu=>?_⟩
   have hk:k<2:=by
    have:=(List.getElem?_eq_some_iff.1 hu).1
    simpa using this
   rw [← Go.Deep.add_add,hat k hk,hd];exact hu
  obtain⟨l,hll,hp⟩:=L10.list_of len each
  subst hll
  refine⟨_,l,hcs,?_⟩
  by_cases h0:l=[]
  ·exact .inr ⟨h0,some a,cap,by rw [h0];rfl⟩
  ·have hpos:0<l.length:=List.length_pos_iff.2 h0
   have hc0:=hp 0 hpos 0 _ rfl
   obtain⟨b,off,spot⟩:=a
   have hspot:spot=none:=by simpa [Addr.add] using World.cell?_spot hc0
   subst hspot
   have hb:=World.block_lt_of_cell? W _ hc0
   refine .inl ⟨b,off,cap,rfl,hb,fun j hj=>⟨?_,?_⟩⟩
   ·rw [← add_plain]
    exact hp j hj 0 _ rfl
   ·rw [Nat.add_assoc,← add_plain]
    exact hp j hj 1 _ rfl
theorem u8_of {n:Int} (h:(Lit.int .u8 n).wf=true):n=((UInt8.ofNat n.toNat).toNat:Int):=by
 have h2:0≤n∧n≤255:=by simpa [Lit.wf,IntKind.min,IntKind.max,IntKind.bits,IntKind.signed] using h
 have h3:(UInt8.ofNat n.toNat).toNat=n.toNat:=by
  simp only [UInt8.toNat_ofNat']
  omega
 omega
theorem open_byts {fuel:Nat} {cs:List Value} {x:DataW H × List MemPlace} (h:DataW.trod enc Tryz.prog W base sp held fuel 35 cs=some x) :
  ∃ v l,cs=[v]∧L5.BsV W v l∧l.length≤maxLen:=by
 rcases open_slice Tryz.underlying35 h with ⟨hcs,-⟩|⟨a,len,cap,m,n,D,Pl,hcs,-,hl,hcm,hmm,-,hi⟩
 ·exact⟨_,[],hcs,⟨none,0,rfl,.inl rfl⟩,by simp⟩
 ·rw [cU] at hi
  have each:∀ i,i<len→∃ d:UInt8,W.cell? (a.add i)=some (.int .u8 (d.toNat:Int)):=by
   intro i hil
   obtain⟨cs',hc,ht⟩:=hi i (by split at hmm <;> omega)
   obtain⟨n0,e0,-,w0⟩:=DataW.trod_int Tryz.underlying5 ht
   obtain⟨_,hcl,hat⟩:=World.cells?_some hc
   refine⟨UInt8.ofNat n0.toNat,?_⟩
   have:=hat 0 (by omega)
   rw [Go.Deep.add_add,e0] at this
   rw [← u8_of w0]
   simpa using this
  obtain⟨l,hll,hp⟩:=L10.list_of len each
  subst hll
  refine⟨_,l,hcs,⟨some a,cap,rfl,?_⟩,by omega⟩
  by_cases h0:l=[]
  ·exact .inl h0
  ·have hpos:0<l.length:=List.length_pos_iff.2 h0
   have hc0:=hp 0 hpos
   obtain⟨b,off,spot⟩:=a
   have hspot:spot=none:=by simpa [Addr.add] using World.cell?_spot hc0
   subst hspot
   refine .inr ⟨b,off,rfl,fun j hj=>?_⟩
   rw [← add_plain]
   exact hp j hj
theorem open_obv {r:Reach} {b0:Nat} {v:Value} {d:DataW H} {ps:List MemPlace} (hval:Value.okWide Tryz.prog W r b0 38 v) (hd:DataW.Trod enc Tryz.prog W base sp held 38 v d ps) :
  ∃ (vm vc vr:Value) (o:Ob),v=.agg #[vm,vc,vr]∧ObAt W vm vc vr o∧o.code.length≤maxLen∧(L10.Wt 38 d→o.maps.length≤8796093022208∧o.rels.length≤8796093022208):=by
 obtain⟨cs,rfl,hsz⟩:=okWide_struct Tryz.underlying38 hval
 rw [cO] at hsz
 obtain⟨l⟩:=cs
 obtain⟨fuel,hf⟩:=hd
 obtain⟨xs,n,_,hx,_,hlen,hg⟩:=DataW.trod_struct Tryz.underlying38 hf
 match l,hsz,xs,hlen with
 | [c0,c1,c2],_,[y0,y1,y2],_ =>
  have g0:DataW.trod enc Tryz.prog W base sp held n 22 [c0]=some y0:=by simpa [Value.cells,L10.cDs] using hg 0 _ rfl
  have g1:DataW.trod enc Tryz.prog W base sp held n 35 [c1]=some y1:=by simpa [Value.cells,cUs] using hg 1 _ rfl
  have g2:DataW.trod enc Tryz.prog W base sp held n 36 [c2]=some y2:=by simpa [Value.cells,cRs] using hg 2 _ rfl
  obtain⟨q0,m0,k0,z0,r0⟩:=slice_room Tryz.underlying22 (by rw [bD];omega) g0
  obtain⟨q2,m2,k2,z2,r2⟩:=slice_room Tryz.underlying36 (by rw [bR];omega) g2
  obtain⟨v0,l0,e0,h0,f0⟩:=L10.open_defs g0
  obtain⟨v1,l1,e1,h1,f1⟩:=open_byts g1
  obtain⟨v2,l2,e2,h2⟩:=open_rels g2
  simp only [List.cons.injEq,and_true] at e0 e1 e2
  subst e0 e1 e2
  refine⟨c0,c1,c2,⟨l0,l1,l2⟩,rfl,⟨h0,h1,h2⟩,f1,fun hw=>?_⟩
  obtain⟨u0,w0,s0,-⟩:=L10.df_form rfl h0
  obtain⟨u2,w2,s2,-⟩:=ro_form rfl h2
  rw [s0] at z0
  rw [s2] at z2
  cases z0
  cases z2
  have hx1:=congrArg Prod.fst hx
  simp only at hx1
  unfold L10.Wt at hw r0 r2
  rw [hx1] at hw
  simp only [DataW.weights,Tryz.underlying38,List.map_cons,DataW.weightsEach] at hw
  exact⟨r0 fun n hn=>hw n (List.mem_append_left _ hn),r2 fun n hn=>hw n (List.mem_append_right _ (List.mem_append_right _ (List.mem_append_left _ hn)))⟩
end
end Go.Proofs.YtgljoilddjmohaaGreatDoor.L13
