/- Lemmas and walks of L13Op, L16Op: what each theorem states; conditions stand in each theorem. -/
import Derived.Test.YtihiggnglmhggaaGreatDoorMQ
import Derived.Test.YtihiggnglmhggaaGreatDoorMQS
set_option maxHeartbeats 4000000
set_option maxRecDepth 100000
section
section
namespace Go.Proofs.YtihiggnglmhggaaGreatDoor.L13
open Go.ChangeShapes Go.WideShapes Go.ChangeAt Go.RowKit Go.Deep
theorem cR:Tryz.prog.cellsOf 101=2:=by kernel_rfl
theorem cO:Tryz.prog.cellsOf 26=3:=by kernel_rfl
theorem cUs:Tryz.prog.cellsOf 23=1:=by kernel_rfl
theorem cRs:Tryz.prog.cellsOf 24=1:=by kernel_rfl
theorem bD:Tryz.prog.bytesOf 88=40:=by kernel_rfl
theorem bR:Tryz.prog.bytesOf 101=16:=by kernel_rfl
section
variable {H:Type} {enc:TypeId × Value→H} {W:World} {base:Nat} {sp:Nat→Bool} {held:Bool}
theorem slice_room {t e:TypeId} {fuel:Nat} {v:Value} {x:DataW H × List MemPlace} (ht:Tryz.prog.underlying t=some (.slice e)) (hb:16≤Tryz.prog.bytesOf e) (h:DataW.trod enc Tryz.prog W base sp held fuel t [v]=some x) :
  ∃ a n c,v=.slice a n c∧(L10.Wt t x.1→n≤8796093022208):=by
 rcases open_slice ht h with ⟨hcs,-⟩|⟨a,len,cap,m,n,D,Pl,hcs,-,hl,-,hmm,hx,hi⟩
 ·simp only [List.cons.injEq,and_true] at hcs
  exact⟨none,0,0,hcs,fun _=>by omega⟩
 ·simp only [List.cons.injEq,and_true] at hcs
  refine⟨some a,len,cap,hcs,fun hw=>?_⟩
  rw [hx] at hw
  unfold L10.Wt at hw
  simp only [DataW.weights,ht] at hw
  have h1:=hw _ (List.mem_cons_self ..)
  simp only [List.length_map,List.length_range] at h1
  have h2:len*16≤reachBytes:=by
   refine Nat.le_trans ?_ h1
   exact Nat.mul_le_mul (by omega) hb
  unfold reachBytes at h2
  omega
theorem open_rel {fuel:Nat} {cs:List Value} {x:DataW H × List MemPlace} (h:DataW.trod enc Tryz.prog W base sp held fuel 101 cs=some x):∃ d:Int × Int,cs=roL d:=by
 obtain⟨xs,n,_,_,hcl,hlen,hg⟩:=DataW.trod_struct Tryz.underlying101 h
 rw [cR] at hcl
 match cs,hcl,xs,hlen with
 | [c0,c1],_,[y0,y1],_ =>
  have g0:DataW.trod enc Tryz.prog W base sp held n 3 [c0]=some y0:=by simpa [L10.cN] using hg 0 _ rfl
  have g1:DataW.trod enc Tryz.prog W base sp held n 3 [c1]=some y1:=by simpa [L10.cN] using hg 1 _ rfl
  obtain⟨n0,e0,-,-⟩:=DataW.trod_int Tryz.underlying3 g0
  obtain⟨n1,e1,-,-⟩:=DataW.trod_int Tryz.underlying3 g1
  simp only [List.cons.injEq,and_true] at e0 e1
  subst e0 e1
  exact⟨(n0,n1),rfl⟩
theorem open_rels {fuel:Nat} {cs:List Value} {x:DataW H × List MemPlace} (h:DataW.trod enc Tryz.prog W base sp held fuel 24 cs=some x) :
  ∃ v l,cs=[v]∧RoAt W v l:=by
 rcases open_slice Tryz.underlying24 h with ⟨hcs,-⟩|⟨a,len,cap,m,n,D,Pl,hcs,-,hl,-,hmm,-,hi⟩
 ·exact⟨_,[],hcs,.inr ⟨rfl,none,0,rfl⟩⟩
 ·rw [cR] at hi
  have each:∀ i,i<len→∃ d:Int × Int,∀ k u,(roL d)[k]?=some u→W.cell? (a.add (i*2+k))=some u:=by
   intro i hil
   obtain⟨cs',hc,ht⟩:=hi i (by split at hmm <;> omega)
   obtain⟨d,hd⟩:=open_rel ht
   obtain⟨_,hcl,hat⟩:=World.cells?_some hc
   refine⟨d,fun k u hu=>?_⟩
   have hk:k<2:=by
    have:=(List.getElem?_eq_some_iff.1 hu).1
    simpa using this
   rw [← Go.Deep.add_add,hat k hk,hd];exact hu
  obtain⟨l,hll,hp⟩:=L10.list_of len each
  subst hll
  refine⟨_,l,hcs,?_⟩
  by_cases h0:l=[]
  ·exact .inr ⟨h0,some a,cap,by rw [h0];rfl⟩
  ·have hpos:0<l.length:=List.length_pos_iff.2 h0
   have hc0:=hp 0 hpos 0 _ rfl
   obtain⟨b,off,spot⟩:=a
   have hspot:spot=none:=by simpa [Addr.add] using World.cell?_spot hc0
   subst hspot
   have hb:=World.block_lt_of_cell? W _ hc0
   refine .inl ⟨b,off,cap,rfl,hb,fun j hj=>⟨?_,?_⟩⟩
   ·rw [← add_plain]
    exact hp j hj 0 _ rfl
   ·rw [Nat.add_assoc,← add_plain]
    exact hp j hj 1 _ rfl
end
end Go.Proofs.YtihiggnglmhggaaGreatDoor.L13
end
section
namespace Go.Proofs.YtihiggnglmhggaaGreatDoor.L16
open Go.ChangeShapes Go.WideShapes Go.ChangeAt Go.RowKit Go.Deep L14 L15
open L13 (Ob)
attribute [local go_sem] Oper.semAt_some
section
variable {H:Type} {enc:TypeId × Value→H} {W:World} {base:Nat} {sp:Nat→Bool} {held:Bool}
theorem open_data {fuel:Nat} {cs:List Value} {x:DataW H × List MemPlace} (h:DataW.trod enc Tryz.prog W base sp held fuel 23 cs=some x):∃ v l,cs=[v]∧Rw eB W v l∧l.length≤maxLen:=by
 rcases open_ints Tryz.underlying23 Tryz.underlying5 cells5 h with ⟨hcs,-⟩|⟨a,len,cap,zs,hcs,_,hl,hm,hz,-,hcell,hwz⟩
 ·exact⟨_,[],hcs,Rw.nil _ _,by simp⟩
 ·obtain⟨l,hle⟩:∃ l:List UInt8,l=(zs.take len).map fun z=>UInt8.ofNat z.toNat:=⟨_,rfl⟩
  have hzl:len≤zs.length:=by split at hz <;> omega
  have hll:l.length=len:=by rw [hle,List.length_map,List.length_take];omega
  refine⟨_,l,hcs,⟨some a,cap,by rw [hll],by omega,fun e=>(by cases e),fun hp=>?_⟩,by omega⟩
  obtain⟨b,off,spot⟩:=a
  have hspot:spot=none:=by simpa [Addr.add] using World.cell?_spot (hcell 0 (by omega))
  subst hspot
  refine⟨b,off,rfl,World.block_lt_of_cell? W _ (hcell 0 (by omega)),fun j hj=>?_⟩
  have hjl:j<len:=by omega
  have h1:(l[j].toNat:Int)=zs.getD j 0:=by
   have e:l[j]=UInt8.ofNat (zs[j]'(by omega)).toNat:=by simp [hle]
   rw [e,byte_of (hwz _ (List.getElem_mem _))]
   simp [List.getD,show j<zs.length by omega]
  unfold eB
  rw [h1,← Go.WideShapes.add_plain]
  exact hcell j (by omega)
theorem open_ob16 {r:Reach} {b0:Nat} {v:Value} {d:DataW H} {ps:List MemPlace} (hval:Value.okWide Tryz.prog W r b0 26 v) (hd:DataW.Trod enc Tryz.prog W base sp held 26 v d ps) :
  ∃ (vm vc vr:Value) (o:Ob),v=.agg #[vm,vc,vr]∧OA W vm vc vr o∧(L10.Wt 26 d→OW o):=by
 obtain⟨cs,rfl,hsz⟩:=okWide_struct Tryz.underlying26 hval
 rw [L13.cO] at hsz
 obtain⟨l⟩:=cs
 obtain⟨fuel,hf⟩:=hd
 obtain⟨xs,n,_,hx,_,hlen,hg⟩:=DataW.trod_struct Tryz.underlying26 hf
 match l,hsz,xs,hlen with
 | [c0,c1,c2],_,[y0,y1,y2],_ =>
  have g0:DataW.trod enc Tryz.prog W base sp held n 22 [c0]=some y0:=by simpa [Value.cells,L10.cDs] using hg 0 _ rfl
  have g1:DataW.trod enc Tryz.prog W base sp held n 23 [c1]=some y1:=by simpa [Value.cells,L13.cUs] using hg 1 _ rfl
  have g2:DataW.trod enc Tryz.prog W base sp held n 24 [c2]=some y2:=by simpa [Value.cells,L13.cRs] using hg 2 _ rfl
  obtain⟨q0,m0,k0,z0,r0⟩:=L13.slice_room Tryz.underlying22 (by rw [L13.bD];omega) g0
  obtain⟨q2,m2,k2,z2,r2⟩:=L13.slice_room Tryz.underlying24 (by rw [L13.bR];omega) g2
  obtain⟨v0,l0,e0,h0,f0⟩:=L10.open_defs g0
  obtain⟨v1,l1,e1,h1,f1⟩:=open_data g1
  obtain⟨v2,l2,e2,h2⟩:=L13.open_rels g2
  simp only [List.cons.injEq,and_true] at e0 e1 e2
  subst e0 e1 e2
  refine⟨c0,c1,c2,⟨l0,l1,l2⟩,rfl,⟨h0,h1,h2⟩,fun hw=>?_⟩
  obtain⟨u0,w0,s0,-⟩:=L10.df_form rfl h0
  obtain⟨u2,w2,s2,-⟩:=L13.ro_form rfl h2
  rw [s0] at z0
  rw [s2] at z2
  cases z0
  cases z2
  have hx1:=congrArg Prod.fst hx
  simp only at hx1
  unfold L10.Wt at hw r0 r2
  rw [hx1] at hw
  simp only [DataW.weights,Tryz.underlying26,List.map_cons,DataW.weightsEach] at hw
  exact⟨r0 fun n hn=>hw n (List.mem_append_left _ hn),f1,r2 fun n hn=>hw n (List.mem_append_right _ (List.mem_append_right _ (List.mem_append_left _ hn))),fun d hd=>(f0 d hd).nm⟩
end
abbrev Sm16 (o:Ob):Prop:=o.code.length≤4000∧o.maps.length≤300∧o.rels.length≤500
theorem OW.os {o:Ob} (h:OW o) (hs:Sm16 o):OS o:=⟨by omega,by omega,by omega,h.z⟩
theorem few_no (a1 a2 a3:Option Addr) (n1 n2 n3 c1 c2 c3:Nat) (w:World) (h1:n1≤8796093022208) (h2:n2≤maxLen) (h3:n3≤8796093022208) (h:¬ (n2≤4000∧n1≤300∧n3≤500)) :
  Calls Tryz.prog 9 #[.agg #[.slice a1 n1 c1,.slice a2 n2 c2,.slice a3 n3 c3]] w fun e w'=>e=.returned (.int .i64 0)∧Below w.heap.size w w':=by
 unfold maxLen at h2
 have HB:=Lib.hid (L8.bnew w (.cells #[.slice a1 n1 c1,.slice a2 n2 c2,.slice a3 n3 c3] 26))
 by_cases k2:4000<n2
 ·have t2:=gt_t (a:=(n2:Int)) (b:=4000) (by omega)
  clear h
  go_enter Tryz.func9,Tryz.ntmps9
  go_wp2
  go_ret
  exact⟨rfl,HB.out⟩
 ·have t2:=gt_f (a:=(n2:Int)) (b:=4000) (by omega)
  by_cases k1:300<n1
  ·have t1:=gt_t (a:=(n1:Int)) (b:=300) (by omega)
   clear h
   go_enter Tryz.func9,Tryz.ntmps9
   go_wp2
   go_ret
   exact⟨rfl,HB.out⟩
  ·have t1:=gt_f (a:=(n1:Int)) (b:=300) (by omega)
   have t3:=gt_t (a:=(n3:Int)) (b:=500) (by omega)
   clear h
   go_enter Tryz.func9,Tryz.ntmps9
   go_wp2
   go_ret
   exact⟨rfl,HB.out⟩
theorem few_yes (a1 a2 a3:Option Addr) (n1 n2 n3 c1 c2 c3:Nat) (w:World) (h:n2≤4000∧n1≤300∧n3≤500) :
  Calls Tryz.prog 9 #[.agg #[.slice a1 n1 c1,.slice a2 n2 c2,.slice a3 n3 c3]] w fun e w'=>e=.returned (.int .i64 1)∧Below w.heap.size w w':=by
 have HB:=Lib.hid (L8.bnew w (.cells #[.slice a1 n1 c1,.slice a2 n2 c2,.slice a3 n3 c3] 26))
 have t2:=gt_f (a:=(n2:Int)) (b:=4000) (by omega)
 have t1:=gt_f (a:=(n1:Int)) (b:=300) (by omega)
 have t3:=gt_f (a:=(n3:Int)) (b:=500) (by omega)
 have hh:=Lib.hid h
 clear h
 go_enter Tryz.func9,Tryz.ntmps9
 go_wp2
 go_ret
 exact⟨rfl,HB.out⟩
end Go.Proofs.YtihiggnglmhggaaGreatDoor.L16
end
end
