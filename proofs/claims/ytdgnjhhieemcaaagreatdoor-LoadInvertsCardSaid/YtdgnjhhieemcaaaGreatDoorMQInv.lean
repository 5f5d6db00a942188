/- Lemmas and walks of L10Opn, L14Op, L13Op, L16Op, L18Li, Invw: what each theorem states; conditions stand in each theorem. -/
import Derived.Test.YtdgnjhhieemcaaaGreatDoorM32
import Derived.Test.YtdgnjhhieemcaaaGreatDoorCards
import Derived.Test.YtdgnjhhieemcaaaGreatDoorTie
set_option maxHeartbeats 8000000
set_option maxRecDepth 100000
section
section
namespace Go.Proofs.YtdgnjhhieemcaaaGreatDoor.L10
open Go.ChangeShapes Go.WideShapes Go.ChangeAt Go.RowKit Go.Deep
theorem cDs:Tryz.prog.cellsOf 22=1:=by kernel_rfl
section
variable {H:Type} {enc:TypeId × Value→H} {W:World} {base:Nat} {sp:Nat→Bool} {held:Bool}
end
end Go.Proofs.YtdgnjhhieemcaaaGreatDoor.L10
end
section
namespace Go.Proofs.YtdgnjhhieemcaaaGreatDoor.L14
open Go.ChangeShapes Go.WideShapes Go.ChangeAt Go.RowKit Go.Deep
theorem cells5:Tryz.prog.cellsOf 5=1:=by kernel_rfl
theorem byte_of {z:Int} (h:(Lit.int .u8 z).wf=true):((UInt8.ofNat z.toNat).toNat:Int)=z:=by
 have:=bounds_u8 h
 rw [UInt8.toNat_ofNat',Nat.mod_eq_of_lt (by omega)]
 omega
section
variable {H:Type} {enc:TypeId × Value→H} {W:World} {base:Nat} {sp:Nat→Bool} {held:Bool} {r:Reach} {b0:Nat} {v:Value} {d:DataW H} {ps:List MemPlace}
end
end Go.Proofs.YtdgnjhhieemcaaaGreatDoor.L14
end
section
namespace Go.Proofs.YtdgnjhhieemcaaaGreatDoor.L13
open Go.ChangeShapes Go.WideShapes Go.ChangeAt Go.RowKit Go.Deep
theorem cR:Tryz.prog.cellsOf 76=2:=by kernel_rfl
theorem cO:Tryz.prog.cellsOf 26=3:=by kernel_rfl
theorem cUs:Tryz.prog.cellsOf 23=1:=by kernel_rfl
theorem cRs:Tryz.prog.cellsOf 24=1:=by kernel_rfl
theorem bD:Tryz.prog.bytesOf 83=40:=by kernel_rfl
theorem bR:Tryz.prog.bytesOf 76=16:=by kernel_rfl
section
variable {H:Type} {enc:TypeId × Value→H} {W:World} {base:Nat} {sp:Nat→Bool} {held:Bool}
theorem slice_room {t e:TypeId} {fuel:Nat} {v:Value} {x:DataW H × List MemPlace} (ht:Tryz.prog.underlying t=some (.slice e)) (hb:16≤Tryz.prog.bytesOf e) (h:DataW.trod enc Tryz.prog W base sp held fuel t [v]=some x) :
  ∃ a n c,v=.slice a n c∧(L10.Wt t x.1→n≤8796093022208):=by
 rcases open_slice ht h with ⟨hcs,-⟩|⟨a,len,cap,m,n,D,Pl,hcs,-,hl,-,hmm,hx,hi⟩
 ·simp only [List.cons.injEq,and_true] at hcs
  exact⟨none,0,0,hcs,fun _=>by omega⟩
 ·simp only [List.cons.injEq,and_true] at hcs
  refine⟨some a,len,cap,hcs,fun hw=>?_⟩
  rw [hx] at hw
  unfold L10.Wt at hw
  simp only [DataW.weights,ht] at hw
  have h1:=hw _ (List.mem_cons_self ..)
  simp only [List.length_map,List.length_range] at h1
  have h2:len*16≤reachBytes:=by
   refine Nat.le_trans ?_ h1
   exact Nat.mul_le_mul (by omega) hb
  unfold reachBytes at h2
  omega
theorem open_rel {fuel:Nat} {cs:List Value} {x:DataW H × List MemPlace} (h:DataW.trod enc Tryz.prog W base sp held fuel 76 cs=some x):∃ d:Int × Int,cs=roL d:=by
 obtain⟨xs,n,_,_,hcl,hlen,hg⟩:=DataW.trod_struct Tryz.underlying76 h
 rw [cR] at hcl
 match cs,hcl,xs,hlen with
 | [c0,c1],_,[y0,y1],_ =>
  have g0:DataW.trod enc Tryz.prog W base sp held n 3 [c0]=some y0:=by simpa [L10.cN] using hg 0 _ rfl
  have g1:DataW.trod enc Tryz.prog W base sp held n 3 [c1]=some y1:=by simpa [L10.cN] using hg 1 _ rfl
  obtain⟨n0,e0,-,-⟩:=DataW.trod_int Tryz.underlying3 g0
  obtain⟨n1,e1,-,-⟩:=DataW.trod_int Tryz.underlying3 g1
  simp only [List.cons.injEq,and_true] at e0 e1
  subst e0 e1
  exact⟨(n0,n1),rfl⟩
theorem open_rels {fuel:Nat} {cs:List Value} {x:DataW H × List MemPlace} (h:DataW.trod enc Tryz.prog W base sp held fuel 24 cs=some x) :
  ∃ v l,cs=[v]∧RoAt W v l:=by
 rcases open_slice Tryz.underlying24 h with ⟨hcs,-⟩|⟨a,len,cap,m,n,D,Pl,hcs,-,hl,-,hmm,-,hi⟩
 ·exact⟨_,[],hcs,.inr ⟨rfl,none,0,rfl⟩⟩
 ·rw [cR] at hi
  have each:∀ i,i<len→∃ d:Int × Int,∀ k u,(roL d)[k]?=some u→W.cell? (a.add (i*2+k))=some u:=by
   intro i hil
   obtain⟨cs',hc,ht⟩:=hi i (by split at hmm <;> omega)
   obtain⟨d,hd⟩:=open_rel ht
   obtain⟨_,hcl,hat⟩:=World.cells?_some hc
   refine⟨d,fun k u hu=>?_⟩
   have hk:k<2:=by
    have:=(List.getElem?_eq_some_iff.1 hu).1
    simpa using this
   rw [← Go.Deep.add_add,hat k hk,hd];exact hu
  obtain⟨l,hll,hp⟩:=L10.list_of len each
  subst hll
  refine⟨_,l,hcs,?_⟩
  by_cases h0:l=[]
  ·exact .inr ⟨h0,some a,cap,by rw [h0];rfl⟩
  ·have hpos:0<l.length:=List.length_pos_iff.2 h0
   have hc0:=hp 0 hpos 0 _ rfl
   obtain⟨b,off,spot⟩:=a
   have hspot:spot=none:=by simpa [Addr.add] using World.cell?_spot hc0
   subst hspot
   have hb:=World.block_lt_of_cell? W _ hc0
   refine .inl ⟨b,off,cap,rfl,hb,fun j hj=>⟨?_,?_⟩⟩
   ·rw [← add_plain]
    exact hp j hj 0 _ rfl
   ·rw [Nat.add_assoc,← add_plain]
    exact hp j hj 1 _ rfl
end
end Go.Proofs.YtdgnjhhieemcaaaGreatDoor.L13
end
section
namespace Go.Proofs.YtdgnjhhieemcaaaGreatDoor.L16
open Go.ChangeShapes Go.WideShapes Go.ChangeAt Go.RowKit Go.Deep L14 L15
open L13 (Ob)
attribute [local go_sem] Oper.semAt_some
section
variable {H:Type} {enc:TypeId × Value→H} {W:World} {base:Nat} {sp:Nat→Bool} {held:Bool}
theorem open_data {fuel:Nat} {cs:List Value} {x:DataW H × List MemPlace} (h:DataW.trod enc Tryz.prog W base sp held fuel 23 cs=some x):∃ v l,cs=[v]∧Rw eB W v l∧l.length≤maxLen:=by
 rcases open_ints Tryz.underlying23 Tryz.underlying5 cells5 h with ⟨hcs,-⟩|⟨a,len,cap,zs,hcs,_,hl,hm,hz,-,hcell,hwz⟩
 ·exact⟨_,[],hcs,Rw.nil _ _,by simp⟩
 ·obtain⟨l,hle⟩:∃ l:List UInt8,l=(zs.take len).map fun z=>UInt8.ofNat z.toNat:=⟨_,rfl⟩
  have hzl:len≤zs.length:=by split at hz <;> omega
  have hll:l.length=len:=by rw [hle,List.length_map,List.length_take];omega
  refine⟨_,l,hcs,⟨some a,cap,by rw [hll],by omega,fun e=>(by cases e),fun hp=>?_⟩,by omega⟩
  obtain⟨b,off,spot⟩:=a
  have hspot:spot=none:=by simpa [Addr.add] using World.cell?_spot (hcell 0 (by omega))
  subst hspot
  refine⟨b,off,rfl,World.block_lt_of_cell? W _ (hcell 0 (by omega)),fun j hj=>?_⟩
  have hjl:j<len:=by omega
  have h1:(l[j].toNat:Int)=zs.getD j 0:=by
   have e:l[j]=UInt8.ofNat (zs[j]'(by omega)).toNat:=by simp [hle]
   rw [e,byte_of (hwz _ (List.getElem_mem _))]
   simp [List.getD,show j<zs.length by omega]
  unfold eB
  rw [h1,← Go.WideShapes.add_plain]
  exact hcell j (by omega)
theorem open_ob16 {r:Reach} {b0:Nat} {v:Value} {d:DataW H} {ps:List MemPlace} (hval:Value.okWide Tryz.prog W r b0 26 v) (hd:DataW.Trod enc Tryz.prog W base sp held 26 v d ps) :
  ∃ (vm vc vr:Value) (o:Ob),v=.agg #[vm,vc,vr]∧OA W vm vc vr o∧(L10.Wt 26 d→OW o):=by
 obtain⟨cs,rfl,hsz⟩:=okWide_struct Tryz.underlying26 hval
 rw [L13.cO] at hsz
 obtain⟨l⟩:=cs
 obtain⟨fuel,hf⟩:=hd
 obtain⟨xs,n,_,hx,_,hlen,hg⟩:=DataW.trod_struct Tryz.underlying26 hf
 match l,hsz,xs,hlen with
 | [c0,c1,c2],_,[y0,y1,y2],_ =>
  have g0:DataW.trod enc Tryz.prog W base sp held n 22 [c0]=some y0:=by simpa [Value.cells,L10.cDs] using hg 0 _ rfl
  have g1:DataW.trod enc Tryz.prog W base sp held n 23 [c1]=some y1:=by simpa [Value.cells,L13.cUs] using hg 1 _ rfl
  have g2:DataW.trod enc Tryz.prog W base sp held n 24 [c2]=some y2:=by simpa [Value.cells,L13.cRs] using hg 2 _ rfl
  obtain⟨q0,m0,k0,z0,r0⟩:=L13.slice_room Tryz.underlying22 (by rw [L13.bD];omega) g0
  obtain⟨q2,m2,k2,z2,r2⟩:=L13.slice_room Tryz.underlying24 (by rw [L13.bR];omega) g2
  obtain⟨v0,l0,e0,h0,f0⟩:=L10.open_defs g0
  obtain⟨v1,l1,e1,h1,f1⟩:=open_data g1
  obtain⟨v2,l2,e2,h2⟩:=L13.open_rels g2
  simp only [List.cons.injEq,and_true] at e0 e1 e2
  subst e0 e1 e2
  refine⟨c0,c1,c2,⟨l0,l1,l2⟩,rfl,⟨h0,h1,h2⟩,fun hw=>?_⟩
  obtain⟨u0,w0,s0,-⟩:=L10.df_form rfl h0
  obtain⟨u2,w2,s2,-⟩:=L13.ro_form rfl h2
  rw [s0] at z0
  rw [s2] at z2
  cases z0
  cases z2
  have hx1:=congrArg Prod.fst hx
  simp only at hx1
  unfold L10.Wt at hw r0 r2
  rw [hx1] at hw
  simp only [DataW.weights,Tryz.underlying26,List.map_cons,DataW.weightsEach] at hw
  exact⟨r0 fun n hn=>hw n (List.mem_append_left _ hn),f1,r2 fun n hn=>hw n (List.mem_append_right _ (List.mem_append_right _ (List.mem_append_left _ hn))),fun d hd=>(f0 d hd).nm⟩
end
abbrev Sm16 (o:Ob):Prop:=o.code.length≤4000∧o.maps.length≤300∧o.rels.length≤500
theorem OW.os {o:Ob} (h:OW o) (hs:Sm16 o):OS o:=⟨by omega,by omega,by omega,h.z⟩
theorem OA.form {w:World} {vm vc vr:Value} {o:Ob} (h:OA w vm vc vr o):∃ a1 c1 a2 c2 a3 c3,vm=.slice a1 o.maps.length c1∧vc=.slice a2 o.code.length c2∧vr=.slice a3 o.rels.length c3:=by
 obtain⟨a1,c1,h1,-⟩:=L10.df_form rfl h.m
 obtain⟨a2,c2,h2,-⟩:=h.c.form rfl
 obtain⟨a3,c3,h3,-⟩:=L13.ro_form rfl h.r
 exact⟨_,_,_,_,_,_,h1,h2,h3⟩
theorem few_no (a1 a2 a3:Option Addr) (n1 n2 n3 c1 c2 c3:Nat) (w:World) (h1:n1≤8796093022208) (h2:n2≤maxLen) (h3:n3≤8796093022208) (h:¬ (n2≤4000∧n1≤300∧n3≤500)) :
  Calls Tryz.prog 9 #[.agg #[.slice a1 n1 c1,.slice a2 n2 c2,.slice a3 n3 c3]] w fun e w'=>e=.returned (.int .i64 0)∧Below w.heap.size w w':=by
 unfold maxLen at h2
 have HB:=Lib.hid (L8.bnew w (.cells #[.slice a1 n1 c1,.slice a2 n2 c2,.slice a3 n3 c3] 26))
 by_cases k2:4000<n2
 ·have t2:=gt_t (a:=(n2:Int)) (b:=4000) (by omega)
  clear h
  go_enter Tryz.func9,Tryz.ntmps9
  go_wp2
  go_ret
  exact⟨rfl,HB.out⟩
 ·have t2:=gt_f (a:=(n2:Int)) (b:=4000) (by omega)
  by_cases k1:300<n1
  ·have t1:=gt_t (a:=(n1:Int)) (b:=300) (by omega)
   clear h
   go_enter Tryz.func9,Tryz.ntmps9
   go_wp2
   go_ret
   exact⟨rfl,HB.out⟩
  ·have t1:=gt_f (a:=(n1:Int)) (b:=300) (by omega)
   have t3:=gt_t (a:=(n3:Int)) (b:=500) (by omega)
   clear h
   go_enter Tryz.func9,Tryz.ntmps9
   go_wp2
   go_ret
   exact⟨rfl,HB.out⟩
theorem few_yes (a1 a2 a3:Option Addr) (n1 n2 n3 c1 c2 c3:Nat) (w:World) (h:n2≤4000∧n1≤300∧n3≤500) :
  Calls Tryz.prog 9 #[.agg #[.slice a1 n1 c1,.slice a2 n2 c2,.slice a3 n3 c3]] w fun e w'=>e=.returned (.int .i64 1)∧Below w.heap.size w w':=by
 have HB:=Lib.hid (L8.bnew w (.cells #[.slice a1 n1 c1,.slice a2 n2 c2,.slice a3 n3 c3] 26))
 have t2:=gt_f (a:=(n2:Int)) (b:=4000) (by omega)
 have t1:=gt_f (a:=(n1:Int)) (b:=300) (by omega)
 have t3:=gt_f (a:=(n3:Int)) (b:=500) (by omega)
 have hh:=Lib.hid h
 clear h
 go_enter Tryz.func9,Tryz.ntmps9
 go_wp2
 go_ret
 exact⟨rfl,HB.out⟩
end Go.Proofs.YtdgnjhhieemcaaaGreatDoor.L16
end
section
namespace Go.Proofs.YtdgnjhhieemcaaaGreatDoor.L18
open Go.RowKit L3 L4 L12 L14 L17
open L13 (Ob)
open L16 (chE OA OS OW Sm16 Tb tb_below)
attribute [local go_sem] Oper.semAt_some
theorem oa_ob' {W:World} {vm vc vr:Value} {o:Ob} (h:OA W vm vc vr o) (hc:o.code.length≤100000):L13.ObAt W vm vc vr o:=⟨h.m,(rw_bs h.c hc).v,h.r⟩
theorem os_s {o:Ob} (h:OS o):L13.ObS o:=⟨h.m,h.c,h.r⟩
theorem ld_fits {o:Ob} (h:Vd o) (hm:o.maps.length≤100000):∀ x∈ldL o,L5.Ix.fits (L13.tI x):=by
 intro x hx
 obtain⟨i,hi,rfl⟩:=List.mem_iff_getElem.1 hx
 have hln:(ldL o).length=(inL o.code).length:=imL_len _ _
 have hi2:i<(inL o.code).length:=by rwa [hln] at hi
 have hf:=(rdC_good h.la).2 _ (List.getElem_mem hi2)
 rw [← atI_is hi,show atI (ldL o) i=if isRf (atI (inL o.code) i)=true then wI (atI (inL o.code) i) (syL o.rels (stN (inL o.code) i:Int) 0) else atI (inL o.code) i from imL_at hi2]
 split
 ·rename_i hr
  have hg:=L16.gd_of h.ch
  obtain⟨k1,k2,k3⟩:=rlF_lt _ _ _ _ hg.rl
  have ha:=h.at' hi2
  rw [hr] at ha
  unfold hasR at ha
  rw [List.any_eq_true] at ha
  obtain⟨p,hp,hpe⟩:=ha
  have hpe:p.1=(stN (inL o.code) i:Int):=by simpa using hpe
  rw [← hpe,syL_mem _ _ k2 p hp]
  have:=k3 p hp
  exact⟨by show -9223372036854775808≤p.2;omega,by show p.2≤9223372036854775807;omega⟩
 ·rw [atI_is hi2]
  exact hf.2
theorem ld_len {o:Ob} (h:Vd o) (hc:o.code.length≤100000):(ldL o).length≤100000:=by
 have hll:=len_le (inL o.code) (inL_sl h.la)
 have hlc:=inL_len h.la
 have hln:(ldL o).length=(inL o.code).length:=imL_len _ _
 omega
theorem st_ld {o:Ob} (h:Vd o) (hv:(vE o).2=0):true=true↔StOk o.maps (ldL o):=by
 unfold StOk
 rw [un_im h]
 exact⟨fun _=>⟨hv,rfl⟩,fun _=>rfl⟩
section
variable (vm vc vr:Value) (o:Ob) (w:World) (ho:OA w vm vc vr o) (hw:OW o) (hT:T18 w)
include ho hw hT
theorem inverts_walk:Calls Tryz.prog 6 #[.agg #[vm,vc,vr]] w fun e w'=>e=.returned (.bool true)∧Below w.heap.size w w':=by
 have HA:=Lib.hid (fun (W:World) (h:Below w.heap.size w W)=>alive18 W (hT.below h))
 have HO:=Lib.hid (fun (W:World) (h:Below w.heap.size w W)=>And.intro (ho.below h) (show Tb W from (hT.below h).two))
 obtain⟨⟨S,E⟩,hE⟩:∃ p,vE o=p:=⟨_,rfl⟩
 obtain⟨a1,c1,a2,c2,a3,c3,rfl,rfl,rfl⟩:=oa_form ho
 by_cases hs:Sm16 o
 ·have hos:=hw.os hs
  have HF:=Lib.hid (fun (W:World)=>L16.few_yes a1 a2 a3 o.maps.length o.code.length o.rels.length c1 c2 c3 W hs)
  obtain⟨d,hd⟩:∃ d,o.maps.length=d:=⟨_,rfl⟩
  obtain⟨cl,hcl⟩:∃ d,o.code.length=d:=⟨_,rfl⟩
  obtain⟨rl,hrl⟩:∃ d,o.rels.length=d:=⟨_,rfl⟩
  have HD:=Lib.hid (And.intro hd (And.intro hcl hrl))
  rw [hd,hcl,hrl] at HO HF
  rw [hd,hcl,hrl]
  have K0:=Lib.hid (heap_alloc_last w (ob3 (.slice a1 d c1) (.slice a2 cl c2) (.slice a3 rl c3)))
  have HB:=Lib.hid (bnew w (ob3 (.slice a1 d c1) (.slice a2 cl c2) (.slice a3 rl c3)))
  by_cases h0:E=0
  ·subst h0
   have hV:=vd_of (o:=o) (by rw [hE])
   obtain⟨n,hn⟩:∃ n,(inL o.code).length=n:=⟨_,rfl⟩
   have HL:=Lib.hid (fun (x y z:Value) (X:World) (hX:Below w.heap.size w X) (h:OA X x y z o)=>(load_yes x y z o S n X h hos (HO.out X hX).2 hE hn).mono (fun e w' h=>ld_q h hd))
   have HS:=Lib.hid (fun (x y:Value) (X:World) (hX:Below w.heap.size w X) (h1:L10.DfAt X x o.maps) (h2:IsAt X y (ldL o))=>store_at x y o.maps (ldL o) true X hos.m (ld_len hV hos.c) h1 h2 (ld_fits hV hos.m) (HO.out X hX).2 (by rw [un_im hV];exact hos) (st_ld hV (by rw [hE])))
   have HQ:=Lib.hid (fun (x y z x' y' z':Value) (X:World) (h:OA X x y z o) (h':OA X x' y' z' o)=>L13.rsame13_at x y z x' y' z' o o true X (oa_ob' h hos.c) (oa_ob' h' hos.c) (os_s hos) (os_s hos) (by simp))
   have HM:=Lib.hid (fun (x y x' y':Value) (X:World) (h1:L10.DfAt X x o.maps) (h2:IsAt X y (ldL o)) (h3:L10.DfAt X x' o.maps) (h4:IsAt X y' (ldL o))=>lsame_at x y x' y' o.maps o.maps (ldL o) (ldL o) true X hos.m hos.m (ld_len hV hos.c) (ld_len hV hos.c) h1 h2 h3 h4 (by simp))
   unfold StP at HS
   rw [un_im hV] at HS
   clear ho hw hT hE hV hos hn hd hcl hrl
   go_enter Tryz.func6,Tryz.ntmps6
   go_upto_region 6 with (first
    | (go_at_call 9;((with_reducible refine (HF.out _).mono ?_);rintro e w1 ⟨rfl,b1⟩;have B1:=bch HB.out b1;obtain⟨x0,x1,x2⟩:=L13.cells3 (L8.row_up K0.out b1)))
    | (go_at_call 11;((with_reducible refine (HL.out _ _ _ _ B1 (HO.out _ B1).1).mono ?_);rintro e w2 ⟨⟨am,cm,ac,cc,rfl,hi⟩,b2⟩)))
   have hk1:=L8.row_up (L8.row_up K0.out b1) (bch b2 (bnew w2 (im2 (.slice am d cm) (.slice ac n cc))))
   have hk2:=heap_alloc_last w2 (im2 (.slice am d cm) (.slice ac n cc))
   have B2:=bch (bch B1 b2) (bnew w2 (im2 (.slice am d cm) (.slice ac n cc)))
   have hi2:=hi.below (bnew w2 (im2 (.slice am d cm) (.slice ac n cc)))
   have hdf:=hi2.df
   have his:=hi2.is
   change Code.wp _ _ _ _ (w2.alloc (im2 (.slice am d cm) (.slice ac n cc)))
   obtain⟨q2,hq⟩:∃ q,w2.heap.size=q:=⟨_,rfl⟩
   rw [hq] at hk2 ⊢
   clear hq hi hi2 b1 b2 B1 x0 x1 x2 HF
   generalize w2.alloc (im2 (.slice am d cm) (.slice ac n cc))=W2 at *
   obtain⟨x0,x1⟩:=cells2 hk2
   go_upto_region 7 with (go_at_call 18;((with_reducible refine (HS.out _ _ _ B2 hdf his).mono ?_);rintro e w3 ⟨⟨vm,vc,vr,rfl,hq3⟩,b3⟩;obtain⟨d1,e1,d2,e2,d3,e3,rfl,rfl,rfl⟩:=oa_form hq3))
   rw [HD.out.1,HD.out.2.1,HD.out.2.2] at hq3
   simp only [HD.out.1,HD.out.2.1,HD.out.2.2]
   have gk1:=L8.row_up hk1 (bch b3 (bnew w3 (ob3 (.slice d1 d e1) (.slice d2 cl e2) (.slice d3 rl e3))))
   have gk2:=L8.row_up hk2 (bch b3 (bnew w3 (ob3 (.slice d1 d e1) (.slice d2 cl e2) (.slice d3 rl e3))))
   have gk3:=heap_alloc_last w3 (ob3 (.slice d1 d e1) (.slice d2 cl e2) (.slice d3 rl e3))
   have B3:=bch (bch B2 b3) (bnew w3 (ob3 (.slice d1 d e1) (.slice d2 cl e2) (.slice d3 rl e3)))
   have hq4:=hq3.below (bnew w3 (ob3 (.slice d1 d e1) (.slice d2 cl e2) (.slice d3 rl e3)))
   have hdf3:=(hdf.below b3).below (bnew w3 (ob3 (.slice d1 d e1) (.slice d2 cl e2) (.slice d3 rl e3)))
   have his3:=(his.below b3).below (bnew w3 (ob3 (.slice d1 d e1) (.slice d2 cl e2) (.slice d3 rl e3)))
   change Code.wp _ _ _ _ (w3.alloc (ob3 (.slice d1 d e1) (.slice d2 cl e2) (.slice d3 rl e3)))
   obtain⟨q3,hq⟩:∃ q,w3.heap.size=q:=⟨_,rfl⟩
   rw [hq] at gk3 ⊢
   clear hq hq3 b3 B2 x0 x1 hk1 hk2 hdf his HS
   generalize w3.alloc (ob3 (.slice d1 d e1) (.slice d2 cl e2) (.slice d3 rl e3))=W3 at *
   obtain⟨x0,x1,x2⟩:=L13.cells3 gk3
   go_upto_region 8 with (go_at_call 11;((with_reducible refine (HL.out _ _ _ _ B3 hq4).mono ?_);rintro e w4 ⟨⟨am4,cm4,ac4,cc4,rfl,hi4⟩,b4⟩))
   have n4:=bch b4 (bnew w4 (im2 (.slice am4 d cm4) (.slice ac4 n cc4)))
   have j1:=L8.row_up gk1 n4
   have j2:=L8.row_up gk2 n4
   have j3:=L8.row_up gk3 n4
   have j4:=heap_alloc_last w4 (im2 (.slice am4 d cm4) (.slice ac4 n cc4))
   have B4:=bch B3 n4
   have hi5:=hi4.below (bnew w4 (im2 (.slice am4 d cm4) (.slice ac4 n cc4)))
   have hd5:=hi5.df
   have hs5:=hi5.is
   have hq5:=hq4.below n4
   have hdf4:=hdf3.below n4
   have his4:=his3.below n4
   change Code.wp _ _ _ _ (w4.alloc (im2 (.slice am4 d cm4) (.slice ac4 n cc4)))
   obtain⟨q4,hq⟩:∃ q,w4.heap.size=q:=⟨_,rfl⟩
   rw [hq] at j4 ⊢
   clear hq hi4 hi5 b4 n4 x0 x1 x2 gk1 gk2 gk3 hq4 hdf3 his3 HL B3
   generalize w4.alloc (im2 (.slice am4 d cm4) (.slice ac4 n cc4))=W4 at *
   go_wp2_with (first
    | (go_at_call 10;((with_reducible refine (HA.out _ B4).mono ?_);rintro e w5 ⟨rfl,b5⟩;obtain⟨x0,x1,x2⟩:=L13.cells3 (L8.row_up j1 b5);obtain⟨y0,y1,y2⟩:=L13.cells3 (L8.row_up j3 b5)))
    | (go_at_call 20;((with_reducible refine (HQ.out _ _ _ _ _ _ _ (HO.out _ (bch B4 b5)).1 (hq5.below b5)).mono ?_);rintro e w6 ⟨rfl,b6⟩;have b56:=bch b5 b6;obtain⟨u0,u1⟩:=cells2 (L8.row_up j2 b56);obtain⟨v0,v1⟩:=cells2 (L8.row_up j4 b56)))
    | (go_at_call 21;((with_reducible refine (HM.out _ _ _ _ _ (hdf4.below b56) (his4.below b56) (hd5.below b56) (hs5.below b56)).mono ?_);rintro e w7 ⟨rfl,b7⟩)))
   go_ret
   exact⟨rfl,bch B4 (bch b56 b7)⟩
  ·have h0b:(E != 0)=true:=by simpa using h0
   have HL:=Lib.hid (fun (x y z:Value) (X:World) (hX:Below w.heap.size w X) (h:OA X x y z o)=>load_no x y z o S E X h hos (HO.out X hX).2 hE h0)
   clear ho hw hT hE hos hd hcl hrl h0
   go_enter Tryz.func6,Tryz.ntmps6
   go_wp2_with (first
    | (go_at_call 9;((with_reducible refine (HF.out _).mono ?_);rintro e w1 ⟨rfl,b1⟩;have B1:=bch HB.out b1;obtain⟨x0,x1,x2⟩:=L13.cells3 (L8.row_up K0.out b1)))
    | (go_at_call 11;((with_reducible refine (HL.out _ _ _ _ B1 (HO.out _ B1).1).mono ?_);rintro e w2 ⟨rfl,b2⟩;have B2:=bch B1 b2))
    | (go_at_call 10;((with_reducible refine (HA.out _ (bch B2 (bnew w2 _))).mono ?_);rintro e w3 ⟨rfl,b3⟩)))
   go_ret
   exact⟨rfl,bch (bch B2 (bnew w2 _)) b3⟩
 ·have HF:=Lib.hid (fun (W:World)=>L16.few_no a1 a2 a3 o.maps.length o.code.length o.rels.length c1 c2 c3 W hw.m hw.c hw.r hs)
  have HB:=Lib.hid (bnew w (ob3 (.slice a1 o.maps.length c1) (.slice a2 o.code.length c2) (.slice a3 o.rels.length c3)))
  clear ho hw hT hE hs
  go_enter Tryz.func6,Tryz.ntmps6
  go_wp2_with (first
   | (go_at_call 9;((with_reducible refine (HF.out _).mono ?_);rintro e w1 ⟨rfl,b1⟩))
   | (go_at_call 10;((with_reducible refine (HA.out _ (bch HB.out b1)).mono ?_);rintro e w2 ⟨rfl,b2⟩)))
  go_ret
  exact⟨rfl,bch (bch HB.out b1) b2⟩
end
end Go.Proofs.YtdgnjhhieemcaaaGreatDoor.L18
end
section
namespace Go.Proofs.YtdgnjhhieemcaaaGreatDoor
open Go.ChangeShapes Go.WideShapes Go.ChangeAt Go.RowKit
theorem inv_walk (w:World) (m0 c0 t0:Value) (o0:L13.Ob) (ho0:L16.OA w m0 c0 t0 o0) (hr0:L16.OW o0) (hT:L18.T18 w):Calls Tryz.prog 6 #[.agg #[m0,c0,t0]] w fun e w'=>e=.returned (.bool true)∧Below w.heap.size w w' :=
 L18.inverts_walk _ _ _ o0 w ho0 hr0 hT
theorem inv_lifted (os:Os) (started:os.Started) (H:Type) (enc:TypeId × Value→H) :
  ReturnsInHanded {} Tryz.checked os 6 .any (fun w args=>(Rows.loadInvertsSpec.pre enc Tryz.prog Tryz.f6 [] false w args∧laidMetH Tryz.prog laid2 w)∧sizedMet enc Tryz.prog Tryz.f6 (OpenSpec.ofChange Rows.loadInvertsSpec) false w args)
   (Rows.loadInvertsSpec.post enc Tryz.prog Tryz.f6 false true false false):=by
 refine returns_shaped_and (C:=Tryz.checked) (X:=fun w _=>laidMetH Tryz.prog laid2 w) (fun _ _ _ hh h=>h.of_heap hh) own started (by kernel_rfl) Tryz.func6
  (ChangeSpec.witness_shaped (enc:=enc) (C:=Tryz.checked) (os:=os) (X:=fun w _=>laidMetH Tryz.prog laid2 w) false (World.doorLaid Tryz.prog 4000 os) #[.agg #[.slice none 0 0,.slice none 0 0,.slice none 0 0]] 8 rfl (World.shaped_of_RefB (by kernel_rfl) (by kernel_rfl)) (by kernel_rfl) (by kernel_rfl) (by kernel_rfl) (door_met2 os _)) ?_
 intro W base args ds gs before hval0 hW hwt hL hsh
 have hval:∀ (j:Nat) t v,Tryz.f6.params[j]?=some t→args[j]?=some v→Value.okWide Tryz.prog W .any base t v:=hval0
 have hW':=hW
 obtain⟨p,q,hA0,hV,rfl,hfz,hnd⟩:=hW
 have hA:DataW.TrodAll enc Tryz.prog W 0 (fun _=>true) true Tryz.f6.params.toList args.toList ds p:=hA0
 rw [Tryz.params6] at hA hval hwt
 obtain⟨v0,vs0,d0,ds0,p0,q0,hargs,rfl,rfl,h0,r0⟩:=trodAll_cons hA
 obtain⟨rfl,rfl,rfl⟩:=trodAll_nil r0
 obtain rfl:args=#[v0]:=by cases args;simp_all
 obtain⟨rfl,rfl⟩:=trodVars_none hV
 have k0:=h0
 obtain⟨m0,c0,t0,o0,rfl,ho0,hr0⟩:=L16.open_ob16 (hval 0 26 v0 rfl rfl) h0
 have hw0:L10.Wt 26 d0:=fun n hn=>by simpa using List.all_eq_true.1 hwt n (List.mem_append_left _ hn)
 clear hA0 hval0
 simp only [List.append_nil] at hW'
 have l0:∀ x∈p0,x.block<W.heap.size:=fun x hx=>by simpa using hW'.lt x (by simp [hx])
 refine (inv_walk W m0 c0 t0 o0 ho0 (hr0 hw0) (tabs_of18 hL hsh)).mono fun e W' ⟨he,hg⟩=>?_
 subst he
 have hTA:DataW.TrodAll enc Tryz.prog W' 0 (fun b=>decide (b<W.heap.size)) true [26] [.agg #[m0,c0,t0]] [d0] (p0):=by
  simpa only [List.append_nil,List.nil_append] using (trodAll_cons_mk (Below.trod laidOut (by kernel_rfl) (of_decide_eq_true (by kernel_rfl)) k0 hg l0) trodAll_mk0)
 exact⟨_,rfl,law_post_at hW' rfl rfl Tryz.underlying4 rfl hTA hg⟩
end Go.Proofs.YtdgnjhhieemcaaaGreatDoor
end
end
