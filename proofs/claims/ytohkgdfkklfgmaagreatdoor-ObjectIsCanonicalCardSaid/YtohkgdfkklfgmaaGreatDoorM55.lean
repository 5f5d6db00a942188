/- Lemmas and walks of L16Op, L16Al: what each theorem states; conditions stand in each theorem. -/
import Derived.Test.YtohkgdfkklfgmaaGreatDoorM49
import Derived.Test.YtohkgdfkklfgmaaGreatDoorM42
import Derived.Test.YtohkgdfkklfgmaaGreatDoorL13Op
import Derived.Test.YtohkgdfkklfgmaaGreatDoorM51
import Derived.Test.YtohkgdfkklfgmaaGreatDoorM30
section
set_option maxRecDepth 100000
set_option maxHeartbeats 4000000
namespace Go.Proofs.YtohkgdfkklfgmaaGreatDoor.L16
set_option maxRecDepth 100000
open Go.ChangeShapes Go.WideShapes Go.ChangeAt Go.RowKit Go.Deep L14 L15
open L13 (Ob)
attribute [local go_sem] Oper.semAt_some
section
variable {H:Type} {enc:TypeId × Value→H} {W:World} {base:Nat} {sp:Nat→Bool} {held:Bool}
theorem open_data {fuel:Nat} {cs:List Value} {x:DataW H × List MemPlace} (h:DataW.trod enc Tryz.prog W base sp held fuel 23 cs=some x):∃ v l,cs=[v]∧Rw eB W v l∧l.length≤maxLen:=by
 rcases open_ints Tryz.underlying23 Tryz.underlying5 cells5 h with ⟨hcs,-⟩|⟨a,len,cap,zs,hcs,_,hl,hm,hz,-,hcell,hwz⟩
 ·exact⟨_,[],hcs,Rw.nil _ _,by simp⟩
 ·obtain⟨l,hle⟩:∃ l:List UInt8,l=(zs.take len).map fun z=>UInt8.ofNat z.toNat:=⟨_,rfl⟩
  have hzl:len≤zs.length:=by split at hz <;> omega
  have hll:l.length=len:=by rw [hle,List.length_map,List.length_take];omega
  refine⟨_,l,hcs,⟨some a,cap,by rw [hll],by omega,fun e=>(by cases e),fun hp=>?_⟩,by omega⟩
  obtain⟨b,off,spot⟩:=a
  have hspot:spot=none:=by simpa [Addr.add] using World.cell?_spot (hcell 0 (by omega))
  subst hspot
  refine⟨b,off,rfl,World.block_lt_of_cell? W _ (hcell 0 (by omega)),fun j hj=>?_⟩
  have hjl:j<len:=by omega
  have h1:(l[j].toNat:Int)=zs.getD j 0:=by
   have e:l[j]=UInt8.ofNat (zs[j]'(by omega)).toNat:=by simp [hle]
   rw [e,byte_of (hwz _ (List.getElem_mem _))]
   simp [List.getD,show j<zs.length by omega]
  unfold eB
  rw [h1,← Go.WideShapes.add_plain]
  exact hcell j (by omega)
structure OW (o:Ob):Prop where
 m:o.maps.length≤8796093022208
 c:o.code.length≤maxLen
 r:o.rels.length≤8796093022208
 z:∀ d∈o.maps,d.nm.size≤maxLen
theorem open_ob16 {r:Reach} {b0:Nat} {v:Value} {d:DataW H} {ps:List MemPlace} (hval:Value.okWide Tryz.prog W r b0 26 v) (hd:DataW.Trod enc Tryz.prog W base sp held 26 v d ps) :
  ∃ (vm vc vr:Value) (o:Ob),v=.agg #[vm,vc,vr]∧OA W vm vc vr o∧(L10.Wt 26 d→OW o):=by
 obtain⟨cs,rfl,hsz⟩:=okWide_struct Tryz.underlying26 hval
 rw [L13.cO] at hsz
 obtain⟨l⟩:=cs
 obtain⟨fuel,hf⟩:=hd
 obtain⟨xs,n,_,hx,_,hlen,hg⟩:=DataW.trod_struct Tryz.underlying26 hf
 match l,hsz,xs,hlen with
 | [c0,c1,c2],_,[y0,y1,y2],_ =>
  have g0:DataW.trod enc Tryz.prog W base sp held n 22 [c0]=some y0:=by simpa [Value.cells,L10.cDs] using hg 0 _ rfl
  have g1:DataW.trod enc Tryz.prog W base sp held n 23 [c1]=some y1:=by simpa [Value.cells,L13.cUs] using hg 1 _ rfl
  have g2:DataW.trod enc Tryz.prog W base sp held n 24 [c2]=some y2:=by simpa [Value.cells,L13.cRs] using hg 2 _ rfl
  obtain⟨q0,m0,k0,z0,r0⟩:=L13.slice_room Tryz.underlying22 (by rw [L13.bD];omega) g0
  obtain⟨q2,m2,k2,z2,r2⟩:=L13.slice_room Tryz.underlying24 (by rw [L13.bR];omega) g2
  obtain⟨v0,l0,e0,h0,f0⟩:=L10.open_defs g0
  obtain⟨v1,l1,e1,h1,f1⟩:=open_data g1
  obtain⟨v2,l2,e2,h2⟩:=L13.open_rels g2
  simp only [List.cons.injEq,and_true] at e0 e1 e2
  subst e0 e1 e2
  refine⟨c0,c1,c2,⟨l0,l1,l2⟩,rfl,⟨h0,h1,h2⟩,fun hw=>?_⟩
  obtain⟨u0,w0,s0,-⟩:=L10.df_form rfl h0
  obtain⟨u2,w2,s2,-⟩:=L13.ro_form rfl h2
  rw [s0] at z0
  rw [s2] at z2
  cases z0
  cases z2
  have hx1:=congrArg Prod.fst hx
  simp only at hx1
  unfold L10.Wt at hw r0 r2
  rw [hx1] at hw
  simp only [DataW.weights,Tryz.underlying26,List.map_cons,DataW.weightsEach] at hw
  exact⟨r0 fun n hn=>hw n (List.mem_append_left _ hn),f1,r2 fun n hn=>hw n (List.mem_append_right _ (List.mem_append_right _ (List.mem_append_left _ hn))),fun d hd=>(f0 d hd).nm⟩
end
abbrev Sm16 (o:Ob):Prop:=o.code.length≤4000∧o.maps.length≤300∧o.rels.length≤500
theorem OW.os {o:Ob} (h:OW o) (hs:Sm16 o):OS o:=⟨by omega,by omega,by omega,h.z⟩
theorem gt_t {a b:Int} (h:b<a):decide (b<a)=true:=by simpa using h
theorem gt_f {a b:Int} (h:¬ b<a):decide (b<a)=false:=by simpa using h
theorem OA.form {w:World} {vm vc vr:Value} {o:Ob} (h:OA w vm vc vr o):∃ a1 c1 a2 c2 a3 c3,vm=.slice a1 o.maps.length c1∧vc=.slice a2 o.code.length c2∧vr=.slice a3 o.rels.length c3:=by
 obtain⟨a1,c1,h1,-⟩:=L10.df_form rfl h.m
 obtain⟨a2,c2,h2,-⟩:=h.c.form rfl
 obtain⟨a3,c3,h3,-⟩:=L13.ro_form rfl h.r
 exact⟨_,_,_,_,_,_,h1,h2,h3⟩
theorem few_no (a1 a2 a3:Option Addr) (n1 n2 n3 c1 c2 c3:Nat) (w:World) (h1:n1≤8796093022208) (h2:n2≤maxLen) (h3:n3≤8796093022208) (h:¬ (n2≤4000∧n1≤300∧n3≤500)) :
  Calls Tryz.prog 8 #[.agg #[.slice a1 n1 c1,.slice a2 n2 c2,.slice a3 n3 c3]] w fun e w'=>e=.returned (.int .i64 0)∧Below w.heap.size w w':=by
 unfold maxLen at h2
 have HB:=Lib.hid (L8.bnew w (.cells #[.slice a1 n1 c1,.slice a2 n2 c2,.slice a3 n3 c3] 26))
 by_cases k2:4000<n2
 ·have t2:=gt_t (a:=(n2:Int)) (b:=4000) (by omega)
  clear h
  go_enter Tryz.func8,Tryz.ntmps8
  go_wp2
  go_ret
  exact⟨rfl,HB.out⟩
 ·have t2:=gt_f (a:=(n2:Int)) (b:=4000) (by omega)
  by_cases k1:300<n1
  ·have t1:=gt_t (a:=(n1:Int)) (b:=300) (by omega)
   clear h
   go_enter Tryz.func8,Tryz.ntmps8
   go_wp2
   go_ret
   exact⟨rfl,HB.out⟩
  ·have t1:=gt_f (a:=(n1:Int)) (b:=300) (by omega)
   have t3:=gt_t (a:=(n3:Int)) (b:=500) (by omega)
   clear h
   go_enter Tryz.func8,Tryz.ntmps8
   go_wp2
   go_ret
   exact⟨rfl,HB.out⟩
theorem few_yes (a1 a2 a3:Option Addr) (n1 n2 n3 c1 c2 c3:Nat) (w:World) (h:n2≤4000∧n1≤300∧n3≤500) :
  Calls Tryz.prog 8 #[.agg #[.slice a1 n1 c1,.slice a2 n2 c2,.slice a3 n3 c3]] w fun e w'=>e=.returned (.int .i64 1)∧Below w.heap.size w w':=by
 have HB:=Lib.hid (L8.bnew w (.cells #[.slice a1 n1 c1,.slice a2 n2 c2,.slice a3 n3 c3] 26))
 have t2:=gt_f (a:=(n2:Int)) (b:=4000) (by omega)
 have t1:=gt_f (a:=(n1:Int)) (b:=300) (by omega)
 have t3:=gt_f (a:=(n3:Int)) (b:=500) (by omega)
 have hh:=Lib.hid h
 clear h
 go_enter Tryz.func8,Tryz.ntmps8
 go_wp2
 go_ret
 exact⟨rfl,HB.out⟩
end Go.Proofs.YtohkgdfkklfgmaaGreatDoor.L16
end
section
set_option maxHeartbeats 8000000
namespace Go.Proofs.YtohkgdfkklfgmaaGreatDoor.L16
set_option maxRecDepth 100000
open Go.RowKit L14 L15
open L13 (Ob ObAt ObS)
attribute [local go_sem] Oper.semAt_some
theorem bs_of {w:World} {v:Value} {l:List UInt8} (h:Rw eB w v l):L5.BsV w v l:=by
 obtain⟨a,c,rfl,-,-,hc⟩:=h
 refine⟨a,c,rfl,?_⟩
 by_cases h0:l=[]
 ·exact .inl h0
 ·obtain⟨b,o,e,-,hcc⟩:=hc (List.length_pos_iff.2 h0)
  exact .inr ⟨b,o,e,fun j hj=>hcc j hj⟩
theorem OA.ob {w:World} {vm vc vr:Value} {o:Ob} (h:OA w vm vc vr o):ObAt w vm vc vr o:=⟨h.m,bs_of h.c,h.r⟩
theorem OS.ob {o:Ob} (h:OS o):ObS o:=⟨h.m,h.c,h.r⟩
def oE:Ob:=⟨[],[],[]⟩
theorem oE_at (w:World):OA w (.slice none 0 0) (.slice none 0 0) (.slice none 0 0) oE:=⟨.inr ⟨rfl,none,0,rfl⟩,Rw.nil _ _,.inr ⟨rfl,none,0,rfl⟩⟩
theorem oE_os:OS oE:=⟨by decide,by decide,by decide,by simp [oE]⟩
theorem oE_chk:chE oE=17:=by decide +kernel
theorem same16_at (vm vc vr vm' vc' vr':Value) (o q:Ob) (b:Bool) (w:World) (ho:OA w vm vc vr o) (hq:OA w vm' vc' vr' q) (hs:OS o) (hs':OS q) (hb:b=true↔o=q) :
  Calls Tryz.prog 19 #[.agg #[vm,vc,vr],.agg #[vm',vc',vr']] w fun e w'=>e=.returned (.bool b)∧Below w.heap.size w w':=L13.rsame13_at vm vc vr vm' vc' vr' o q b w ho.ob hq.ob hs.ob hs'.ob hb
theorem nil_not (q:Ob):¬ Is16 [] q:=fun h=>by
 have:=congrArg List.length h.2
 rw [pk_len,List.length_nil] at this;omega
theorem parse_is (a:Option Addr) (n c:Nat) (b:List UInt8) (o:Ob) (w:World) (hv:Rw eB w (.slice a n c) b) (hb:n≤100000) (hT:Tb w) (h:Is16 b o):OS o∧Calls Tryz.prog 17 #[.slice a n c] w (PaY o w):=by
 rcases parse16_at a n c b w hv hb hT with ⟨hn,-⟩|⟨q,hq,hs,hc⟩
 ·exact absurd h (hn o)
 ·obtain rfl:=is16_one h hq
  exact⟨hs,hc⟩
theorem parse_nil (w:World) (hT:Tb w):Calls Tryz.prog 17 #[.slice none 0 0] w (PaN w):=by
 rcases parse16_at none 0 0 [] w (Rw.nil _ _) (by decide) hT with ⟨-,hc⟩|⟨q,hq,-⟩
 ·exact hc
 ·exact absurd hq (nil_not q)
def exO:Ob:=⟨[],[149,0,0,0,0,0,0,0],[]⟩
theorem ex_chk:chE exO=0:=by decide +kernel
theorem ex_len:(pkB exO).length=96:=by rw [pk_len];decide +kernel
theorem ex_os:OS exO:=⟨by decide,by decide,by decide,by simp [exO]⟩
theorem lit_row {α:Type} (enc:α→Value) (w:World) (l:List α) (n:Nat) (hn:l.length=n) (t:TypeId) (cs:Array Value) (hc:cs=(l.map enc).toArray):Rw enc (w.alloc (.cells cs t)) (.slice (some ⟨w.heap.size,0,none⟩) n n) l:=by
 subst hn hc
 have h:=heap_alloc_new w (.cells (l.map enc).toArray t)
 refine⟨_,_,rfl,Nat.le_refl _,fun e=>(by cases e),fun _=>⟨w.heap.size,0,rfl,lt_of_block h,fun j hj=>?_⟩⟩
 unfold World.cell?
 simp only [h]
 simp [hj]
theorem ex_at (w:World):OA (w.alloc (.cells #[.int .u8 149,.int .u8 0,.int .u8 0,.int .u8 0,.int .u8 0,.int .u8 0,.int .u8 0,.int .u8 0] 5)) (.slice none 0 0) (.slice (some ⟨w.heap.size,0,none⟩) 8 8) (.slice none 0 0) exO :=
 ⟨.inr ⟨rfl,none,0,rfl⟩,lit_row eB w _ 8 rfl 5 _ rfl,.inr ⟨rfl,none,0,rfl⟩⟩
abbrev exC (w:World):World:=w.alloc (.cells #[.int .u8 149,.int .u8 0,.int .u8 0,.int .u8 0,.int .u8 0,.int .u8 0,.int .u8 0,.int .u8 0] 5)
abbrev exR (k:Nat):Array Value:=#[.slice none 0 0,.slice (some ⟨k,0,none⟩) 8 8,.slice none 0 0]
theorem alive16 (w:World) (hT:Tb w):Calls Tryz.prog 9 #[] w fun e w'=>e=.returned (.bool true)∧Below w.heap.size w w':=by
 have b0:Below w.heap.size w (exC w):=bnew w _
 have hoa:=(ex_at w).below (bnew (exC w) (.cells (exR w.heap.size) 26))
 have k0:=heap_alloc_last (exC w) (.cells (exR w.heap.size) 26)
 have hsz:(exC w).heap.size=w.heap.size+1:=Array.size_push _
 have b1:Below w.heap.size w ((exC w).alloc (.cells (exR w.heap.size) 26)):=bch b0 (bnew _ _)
 rw [hsz] at k0
 have HTB:=Lib.hid (fun (W:World) (h:Below w.heap.size w W)=>tb_below hT h)
 have HPk:=Lib.hid (pack_yes (.slice none 0 0) (.slice (some ⟨w.heap.size,0,none⟩) 8 8) (.slice none 0 0) exO _ hoa ex_os (tb_below hT b1) 96 ex_chk ex_len)
 have HPa:=Lib.hid (fun (W:World) (h:Tb W) (a:Option Addr) (c:Nat) (hr:Rw eB W (.slice a 96 c) (pkB exO))=>(parse_is a 96 c (pkB exO) exO W hr (by decide) h ⟨ex_chk,rfl⟩).2)
 have HSa:=Lib.hid (fun (W:World) (vm vc vr vm' vc' vr':Value) (h:OA W vm vc vr exO) (h':OA W vm' vc' vr' exO)=>same16_at vm vc vr vm' vc' vr' exO exO true W h h' ex_os ex_os (by simp))
 have HSz:=Lib.hid (fun (W:World) (vm vc vr:Value) (h:OA W vm vc vr exO) (ht:Tb W)=>osize_yes vm vc vr exO W h ex_os ht 96 ex_chk ex_len)
 have HCh:=Lib.hid (fun (W:World) (ht:Tb W)=>ocheck_at (.slice none 0 0) (.slice none 0 0) (.slice none 0 0) oE 17 W (oE_at W) oE_os ht oE_chk)
 have HPn:=Lib.hid (fun (W:World) (ht:Tb W)=>parse_nil W ht)
 have K0:=Lib.hid k0
 have HO:=Lib.hid hoa
 have HB:=Lib.hid b1
 clear hT b0 hoa k0 hsz b1
 go_enter Tryz.func9,Tryz.ntmps9
 go_upto_region 3 with (first
  | (go_at_call 12;((with_reducible refine (HPk.out).mono ?_);rintro e w1 ⟨⟨pa,pc,rfl,r1⟩,b1⟩)))
 have B1:=bch HB.out b1
 have q1:=L8.row_up K0.out b1
 have o1:=HO.out.below b1
 go_upto_region 4 with (first
  | (go_at_call 17;((with_reducible refine (HPa.out _ (HTB.out _ B1) _ _ r1).mono ?_);rintro e w2 ⟨⟨vm,vc,vr,rfl,h2⟩,b2⟩;obtain⟨a1,c1,rfl,-⟩:=L10.df_form (n:=0) rfl h2.m;obtain⟨a2,c2,rfl,-⟩:=h2.c.form (n:=8) rfl;obtain⟨a3,c3,rfl,-⟩:=L13.ro_form (n:=0) rfl h2.r)))
 have q2:=L8.row_up (L8.row_up q1 b2) (bnew w2 (.cells #[.slice a1 0 c1,.slice a2 8 c2,.slice a3 0 c3] 26))
 have k2:=heap_alloc_last w2 (.cells #[.slice a1 0 c1,.slice a2 8 c2,.slice a3 0 c3] 26)
 have B2:=bch (bch B1 b2) (bnew w2 (.cells #[.slice a1 0 c1,.slice a2 8 c2,.slice a3 0 c3] 26))
 have o2:=(o1.below b2).below (bnew w2 (.cells #[.slice a1 0 c1,.slice a2 8 c2,.slice a3 0 c3] 26))
 have p2:=h2.below (bnew w2 (.cells #[.slice a1 0 c1,.slice a2 8 c2,.slice a3 0 c3] 26))
 obtain⟨m2,hm2⟩:∃ m,w2.heap.size=m:=⟨_,rfl⟩
 rw [hm2] at k2 ⊢
 generalize w2.alloc (.cells #[.slice a1 0 c1,.slice a2 8 c2,.slice a3 0 c3] 26)=w3 at q2 k2 B2 o2 p2 ⊢
 clear hm2 q1 r1 o1 h2 b2 b1 B1
 go_upto_region 5 with (first
  | (go_at_call 17;((with_reducible refine (HPn.out _ (HTB.out _ B2)).mono ?_);rintro e w4 ⟨rfl,b4⟩)))
 have q4:=L8.row_up (L8.row_up q2 b4) (bnew w4 (.cells nil3 26))
 have k4:=L8.row_up (L8.row_up k2 b4) (bnew w4 (.cells nil3 26))
 have B4:=bch (bch B2 b4) (bnew w4 (.cells nil3 26))
 have o4:=(o2.below b4).below (bnew w4 (.cells nil3 26))
 have p4:=(p2.below b4).below (bnew w4 (.cells nil3 26))
 generalize w4.alloc (.cells nil3 26)=w5 at q4 k4 B4 o4 p4 ⊢
 clear q2 k2 B2 o2 p2 b4
 obtain⟨x0,x1,x2⟩:=L13.cells3 q4
 obtain⟨y0,y1,y2⟩:=L13.cells3 k4
 have l0:=World.block_lt_of_cell? _ _ x0
 have l1:=World.block_lt_of_cell? _ _ y0
 simp only at l0 l1
 go_wp2_with (first
  | (go_at_call 19;((with_reducible refine (HSa.out _ _ _ _ _ _ _ o4 p4).mono ?_);rintro e w6 ⟨rfl,b6⟩;obtain⟨z0,z1,z2⟩:=L13.cells3 (L8.row_up q4 b6);have l2:=World.block_lt_of_cell? _ _ z0;simp only at l2;have B6:=bch B4 b6;have o6:=o4.below b6))
  | (go_at_call 13;((with_reducible refine (HSz.out _ _ _ _ o6 (HTB.out _ B6)).mono ?_);rintro e w7 ⟨rfl,b7⟩;have B7:=bch B6 b7))
  | (go_at_call 10;((with_reducible refine (HCh.out _ (HTB.out _ B7)).mono ?_);rintro e w8 ⟨rfl,b8⟩)))
 go_ret
 exact⟨rfl,bch B7 b8⟩
end Go.Proofs.YtohkgdfkklfgmaaGreatDoor.L16
end
