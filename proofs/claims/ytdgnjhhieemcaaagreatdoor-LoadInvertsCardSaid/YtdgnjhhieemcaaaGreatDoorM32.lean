/- Lemmas and walks of L18St, L18By, L18Nl, L18Al, L18Law: what each theorem states; conditions stand in each theorem. -/
import Derived.Test.YtdgnjhhieemcaaaGreatDoorL18Ul
set_option maxHeartbeats 16000000
set_option maxRecDepth 100000
section
namespace Go.Proofs.YtdgnjhhieemcaaaGreatDoor.L18
open Go.RowKit Go.Shelf L3 L4 L12 L14 L17
open L13 (Ob)
open L16 (chE OA OS Tb tb_below)
attribute [local go_sem] Oper.semAt_some
def StOk (ms:List L9.Df) (l:List L9.Ins):Prop:=(vE (unO ms l)).2=0∧ldL (unO ms l)=l
def StP (ms:List L9.Df) (l:List L9.Ins) (b:Bool) (w:World) (e:Ending) (w':World):Prop :=
 (if b then ∃ vm vc vr,e=.returned (.tuple #[.agg #[vm,vc,vr],.int .i64 0])∧OA w' vm vc vr (unO ms l) else e=.returned (.tuple #[.agg #[.slice none 0 0,.slice none 0 0,.slice none 0 0],.int .i64 19]))∧Below w.heap.size w w'
abbrev ob3 (a b c:Value):Obj:=.cells #[a,b,c] 26
theorem set3 {W:World} {r:Nat} {a b c x y z:Value} (h:W.heap[r]?=some (ob3 a b c)):(((W.setCell ⟨r,0,none⟩ x).setCell ⟨r,1,none⟩ y).setCell ⟨r,2,none⟩ z).heap[r]?=some (ob3 x y z):=cells_set (k:=2) (v:=z) (cells_set (k:=1) (v:=y) (cells_set (k:=0) (v:=x) h))
theorem bel3 {w W:World} {r:Nat} (h:Below w.heap.size w W) (hr:w.heap.size≤r) (x y z:Value):Below w.heap.size w (((W.setCell ⟨r,0,none⟩ x).setCell ⟨r,1,none⟩ y).setCell ⟨r,2,none⟩ z):=L10.bel_set (L10.bel_set (L10.bel_set h hr 0 x) hr 1 y) hr 2 z
theorem ObO.set3 {B r:Nat} {W:World} {vm vc vr a b c:Value} {o:Ob} (h:ObO B W vm vc vr o) (hr:W.heap[r]?=some (ob3 a b c)) (x y z:Value):ObO B (((W.setCell ⟨r,0,none⟩ x).setCell ⟨r,1,none⟩ y).setCell ⟨r,2,none⟩ z) vm vc vr o :=
 ((h.cell hr).cell (cells_set (k:=0) (v:=x) hr)).cell (cells_set (k:=1) (v:=y) (cells_set (k:=0) (v:=x) hr))
def UnQ (ms:List L9.Df) (l:List L9.Ins) (d cl rl:Nat) (w:World) (e:Ending) (w':World):Prop :=
 (∃ e1 g1 e2 g2 e3 g3,e=.returned (.agg #[.slice e1 d g1,.slice e2 cl g2,.slice e3 rl g3])∧ObO w.heap.size w' (.slice e1 d g1) (.slice e2 cl g2) (.slice e3 rl g3) (unO ms l))∧Below w.heap.size w w'
theorem un_q {ms:List L9.Df} {l:List L9.Ins} {d cl rl:Nat} {w w':World} {e:Ending} (h:UnP w ms l e w') (hd:ms.length=d) (hcl:(unO ms l).code.length=cl) (hrl:(unO ms l).rels.length=rl):UnQ ms l d cl rl w e w':=by
 subst hd hcl hrl
 obtain⟨⟨x,y,z,he,ho⟩,hb⟩:=h
 obtain⟨e1,g1,e2,g2,e3,g3,rfl,rfl,rfl⟩:=oa_form ho.oa
 exact⟨⟨e1,g1,e2,g2,e3,g3,he,ho⟩,hb⟩
def LdQ (ms:List L9.Df) (m:List L9.Ins) (d n:Nat) (w:World) (e:Ending) (w':World):Prop :=
 (∃ am cm ac cc,e=.returned (.tuple #[.agg #[.slice am d cm,.slice ac n cc],.int .i64 0,.int .i64 0])∧ImO w.heap.size w' (.slice am d cm) (.slice ac n cc) d n ms m)∧Below w.heap.size w w'
theorem ld_q {o:Ob} {d n:Nat} {w w':World} {e:Ending} (h:LdP o n w e w') (hd:o.maps.length=d):LdQ o.maps (ldL o) d n w e w':=by
 subst hd
 exact h
theorem store_at (vm vi:Value) (ms:List L9.Df) (l:List L9.Ins) (b:Bool) (w:World) (hms:ms.length≤100000) (hl:l.length≤100000) (hv:L10.DfAt w vm ms) (hi:IsAt w vi l) (hf:∀ x∈l,L5.Ix.fits (L13.tI x)) (hT:Tb w) (hs:OS (unO ms l)) (hb:b=true↔StOk ms l) :
  Calls Tryz.prog 18 #[.agg #[vm,vi]] w fun e w'=>StP ms l b w e w':=by
 obtain⟨n,hn⟩:∃ n,l.length=n:=⟨_,rfl⟩
 obtain⟨d,hd⟩:∃ n,ms.length=n:=⟨_,rfl⟩
 have HM:=Lib.hid (fun (W:World) (h:Below w.heap.size w W)=>And.intro (hv.below h) (And.intro (hi.below h) (tb_below hT h)))
 obtain⟨cl,hcl⟩:∃ n,(unO ms l).code.length=n:=⟨_,rfl⟩
 obtain⟨rl,hrl⟩:∃ n,(unO ms l).rels.length=n:=⟨_,rfl⟩
 have HU:=Lib.hid (fun (W:World) (h:Below w.heap.size w W)=>(unload_at vm vi ms l W hms hl (hv.below h) (hi.below h) hf (tb_below hT h).1).mono (fun e w' h=>un_q h hd hcl hrl))
 obtain⟨a2,c2,rfl,-⟩:=is_form hn hi
 obtain⟨a1,c1,rfl,-⟩:∃ a c,vm=.slice a d c∧True:=by
  obtain⟨a,c,h,-⟩:=hv.flat
  exact⟨a,c,by rw [h,hd],trivial⟩
 have HB0:=Lib.hid (bch (bnew w (.cells #[.slice a1 d c1,.slice a2 n c2] 31)) (bnew _ (ob3 (.slice none 0 0) (.slice none 0 0) (.slice none 0 0))))
 have K0:=Lib.hid (And.intro (L8.row_up (heap_alloc_last w (.cells #[.slice a1 d c1,.slice a2 n c2] 31)) (bnew _ (ob3 (.slice none 0 0) (.slice none 0 0) (.slice none 0 0)))) (heap_alloc_last (w.alloc (.cells #[.slice a1 d c1,.slice a2 n c2] 31)) (ob3 (.slice none 0 0) (.slice none 0 0) (.slice none 0 0))))
 obtain⟨⟨S,E⟩,hR⟩:∃ p,vE (unO ms l)=p:=⟨_,rfl⟩
 by_cases h0:E=0
 ·subst h0
  have hV:=vd_of (o:=unO ms l) (by rw [hR])
  have hll:=len_le (inL (unO ms l).code) (inL_sl hV.la)
  have hlc:=inL_len hV.la
  have hcm:=hs.c
  have hbe:b=true↔ms=ms∧ldL (unO ms l)=l:=by
   rw [hb]
   unfold StOk
   rw [hR]
   exact⟨fun h=>⟨rfl,h.2⟩,fun h=>⟨rfl,h.2⟩⟩
  have HL:=Lib.hid (fun (vm' vc' vr':Value) (W:World) (h:Below w.heap.size w W) (ho:OA W vm' vc' vr' (unO ms l))=>(load_yes vm' vc' vr' (unO ms l) S _ W ho hs (tb_below hT h) hR rfl).mono (fun e w' h=>ld_q h hd))
  have HS:=Lib.hid (fun (vn vd:Value) (W:World) (h:Below w.heap.size w W) (g1:L10.DfAt W vn ms) (g2:IsAt W vd (ldL (unO ms l)))=>lsame_at vn vd (.slice a1 d c1) (.slice a2 n c2) ms ms (ldL (unO ms l)) l b W hms hms (by unfold ldL;rw [imL_len];omega) hl g1 g2 (hv.below h) (hi.below h) hbe)
  unfold StP
  obtain⟨nl,hnl⟩:∃ nl,(inL (unO ms l).code).length=nl:=⟨_,rfl⟩
  rw [hnl] at HL
  clear hv hi hf hT hs hb hR hV hll hlc hcm hbe hnl
  cases b
  all_goals
   go_enter Tryz.func18,Tryz.ntmps18
   go_wp2_with (first
    | (go_at_call 44;((with_reducible refine (HU.out _ HB0.out).mono ?_);rintro e w1 ⟨⟨e1,g1,e2,g2,e3,g3,rfl,ho⟩,b1⟩;have B1:=bch HB0.out b1;have k1:=L8.row_up K0.out.1 b1;have j1:=L8.row_up K0.out.2 b1))
    | (go_at_call 11;((with_reducible refine (HL.out _ _ _ _ (bch B1 (bnew w1 _)) (ho.below (bnew w1 _)).oa).mono ?_);rintro e w2 ⟨⟨am,cm,ac,cc,rfl,pI⟩,b2⟩;have p1:=pI.df;have p2:=pI.is;have B2:=bch (bch B1 (bnew w1 _)) b2;have q2:=L8.row_up (heap_alloc_last w1 _) b2;have k2:=L8.row_up (L8.row_up k1 (bnew w1 _)) b2;have j2:=L8.row_up (L8.row_up j1 (bnew w1 _)) b2;obtain⟨y0,y1⟩:=cells2 k2;have ly:=lt_of_block k2))
    | (go_at_call 21;((with_reducible refine (HS.out _ _ _ (bch B2 (bnew w2 _)) (p1.below (bnew w2 _)) (p2.below (bnew w2 _))).mono ?_);rintro e w3 ⟨rfl,b3⟩;have j3:=L8.row_up (L8.row_up j2 (bnew w2 _)) b3;rw [World.size_alloc] at j3;obtain⟨z0,z1,z2⟩:=L13.cells3 j3;have lz:=lt_of_block j3;have fz:=frozen_all j3;have q3:=L8.row_up (L8.row_up q2 (bnew w2 _)) b3;obtain⟨v0,v1,v2⟩:=L13.cells3 q3;have lv:=lt_of_block q3;have B3:=bch (bch B2 (bnew w2 _)) b3)))
  ·have hS:=set3 (x:=.slice none 0 0) (y:=.slice none 0 0) (z:=.slice none 0 0) j3
   obtain⟨u0,u1,u2⟩:=L13.cells3 hS
   exact bodyPost_ret (v:=.tuple #[.agg #[.slice none 0 0,.slice none 0 0,.slice none 0 0],.int .i64 19]) (by simp [results,Tryz.results18,go_sem,u0,u1,u2]) rfl ⟨rfl,bel3 B3 (Nat.le_succ _) _ _ _⟩
  ·have hS:=set3 (x:=.slice e1 d g1) (y:=.slice e2 cl g2) (z:=.slice e3 rl g3) j3
   obtain⟨u0,u1,u2⟩:=L13.cells3 hS
   have ho3:=(((ho.below (bnew w1 _)).below b2).below (bnew w2 _)).below b3
   exact bodyPost_ret (v:=.tuple #[.agg #[.slice e1 d g1,.slice e2 cl g2,.slice e3 rl g3],.int .i64 0]) (by simp [results,Tryz.results18,go_sem,u0,u1,u2]) rfl ⟨⟨_,_,_,rfl,(ho3.set3 j3 _ _ _).oa⟩,bel3 B3 (Nat.le_succ _) _ _ _⟩
 ·have hbf:b=false:=by
   cases b
   ·rfl
   ·have:=hb.1 rfl
    unfold StOk at this
    rw [hR] at this
    exact absurd this.1 h0
  subst hbf
  have h0b:(E != 0)=true:=by simpa using h0
  have HL:=Lib.hid (fun (vm' vc' vr':Value) (W:World) (h:Below w.heap.size w W) (ho:OA W vm' vc' vr' (unO ms l))=>load_no vm' vc' vr' (unO ms l) S E W ho hs (tb_below hT h) hR h0)
  unfold StP
  clear hv hi hf hT hs hb hR h0
  go_enter Tryz.func18,Tryz.ntmps18
  go_wp2_with (first
   | (go_at_call 44;((with_reducible refine (HU.out _ HB0.out).mono ?_);rintro e w1 ⟨⟨e1,g1,e2,g2,e3,g3,rfl,ho⟩,b1⟩;have B1:=bch HB0.out b1;have j1:=L8.row_up K0.out.2 b1))
   | (go_at_call 11;((with_reducible refine (HL.out _ _ _ _ (bch B1 (bnew w1 _)) (ho.below (bnew w1 _)).oa).mono ?_);rintro e w2 ⟨rfl,b2⟩;have B2:=bch (bch B1 (bnew w1 _)) b2;have j2:=L8.row_up (L8.row_up (L8.row_up j1 (bnew w1 _)) b2) (bnew w2 (.cells #[.slice none 0 0,.slice none 0 0] 31));rw [World.size_alloc] at j2;obtain⟨z0,z1,z2⟩:=L13.cells3 j2;have lz:=lt_of_block j2;rw [World.size_alloc] at lz;have fz:=frozen_all j2)))
  have hS:=set3 (x:=.slice none 0 0) (y:=.slice none 0 0) (z:=.slice none 0 0) j2
  obtain⟨u0,u1,u2⟩:=L13.cells3 hS
  exact bodyPost_ret (v:=.tuple #[.agg #[.slice none 0 0,.slice none 0 0,.slice none 0 0],.int .i64 19]) (by simp [results,Tryz.results18,go_sem,u0,u1,u2]) rfl ⟨rfl,bel3 (bch B2 (bnew w2 _)) (Nat.le_succ _) _ _ _⟩
end Go.Proofs.YtdgnjhhieemcaaaGreatDoor.L18
end
section
namespace Go.Proofs.YtdgnjhhieemcaaaGreatDoor.L18
open Go.RowKit Go.Shelf L3 L4 L12 L14 L17
open L13 (Ob)
open L16 (chE OA OS Tb tb_below)
attribute [local go_sem] Oper.semAt_some
abbrev im2 (a b:Value):Obj:=.cells #[a,b] 31
theorem set2 {W:World} {r:Nat} {a b x y:Value} (h:W.heap[r]?=some (im2 a b)):((W.setCell ⟨r,0,none⟩ x).setCell ⟨r,1,none⟩ y).heap[r]?=some (im2 x y):=cells_set (k:=1) (v:=y) (cells_set (k:=0) (v:=x) h)
theorem bel2 {w W:World} {r:Nat} (h:Below w.heap.size w W) (hr:w.heap.size≤r) (x y:Value):Below w.heap.size w ((W.setCell ⟨r,0,none⟩ x).setCell ⟨r,1,none⟩ y):=L10.bel_set (L10.bel_set h hr 0 x) hr 1 y
end Go.Proofs.YtdgnjhhieemcaaaGreatDoor.L18
end
section
namespace Go.Proofs.YtdgnjhhieemcaaaGreatDoor.L18
open Go.RowKit Go.Shelf L14 L15
open L16 (nil3)
attribute [local go_sem] Oper.semAt_some
abbrev bNil:Value:=.slice none 0 0
theorem sections_nil (w:World):Calls Tryz.prog 151 #[bNil] w fun e w'=>e=.returned (.tuple #[.slice none 0 0,.bool false])∧Below w.heap.size w w':=by
 have hmf:(Instr.makeFunc (.func 204) #[] #[.pointer (some ⟨w.heap.size,0,none⟩)]).run Tryz.prog (w.alloc (.cells #[.slice none 0 0] 23))=.ok (.func (.func 204) #[] #[.pointer (some ⟨w.heap.size,0,none⟩)]) (w.alloc (.cells #[.slice none 0 0] 23)):=by rfl
 have hbx:(w.alloc (.cells #[.slice none 0 0] 23)).cell? ⟨w.heap.size,0,none⟩=some (.slice none 0 0):=cell_new w _ _
 have bn:=bnew w (.cells #[.slice none 0 0] 23)
 have HP:=Lib.hid (part_no w.heap.size 0 16 none 0 0 _ hbx (by omega) (by omega) (by omega) 0 16 rfl rfl)
 go_enter Tryz.func151,Tryz.ntmps151
 go_wp2_with (go_at_call 204;((with_reducible refine (HP.out).mono ?_);rintro e w1 ⟨rfl,rfl⟩))
 exact bodyPost_ret (v:=.tuple #[.slice none 0 0,.bool false]) (by simp [results,Tryz.results151,go_sem]) rfl ⟨rfl,bn⟩
theorem read_nil (w:World):Calls Tryz.prog 113 #[bNil] w fun e w'=>e=.returned (.tuple #[.slice none 0 0,.int .i64 19])∧Below w.heap.size w w':=by
 have hB2:Below w.heap.size w ((w.alloc (.cells #[.slice none 0 0] 173)).alloc (.cells #[.int .i64 0] 32)):=bch (bnew _ _) (bnew _ _)
 have HS:=Lib.hid (callsIn_wide (n:=6-1).2 (sections_nil ((w.alloc (.cells #[.slice none 0 0] 173)).alloc (.cells #[.int .i64 0] 32))))
 have b0:=(Boxed.new w 173 (.slice none 0 0)).alloc (.cells #[.int .i64 0] 32)
 have b1:=Boxed.new (w.alloc (.cells #[.slice none 0 0] 173)) 32 (.int .i64 0)
 rw [World.size_alloc] at b1
 have HB2:=Lib.hid hB2
 have HX0:=Lib.hid b0
 have HX1:=Lib.hid b1
 clear hB2 b0 b1
 refine (callsIn_wide (n:=6)).1 ?_
 refine callsIn_of_wp_marks Tryz.func113 rfl trivial ?_ rfl
 simp only [Tryz.ntmps113,List.size_toArray,List.length_cons,List.length_nil,Nat.reduceAdd,Nat.reduceSub,Array.replicate_succ,Array.replicate_zero,List.push_toArray,List.append_toArray,List.nil_append,List.cons_append]
 gi_wp2_with (refine⟨trivial,?_⟩;gi_at_call 151;((with_reducible refine (HS.out).mono ?_);rintro e w1 ⟨rfl,b3⟩))
 have x0:=(L14.Boxed.below HX0.out b3).alloc (.cells #[.bool false] 4)
 have x1:=(L14.Boxed.below HX1.out b3).alloc (.cells #[.bool false] 4)
 have hb4:=(HB2.out.trans (b3.mono HB2.out.size)).alloc (Nat.le_trans HB2.out.size b3.size) (.cells #[.bool false] 4)
 have c0:=x0.cell
 have c1:=x1.cell
 have f0:=x0.frozen
 have f1:=x1.frozen
 have l0:=x0.lt
 have l1:=x1.lt
 have z1:w.heap.size≤w1.heap.size:=Nat.le_trans HB2.out.size b3.size
 clear HS
 refine⟨trivial,?_⟩
 gi_wp2
 refine⟨trivial,?_⟩
 gi_wp2
 have k0:=((x0.set (.slice none 0 0)).other (B':=w.heap.size+1) (by omega) (.int .i64 19)).cell
 have k1:=((x1.other (B':=w.heap.size) (by omega) (.slice none 0 0)).set (.int .i64 19)).cell
 refine⟨.tuple #[.slice none 0 0,.int .i64 19],by simp [results,Tryz.results113,go_sem,k0,k1],rfl,?_⟩
 exact (hb4.setCell (p:=⟨w.heap.size,0,none⟩) (Nat.le_refl _) _).setCell (p:=⟨w.heap.size+1,0,none⟩) (Nat.le_succ _) _
theorem content_nil (w:World):Calls Tryz.prog 71 #[bNil] w fun e w'=>e=.returned (.tuple #[.agg #[.slice none 0 0,.slice none 0 0,.slice none 0 0],.bool false])∧Below w.heap.size w w':=by
 have HR:=Lib.hid (read_nil (w.alloc (.cells nil3 26)))
 have K0:=Lib.hid (heap_alloc_last w (.cells nil3 26))
 have HB:=Lib.hid (bnew w (.cells nil3 26))
 go_enter Tryz.func71,Tryz.ntmps71
 go_upto_region 3 with (go_at_call 113;((with_reducible refine (HR.out).mono ?_);rintro e w1 ⟨rfl,b1⟩))
 have q2:=L8.row_up K0.out b1
 have B1:=bch HB.out b1
 go_wp2_with (refine wpList_store_row rfl _ _ _ rfl w.heap.size nil3 rfl rfl 26 _ q2 (by kernel_rfl) rfl (by simp [Value.oneCell']) ?_)
 obtain⟨z0,z1,z2⟩:=L13.cells3 (setRow_heap _ _ _ nil3 _ _ q2)
 exact bodyPost_ret (v:=.tuple #[.agg nil3,.bool false]) (by simp [results,Tryz.results71,go_sem,z0,z1,z2]) rfl ⟨rfl,below_setRow B1 (Nat.le_refl _) _⟩
theorem parse_nil (w:World):Calls Tryz.prog 35 #[bNil] w fun e w'=>e=.returned (.tuple #[.agg #[.slice none 0 0,.slice none 0 0,.slice none 0 0],.int .i64 19])∧Below w.heap.size w w':=by
 have HC:=Lib.hid (content_nil (w.alloc (.cells nil3 26)))
 have K0:=Lib.hid (heap_alloc_last w (.cells nil3 26))
 have HB:=Lib.hid (bnew w (.cells nil3 26))
 go_enter Tryz.func35,Tryz.ntmps35
 go_upto_region 5 with (go_at_call 71;((with_reducible refine (HC.out).mono ?_);rintro e w1 ⟨rfl,b1⟩))
 have q1:=L8.row_up K0.out b1
 have B1:=bch HB.out b1
 have q2:=L8.row_up q1 (bnew w1 (.cells nil3 26))
 have B2:=bch B1 (bnew w1 (.cells nil3 26))
 go_wp2_with (refine wpList_store_row rfl _ _ _ rfl w.heap.size nil3 rfl rfl 26 _ q2 (by kernel_rfl) rfl (by simp [Value.oneCell']) ?_)
 obtain⟨z0,z1,z2⟩:=L13.cells3 (setRow_heap _ _ _ nil3 _ _ q2)
 exact bodyPost_ret (v:=.tuple #[.agg nil3,.int .i64 19]) (by simp [results,Tryz.results35,go_sem,z0,z1,z2]) rfl ⟨rfl,below_setRow B2 (Nat.le_refl _) _⟩
theorem lbytes_nil (w:World):Calls Tryz.prog 15 #[bNil] w fun e w'=>e=.returned (.tuple #[.agg #[.slice none 0 0,.slice none 0 0],.int .i64 0,.int .i64 19])∧Below w.heap.size w w':=by
 have K0:=Lib.hid (heap_alloc_last w (im2 (.slice none 0 0) (.slice none 0 0)))
 have HB:=Lib.hid (bnew w (im2 (.slice none 0 0) (.slice none 0 0)))
 have HC:=Lib.hid (parse_nil (w.alloc (im2 (.slice none 0 0) (.slice none 0 0))))
 go_enter Tryz.func15,Tryz.ntmps15
 go_wp2_with (go_at_call 35;((with_reducible refine (HC.out).mono ?_);rintro e w1 ⟨rfl,b1⟩;have j1:=L8.row_up (L8.row_up K0.out b1) (bnew w1 (ob3 (.slice none 0 0) (.slice none 0 0) (.slice none 0 0)));obtain⟨z0,z1⟩:=cells2 j1;have lz:=lt_of_block j1;rw [World.size_alloc] at lz;have fz:=frozen_all j1))
 obtain⟨u0,u1⟩:=cells2 (set2 (x:=.slice none 0 0) (y:=.slice none 0 0) j1)
 exact bodyPost_ret (v:=.tuple #[.agg #[.slice none 0 0,.slice none 0 0],.int .i64 0,.int .i64 19]) (by simp [results,Tryz.results15,go_sem,u0,u1]) rfl ⟨rfl,bel2 (bch (bch HB.out b1) (bnew w1 _)) (Nat.le_refl _) _ _⟩
end Go.Proofs.YtdgnjhhieemcaaaGreatDoor.L18
end
section
namespace Go.Proofs.YtdgnjhhieemcaaaGreatDoor.L18
open Go.RowKit Go.Shelf L3 L4 L12 L14 L17
open L10 (Stm Pg)
open L13 (Ob)
open L16 (OA OS Tb tb_below)
attribute [local go_sem] Oper.semAt_some
structure T18 (w:World):Prop where
 two:L1.Wid w∧L2.Regs w
 big:3≤w.heap.size
theorem T18.below {w w':World} (h:T18 w) (hb:Below w.heap.size w w'):T18 w':=⟨⟨L4.wid_below h.two.1 hb,h.two.2.below hb⟩,Nat.le_trans h.big hb.size⟩
abbrev tP:ByteArray:=⟨#[109,97,112,32,109,32,49,32,49,32,49,10,109,97,112,32,110,32,49,32,49,32,49,10,108,100,109,97,112,32,114,49,44,32,110,10,101,120,105,116]⟩
def pP:Pg:=⟨[⟨⟨#[109]⟩,1,1,1⟩,⟨⟨#[110]⟩,1,1,1⟩],[⟨[],⟨85,false,1,0,0,0⟩,⟨#[]⟩,⟨#[110]⟩⟩,⟨[],⟨68,false,0,0,0,0⟩,⟨#[]⟩,⟨#[]⟩⟩]⟩
def oP:Ob:=⟨[⟨⟨#[109]⟩,1,1,1⟩,⟨⟨#[110]⟩,1,1,1⟩],[24,17,0,0,0,0,0,0,0,0,0,0,0,0,0,0,149,0,0,0,0,0,0,0],[(0,1)]⟩
def mP:List L9.Ins:=[⟨85,false,1,0,0,1⟩,⟨68,false,0,0,0,0⟩]
theorem paP:L10.paV tP=(pP,[3,4],0,0):=by kernel_rfl
theorem brP:(L10.brV pP).2.2=0:=by kernel_rfl
theorem obP:L13.obV pP=oP:=by kernel_rfl
theorem vP:vE oP=(0,0):=by kernel_rfl
theorem lP:ldL oP=mP:=by kernel_rfl
theorem nP:(inL oP.code).length=2:=by kernel_rfl
theorem unP:unO oP.maps mP=oP:=by
 rw [← lP]
 exact un_im (vd_of (by rw [vP]))
theorem osP:OS oP:=⟨by decide,by decide,by decide,by decide⟩
theorem stP:true=true↔StOk oP.maps mP:=by
 unfold StOk
 rw [unP,vP,lP]
 exact⟨fun _=>⟨rfl,rfl⟩,fun _=>rfl⟩
theorem fitsP:L10.Fits pP where
 maps:=by decide
 stmts:=by decide
 labs:=by decide
 nm:=fun d hd=>by
  simp only [pP,List.mem_cons,List.not_mem_nil,or_false] at hd
  rcases hd with rfl|rfl <;> decide
 lb:=fun s hs t ht=>by
  simp only [pP,List.mem_cons,List.not_mem_nil,or_false] at hs
  rcases hs with rfl|rfl <;> cases ht
 tg:=fun s hs=>by
  simp only [pP,List.mem_cons,List.not_mem_nil,or_false] at hs
  rcases hs with rfl|rfl <;> exact⟨by decide,by decide⟩
theorem mfP:∀ x∈mP,L5.Ix.fits (L13.tI x):=fun x hx=>by
 simp only [mP,List.mem_cons,List.not_mem_nil,or_false] at hx
 rcases hx with rfl|rfl <;> exact⟨by decide,by decide⟩
theorem textP (w:World) (hT:T18 w):Calls Tryz.prog 27 #[.string tP] w fun e w'=>(∃ a1 c1 a2 c2 a3 c3,e=.returned (.tuple #[.agg #[.slice a1 2 c1,.slice a2 24 c2,.slice a3 1 c3],.int .i64 0,.int .i64 0])∧OA w' (.slice a1 2 c1) (.slice a2 24 c2) (.slice a3 1 c3) oP)∧Below w.heap.size w w':=by
 refine (L13.text_ok _ w pP [3,4] 0 brP fitsP (by decide) hT.two (fun X hX=>L10.parse_at _ X (by decide) (hT.below hX).two (hT.below hX).big _ paP)).mono fun e w' h=>?_
 obtain⟨vm,vc,vr,rfl,ho,hb⟩:=h
 have ha:=ho.at
 rw [obP] at ha
 have hc:L13.cdB pP=oP.code:=congrArg Ob.code obP
 have hcc:=ho.c
 rw [hc] at hcc
 have hoa:OA w' vm vc vr oP:=⟨ha.m,L14.Rw.own hcc,ha.r⟩
 obtain⟨a1,c1,a2,c2,a3,c3,rfl,rfl,rfl⟩:=oa_form hoa
 exact⟨⟨a1,c1,a2,c2,a3,c3,rfl,hoa⟩,hb⟩
theorem oa_ob {W:World} {vm vc vr:Value} (h:OA W vm vc vr oP):L13.ObAt W vm vc vr oP:=⟨h.m,(rw_bs h.c (by decide)).v,h.r⟩
theorem alive18 (w:World) (hT:T18 w):Calls Tryz.prog 10 #[] w fun e w'=>e=.returned (.bool true)∧Below w.heap.size w w':=by
 have HA:=Lib.hid (textP w hT)
 have HTb:=Lib.hid (fun (X:World) (hX:Below w.heap.size w X)=>(show Tb X from (hT.below hX).two))
 have HL:=Lib.hid (fun (a1:Option Addr) (c1:Nat) (a2:Option Addr) (c2:Nat) (a3:Option Addr) (c3:Nat) (X:World) (hX:Below w.heap.size w X) (h:OA X (.slice a1 2 c1) (.slice a2 24 c2) (.slice a3 1 c3) oP)=>(load_yes _ _ _ oP 0 2 X h osP (HTb.out X hX) vP nP).mono (fun e w' h=>ld_q (d:=2) h rfl))
 have HS:=Lib.hid (fun (a1:Option Addr) (c1:Nat) (a2:Option Addr) (c2:Nat) (X:World) (hX:Below w.heap.size w X) (h1:L10.DfAt X (.slice a1 2 c1) oP.maps) (h2:IsAt X (.slice a2 2 c2) mP)=>store_at (.slice a1 2 c1) (.slice a2 2 c2) oP.maps mP true X (by decide) (by decide) h1 h2 mfP (HTb.out X hX) (by rw [unP];exact osP) stP)
 rw [lP] at HL
 unfold StP at HS
 rw [unP] at HS
 clear hT HTb
 go_enter Tryz.func10,Tryz.ntmps10
 go_upto_region 2 with (go_at_call 27;((with_reducible refine (HA.out).mono ?_);rintro e w1 ⟨⟨a1,c1,a2,c2,a3,c3,rfl,ho⟩,b1⟩))
 have hk1:=heap_alloc_last w1 (ob3 (.slice a1 2 c1) (.slice a2 24 c2) (.slice a3 1 c3))
 have n1:=bnew w1 (ob3 (.slice a1 2 c1) (.slice a2 24 c2) (.slice a3 1 c3))
 have ho1:=ho.below n1
 have B1:=bch b1 n1
 obtain⟨q1,hq⟩:∃ q,w1.heap.size=q:=⟨_,rfl⟩
 rw [hq] at hk1 ⊢
 clear hq n1 ho b1 HA
 generalize w1.alloc (.cells _ 26)=W1 at hk1 ho1 B1 ⊢
 obtain⟨x0,x1,x2⟩:=L13.cells3 hk1
 go_upto_region 3 with (go_at_call 11;((with_reducible refine (HL.out _ _ _ _ _ _ _ B1 ho1).mono ?_);rintro e w2 ⟨⟨am,cm,ac,cc,rfl,hi⟩,b2⟩))
 have hk2:=heap_alloc_last w2 (im2 (.slice am 2 cm) (.slice ac 2 cc))
 have n2:=bch b2 (bnew w2 (im2 (.slice am 2 cm) (.slice ac 2 cc)))
 have hi2:=hi.below (bnew w2 (im2 (.slice am 2 cm) (.slice ac 2 cc)))
 have hk1':=L8.row_up hk1 n2
 have ho2:=ho1.below n2
 have B2:=bch B1 n2
 obtain⟨q2,hq⟩:∃ q,w2.heap.size=q:=⟨_,rfl⟩
 rw [hq] at hk2 ⊢
 clear hq n2 b2 hi ho1 hk1 B1 x0 x1 x2 HL
 generalize w2.alloc (.cells _ 31)=W2 at hk2 hi2 hk1' ho2 B2 ⊢
 obtain⟨x0,x1⟩:=cells2 hk2
 have hdf:=hi2.df
 have his:=hi2.is
 go_upto_region 4 with (go_at_call 18;((with_reducible refine (HS.out _ _ _ _ _ B2 hdf his).mono ?_);rintro e w3 ⟨⟨vm,vc,vr,rfl,hs⟩,b3⟩;obtain⟨d1,e1,d2,e2,d3,e3,rfl,rfl,rfl⟩:=oa_form hs))
 have hk3:=heap_alloc_last w3 (ob3 (.slice d1 2 e1) (.slice d2 24 e2) (.slice d3 1 e3))
 have n3:=bch b3 (bnew w3 (ob3 (.slice d1 2 e1) (.slice d2 24 e2) (.slice d3 1 e3)))
 have hs3:=hs.below (bnew w3 (ob3 (.slice d1 2 e1) (.slice d2 24 e2) (.slice d3 1 e3)))
 have hk1'':=L8.row_up hk1' n3
 have hk2':=L8.row_up hk2 n3
 have ho3:=ho2.below n3
 have hdf3:=hdf.below n3
 have his3:=his.below n3
 have B3:=bch B2 n3
 obtain⟨q3,hq⟩:∃ q,w3.heap.size=q:=⟨_,rfl⟩
 change Code.wp _ _ _ _ (w3.alloc (ob3 (.slice d1 2 e1) (.slice d2 24 e2) (.slice d3 1 e3)))
 rw [hq] at hk3 ⊢
 clear hq n3 b3 hs ho2 hk1' hk2 B2 hdf his hi2 x0 x1 HS
 generalize w3.alloc (ob3 (.slice d1 2 e1) (.slice d2 24 e2) (.slice d3 1 e3))=W3 at hk3 hs3 hk1'' hk2' ho3 hdf3 his3 B3 ⊢
 go_upto_region 5 with (go_at_call 15;((with_reducible refine (lbytes_nil _).mono ?_);rintro e w4 ⟨rfl,b4⟩))
 have n4:=bch b4 (bnew w4 (im2 (.slice none 0 0) (.slice none 0 0)))
 have k1:=L8.row_up hk1'' n4
 have k2:=L8.row_up hk2' n4
 have k3:=L8.row_up hk3 n4
 have ho4:=ho3.below n4
 have hs4:=hs3.below n4
 have hdf4:=hdf3.below n4
 have his4:=his3.below n4
 have B4:=bch B3 n4
 clear hk1'' hk2' hk3 ho3 hs3 hdf3 his3 B3 b4 n4
 change Code.wp _ _ _ _ (w4.alloc (im2 (.slice none 0 0) (.slice none 0 0)))
 obtain⟨q4,hq⟩:∃ q,w4.heap.size=q:=⟨_,rfl⟩
 rw [hq]
 clear hq
 generalize w4.alloc (im2 (.slice none 0 0) (.slice none 0 0))=W4 at *
 obtain⟨ca,ce,hce,hcc⟩:=is_form (n:=2) rfl his4
 cases hce
 obtain⟨bb,bo,rfl,hbl,hcc⟩:=hcc (by decide)
 obtain⟨-,-,-,-,-,y5⟩:=hcc 0 (by decide)
 have y5:W4.cell? ⟨bb,bo+5,none⟩=some (.int .i64 1):=y5
 have HS1:=Lib.hid (L13.rsame13_at (.slice a1 2 c1) (.slice a2 24 c2) (.slice a3 1 c3) (.slice d1 2 e1) (.slice d2 24 e2) (.slice d3 1 e3) oP oP true W4 (oa_ob ho4) (oa_ob hs4) ⟨by decide,by decide,by decide⟩ ⟨by decide,by decide,by decide⟩ (by simp))
 have HS2:=Lib.hid (fun (X:World) (hX:Below W4.heap.size W4 X)=>lsame_at (.slice am 2 cm) (.slice (some ⟨bb,bo,none⟩) 2 cc) (.slice am 2 cm) (.slice (some ⟨bb,bo,none⟩) 2 cc) oP.maps oP.maps mP mP true X (by decide) (by decide) (by decide) (by decide) (hdf4.below hX) (his4.below hX) (hdf4.below hX) (his4.below hX) (by simp))
 have HS3:=Lib.hid (fun (X:World) (hX:Below W4.heap.size W4 X)=>lsame_at (.slice am 2 cm) (.slice (some ⟨bb,bo,none⟩) 2 cc) (.slice none 0 0) (.slice none 0 0) oP.maps [] mP [] false X (by decide) (by decide) (by decide) (by decide) (hdf4.below hX) (his4.below hX) (.inr ⟨rfl,none,0,rfl⟩) (.inr ⟨rfl,none,0,rfl⟩) (by simp [oP]))
 have HK:=Lib.hid (And.intro k1 (And.intro k2 k3))
 have HB:=Lib.hid B4
 obtain⟨x0,x1,x2⟩:=L13.cells3 k1
 obtain⟨z0,z1⟩:=cells2 k2
 obtain⟨v0,v1,v2⟩:=L13.cells3 k3
 have l1:=lt_of_block k1
 have l2:=lt_of_block k2
 have l3:=lt_of_block k3
 clear hcc hdf4 his4 ho4 hs4 k1 k2 k3 B4
 go_wp2_with (first
  | (go_at_call 20;((with_reducible refine (HS1.out).mono ?_);rintro e w5 ⟨rfl,b5⟩;obtain⟨t0,t1⟩:=cells2 (L8.row_up HK.out.2.1 b5)))
  | (go_at_call 21;first|((with_reducible refine (HS2.out _ b5).mono ?_);rintro e w6 ⟨rfl,b6⟩;have b56:=bch b5 b6;obtain⟨u0,u1⟩:=cells2 (L8.row_up HK.out.2.1 b56))|((with_reducible refine (HS3.out _ b56).mono ?_);rintro e w7 ⟨rfl,b7⟩)))
 go_ret
 exact⟨rfl,bch (bch HB.out b56) b7⟩
end Go.Proofs.YtdgnjhhieemcaaaGreatDoor.L18
end
section
namespace Go.Proofs.YtdgnjhhieemcaaaGreatDoor
open Go.ChangeShapes Go.WideShapes Go.ChangeAt Go.RowKit
theorem tabs_of18 {W:World} (h:laidMetH Tryz.prog laid2 W) (_:W.ShapedOpen Tryz.prog):L18.T18 W:=⟨tabs_of2 h,by
 obtain⟨t,fr,he⟩:=(tabs_of2 h).2
 exact lt_of_block he⟩
end Go.Proofs.YtdgnjhhieemcaaaGreatDoor
end
