/- What the program's Parse returns: the object whose bytes some bytes are, or ErrBox. Condition: memory holds the bytes, which are no more than 100000, and the tables read as laid. -/
import Derived.Test.YtihiggnglmhggaaGreatDoorM30
import Derived.Test.YtihiggnglmhggaaGreatDoorM31
set_option maxHeartbeats 4000000
namespace Go.Proofs.YtihiggnglmhggaaGreatDoor.L16
set_option maxRecDepth 100000
open Go.RowKit L14 L15
open L13 (Ob)
attribute [local go_sem] Oper.semAt_some
def PaN (w:World) (e:Ending) (w':World):Prop:=e=.returned (.tuple #[.agg #[.slice none 0 0,.slice none 0 0,.slice none 0 0],.int .i64 19])∧Below w.heap.size w w'
def PaY (o:Ob) (w:World) (e:Ending) (w':World):Prop:=(∃ vm vc vr,e=.returned (.tuple #[.agg #[vm,vc,vr],.int .i64 0])∧OA w' vm vc vr o)∧Below w.heap.size w w'
theorem three_cells {W:World} {kr i:Nat} {a1 a2 a3:Option Addr} {n1 c1 n2 c2 n3 c3:Nat} {t:TypeId} {v:Value} (hr:W.heap[kr]?=some (.cells #[.slice a1 n1 c1,.slice a2 n2 c2,.slice a3 n3 c3] t)) (h:W.cell? ⟨kr,i,none⟩=some v):∃ a n c,v=.slice a n c:=by
 unfold World.cell? at h
 simp only [hr] at h
 match i,h with
 | 0,h=>simp at h;exact⟨_,_,_,h.symm⟩
 | 1,h=>simp at h;exact⟨_,_,_,h.symm⟩
 | 2,h=>simp at h;exact⟨_,_,_,h.symm⟩
 | i+3,h=>simp at h
theorem oa_setRow {W:World} {kr:Nat} {a1 a2 a3:Option Addr} {n1 c1 n2 c2 n3 c3:Nat} {cs:Array Value} {t:TypeId} {vm vc vr:Value} {o:Ob} (h:OA W vm vc vr o) (hr:W.heap[kr]?=some (.cells #[.slice a1 n1 c1,.slice a2 n2 c2,.slice a3 n3 c3] t)):OA (W.setRow kr cs) vm vc vr o:=by
 have hsz:=(L13.gr_setRow W kr cs).size
 refine⟨?_,rw_setRow h.c hr,?_⟩
 ·rcases h.m with ⟨b,off,cap,hv,hlt,hc⟩|h0
  ·refine .inl ⟨b,off,cap,hv,Nat.lt_of_lt_of_le hlt hsz,fun j hj i u hu=>?_⟩
   have hne:b≠kr:=by
    rintro rfl
    obtain⟨x,y,z,e⟩:=three_cells hr (hc j hj 0 _ rfl)
    cases e
   rw [cell_setRow_other _ _ _ _ hne]
   exact hc j hj i u hu
  ·exact .inr h0
 ·rcases h.r with ⟨b,off,cap,hv,hlt,hc⟩|h0
  ·refine .inl ⟨b,off,cap,hv,Nat.lt_of_lt_of_le hlt hsz,fun j hj=>?_⟩
   have hne:b≠kr:=by
    rintro rfl
    obtain⟨x,y,z,e⟩:=three_cells hr (hc j hj).1
    cases e
   rw [cell_setRow_other _ _ _ _ hne,cell_setRow_other _ _ _ _ hne]
   exact hc j hj
  ·exact .inr h0
section
variable (a:Option Addr) (n c:Nat) (b:List UInt8) (w:World) (hv:Rw eB w (.slice a n c) b) (hb:n≤100000)
include hv hb
theorem parse16_none (hC:∀ w,Rw eB w (.slice a n c) b→Calls Tryz.prog 66 #[.slice a n c] w (CoN b w)) :
  Calls Tryz.prog 36 #[.slice a n c] w (PaN w):=by
 have HC:=Lib.hid (hC _ (hv.below (bnew w (.cells nil3 26))))
 have K0:=Lib.hid (heap_alloc_last w (.cells nil3 26))
 have HB:=Lib.hid (bnew w (.cells nil3 26))
 clear hv hC
 go_enter Tryz.func36,Tryz.ntmps36
 go_upto_region 5 with (go_at_call 66;((with_reducible refine (HC.out).mono ?_);rintro e w1 ⟨-,rfl,b1⟩))
 have q1:=L8.row_up K0.out b1
 have B1:=bch HB.out b1
 have q2:=L8.row_up q1 (bnew w1 (.cells nil3 26))
 have B2:=bch B1 (bnew w1 (.cells nil3 26))
 go_wp2_with (refine wpList_store_row rfl _ _ _ rfl w.heap.size nil3 rfl rfl 26 _ q2 (by kernel_rfl) rfl (by simp [Value.oneCell']) ?_)
 obtain⟨z0,z1,z2⟩:=L13.cells3 (setRow_heap _ _ _ nil3 _ _ q2)
 exact bodyPost_ret (v:=.tuple #[.agg nil3,.int .i64 19]) (by simp [results,Tryz.results36,go_sem,z0,z1,z2]) rfl ⟨rfl,below_setRow B2 (Nat.le_refl _) _⟩
theorem parse16_bad (hT:Tb w) (o:Ob) (ho:OS o) (R:Int) (hR:chE o=R) (h0:R≠0) (hC:∀ w,Rw eB w (.slice a n c) b→Calls Tryz.prog 66 #[.slice a n c] w (CoY o w)) :
  Calls Tryz.prog 36 #[.slice a n c] w (PaN w):=by
 have HC:=Lib.hid (hC _ (hv.below (bnew w (.cells nil3 26))))
 have HP:=Lib.hid (fun (X:World) (vm vc vr:Value) (hX:Below w.heap.size w X) (hoa:OA X vm vc vr o)=>pack_no vm vc vr o X hoa ho (tb_below hT hX) R hR h0)
 have h0':(R != 0)=true:=by simpa using h0
 have K0:=Lib.hid (heap_alloc_last w (.cells nil3 26))
 have HB:=Lib.hid (bnew w (.cells nil3 26))
 clear hv hC ho hT hR
 go_enter Tryz.func36,Tryz.ntmps36
 go_upto_region 8 with (first
  | (go_at_call 66;((with_reducible refine (HC.out).mono ?_);rintro e w1 ⟨⟨vm,vc,vr,rfl,hoa⟩,b1⟩;obtain⟨a1,c1,rfl,-⟩:=L10.df_form rfl hoa.m;obtain⟨a2,c2,rfl,-⟩:=hoa.c.form rfl;obtain⟨a3,c3,rfl,-⟩:=L13.ro_form rfl hoa.r;have B1:=bch HB.out b1))
  | (go_at_call 67;((with_reducible refine (HP.out _ _ _ _ (bch B1 (bnew _ _)) (hoa.below (bnew _ _))).mono ?_);rintro e w2 ⟨rfl,b2⟩)))
 have q1:=L8.row_up K0.out b1
 have q2:=L8.row_up (L8.row_up q1 (bnew w1 (.cells #[.slice a1 o.maps.length c1,.slice a2 o.code.length c2,.slice a3 o.rels.length c3] 26))) b2
 have B2:=bch (bch B1 (bnew w1 (.cells #[.slice a1 o.maps.length c1,.slice a2 o.code.length c2,.slice a3 o.rels.length c3] 26))) b2
 go_wp2_with (refine wpList_store_row rfl _ _ _ rfl w.heap.size nil3 rfl rfl 26 _ q2 (by kernel_rfl) rfl (by simp [Value.oneCell']) ?_)
 obtain⟨z0,z1,z2⟩:=L13.cells3 (setRow_heap _ _ _ nil3 _ _ q2)
 exact bodyPost_ret (v:=.tuple #[.agg nil3,.int .i64 19]) (by simp [results,Tryz.results36,go_sem,z0,z1,z2]) rfl ⟨rfl,below_setRow B2 (Nat.le_refl _) _⟩
theorem parse16_off (hT:Tb w) (o:Ob) (ho:OS o) (hR:chE o=0) (he:pkB o≠b) (hC:∀ w,Rw eB w (.slice a n c) b→Calls Tryz.prog 66 #[.slice a n c] w (CoY o w)) :
  Calls Tryz.prog 36 #[.slice a n c] w (PaN w):=by
 have HC:=Lib.hid (hC _ (hv.below (bnew w (.cells nil3 26))))
 have HP:=Lib.hid (fun (X:World) (vm vc vr:Value) (hX:Below w.heap.size w X) (hoa:OA X vm vc vr o)=>pack_yes vm vc vr o X hoa ho (tb_below hT hX) (pkB o).length hR rfl)
 have HE:=Lib.hid (fun (X:World) (v:Value) (hX:Below w.heap.size w X) (hp:Rw eB X v (pkB o))=>bequal_at v (.slice a n c) (pkB o) b false X hp (hv.below hX) (by simpa using he))
 generalize (pkB o).length=N at HP
 have K0:=Lib.hid (heap_alloc_last w (.cells nil3 26))
 have HB:=Lib.hid (bnew w (.cells nil3 26))
 clear hv hC ho hT hR he
 go_enter Tryz.func36,Tryz.ntmps36
 go_upto_region 8 with (first
  | (go_at_call 66;((with_reducible refine (HC.out).mono ?_);rintro e w1 ⟨⟨vm,vc,vr,rfl,hoa⟩,b1⟩;obtain⟨a1,c1,rfl,-⟩:=L10.df_form rfl hoa.m;obtain⟨a2,c2,rfl,-⟩:=hoa.c.form rfl;obtain⟨a3,c3,rfl,-⟩:=L13.ro_form rfl hoa.r;have B1:=bch HB.out b1))
  | (go_at_call 67;((with_reducible refine (HP.out _ _ _ _ (bch B1 (bnew _ _)) (hoa.below (bnew _ _))).mono ?_);rintro e w2 ⟨⟨pa,pc,rfl,rp⟩,b2⟩))
  | (go_at_call 68;((with_reducible refine (HE.out _ _ (bch (bch B1 (bnew _ _)) b2) rp).mono ?_);rintro e w3 ⟨rfl,rfl⟩)))
 have q1:=L8.row_up K0.out b1
 have q2:=L8.row_up (L8.row_up q1 (bnew w1 (.cells #[.slice a1 o.maps.length c1,.slice a2 o.code.length c2,.slice a3 o.rels.length c3] 26))) b2
 have B2:=bch (bch B1 (bnew w1 (.cells #[.slice a1 o.maps.length c1,.slice a2 o.code.length c2,.slice a3 o.rels.length c3] 26))) b2
 go_wp2_with (refine wpList_store_row rfl _ _ _ rfl w.heap.size nil3 rfl rfl 26 _ q2 (by kernel_rfl) rfl (by simp [Value.oneCell']) ?_)
 obtain⟨z0,z1,z2⟩:=L13.cells3 (setRow_heap _ _ _ nil3 _ _ q2)
 exact bodyPost_ret (v:=.tuple #[.agg nil3,.int .i64 19]) (by simp [results,Tryz.results36,go_sem,z0,z1,z2]) rfl ⟨rfl,below_setRow B2 (Nat.le_refl _) _⟩
theorem parse16_yes (hT:Tb w) (o:Ob) (ho:OS o) (hR:chE o=0) (he:pkB o=b) (hC:∀ w,Rw eB w (.slice a n c) b→Calls Tryz.prog 66 #[.slice a n c] w (CoY o w)) :
  Calls Tryz.prog 36 #[.slice a n c] w (PaY o w):=by
 have HC:=Lib.hid (hC _ (hv.below (bnew w (.cells nil3 26))))
 have HP:=Lib.hid (fun (X:World) (vm vc vr:Value) (hX:Below w.heap.size w X) (hoa:OA X vm vc vr o)=>pack_yes vm vc vr o X hoa ho (tb_below hT hX) (pkB o).length hR rfl)
 have HE:=Lib.hid (fun (X:World) (v:Value) (hX:Below w.heap.size w X) (hp:Rw eB X v (pkB o))=>bequal_at v (.slice a n c) (pkB o) b true X hp (hv.below hX) (by simpa using he))
 generalize (pkB o).length=N at HP
 have K0:=Lib.hid (heap_alloc_last w (.cells nil3 26))
 have HB:=Lib.hid (bnew w (.cells nil3 26))
 clear hv hC ho hT hR he
 go_enter Tryz.func36,Tryz.ntmps36
 go_upto_region 9 with (first
  | (go_at_call 66;((with_reducible refine (HC.out).mono ?_);rintro e w1 ⟨⟨vm,vc,vr,rfl,hoa⟩,b1⟩;obtain⟨a1,c1,rfl,-⟩:=L10.df_form rfl hoa.m;obtain⟨a2,c2,rfl,-⟩:=hoa.c.form rfl;obtain⟨a3,c3,rfl,-⟩:=L13.ro_form rfl hoa.r;have B1:=bch HB.out b1))
  | (go_at_call 67;((with_reducible refine (HP.out _ _ _ _ (bch B1 (bnew _ _)) (hoa.below (bnew _ _))).mono ?_);rintro e w2 ⟨⟨pa,pc,rfl,rp⟩,b2⟩;have r1:=L8.row_up (heap_alloc_last w1 (.cells #[.slice a1 o.maps.length c1,.slice a2 o.code.length c2,.slice a3 o.rels.length c3] 26)) b2))
  | (go_at_call 68;((with_reducible refine (HE.out _ _ (bch (bch B1 (bnew _ _)) b2) rp).mono ?_);rintro e w3 ⟨rfl,rfl⟩)))
 have q1:=L8.row_up K0.out b1
 have q2:=L8.row_up (L8.row_up q1 (bnew w1 (.cells #[.slice a1 o.maps.length c1,.slice a2 o.code.length c2,.slice a3 o.rels.length c3] 26))) b2
 have B2:=bch (bch B1 (bnew w1 (.cells #[.slice a1 o.maps.length c1,.slice a2 o.code.length c2,.slice a3 o.rels.length c3] 26))) b2
 have HOA:=Lib.hid ((hoa.below (bnew w1 (.cells #[.slice a1 o.maps.length c1,.slice a2 o.code.length c2,.slice a3 o.rels.length c3] 26))).below b2)
 obtain⟨x0,x1,x2⟩:=L13.cells3 r1
 have l0:=World.block_lt_of_cell? _ _ x0
 simp only at l0
 clear hoa
 go_wp2_with (refine wpList_store_row rfl _ _ _ rfl w.heap.size #[.slice a1 o.maps.length c1,.slice a2 o.code.length c2,.slice a3 o.rels.length c3] rfl rfl 26 _ q2 (by kernel_rfl) rfl (by simp [Value.oneCell']) ?_)
 obtain⟨z0,z1,z2⟩:=L13.cells3 (setRow_heap _ _ _ #[.slice a1 o.maps.length c1,.slice a2 o.code.length c2,.slice a3 o.rels.length c3] _ _ q2)
 exact bodyPost_ret (v:=.tuple #[.agg #[.slice a1 o.maps.length c1,.slice a2 o.code.length c2,.slice a3 o.rels.length c3],.int .i64 0]) (by simp [results,Tryz.results36,go_sem,z0,z1,z2]) rfl ⟨⟨_,_,_,rfl,oa_setRow HOA.out q2⟩,below_setRow B2 (Nat.le_refl _) _⟩
theorem parse16_at (hT:Tb w):((∀ q,¬ Is16 b q)∧Calls Tryz.prog 36 #[.slice a n c] w (PaN w))∨∃ o,Is16 b o∧OS o∧Calls Tryz.prog 36 #[.slice a n c] w (PaY o w):=by
 rcases content_at a n c b hv.at.1 hb with ⟨hn,hC⟩|⟨o,hct,hC⟩
 ·exact .inl ⟨hn,parse16_none a n c b w hv hb hC⟩
 ·by_cases hR:chE o=0
  ·by_cases he:pkB o=b
   ·exact .inr ⟨o,⟨hR,he⟩,hct.sml,parse16_yes a n c b w hv hb hT o hct.sml hR he hC⟩
   ·exact .inl ⟨fun q hq=>he (by rw [← hct.one q hq];exact hq.2),parse16_off a n c b w hv hb hT o hct.sml hR he hC⟩
  ·exact .inl ⟨fun q hq=>hR (by rw [← hct.one q hq];exact hq.1),parse16_bad a n c b w hv hb hT o hct.sml _ rfl hR hC⟩
end
end Go.Proofs.YtihiggnglmhggaaGreatDoor.L16
