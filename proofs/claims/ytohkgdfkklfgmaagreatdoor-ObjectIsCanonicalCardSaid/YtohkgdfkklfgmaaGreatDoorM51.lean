/- Lemmas and walks of L16Cy, L16Pa: what each theorem states; conditions stand in each theorem. -/
import Derived.Test.YtohkgdfkklfgmaaGreatDoorM50
section
set_option maxHeartbeats 8000000
namespace Go.Proofs.YtohkgdfkklfgmaaGreatDoor.L16
set_option maxRecDepth 100000
open Go.RowKit L14 L15
open L13 (Ob)
attribute [local go_sem] Oper.semAt_some
theorem rw_down {w:World} {v:Value} {d:List UInt8} {t:TypeId} (h:Rw eB (w.alloc (.cells nil3 t)) v d):Rw eB w v d:=by
 obtain⟨a,c,hv,h1,h2,h3⟩:=h
 refine⟨a,c,hv,h1,h2,fun hp=>?_⟩
 obtain⟨b,o,ha,hb,hc⟩:=h3 hp
 have hn:=heap_alloc_new w (.cells nil3 t)
 have hlt:b<w.heap.size:=by
  rcases Nat.lt_or_ge b w.heap.size with h|h
  ·exact h
  ·have hb2:b=w.heap.size:=by
    simp only [World.size_alloc] at hb;omega
   subst hb2
   have h0:=hc 0 hp
   unfold World.cell? at h0
   simp only [hn,Nat.add_zero] at h0
   match o,h0 with
   | 0,h0=>simp at h0
   | 1,h0=>simp at h0
   | 2,h0=>simp at h0
   | o+3,h0=>simp at h0
 exact⟨b,o,ha,hlt,fun j hj=>by rw [← hc j hj];exact ((bnew w (.cells nil3 t)).cell (by exact hlt)).symm⟩
theorem rw_setRow {W:World} {kr:Nat} {a1 a2 a3:Option Addr} {n1 c1 n2 c2 n3 c3:Nat} {v:Value} {d:List UInt8} {cs:Array Value} {t:TypeId} (h:Rw eB W v d) (hr:W.heap[kr]?=some (.cells #[.slice a1 n1 c1,.slice a2 n2 c2,.slice a3 n3 c3] t)):Rw eB (W.setRow kr cs) v d:=by
 obtain⟨a,c,hv,h1,h2,h3⟩:=h
 refine⟨a,c,hv,h1,h2,fun hp=>?_⟩
 obtain⟨b,o,ha,hb,hc⟩:=h3 hp
 have hne:b≠kr:=by
  rintro rfl
  have h0:=hc 0 hp
  unfold World.cell? at h0
  simp only [hr,Nat.add_zero] at h0
  match o,h0 with
  | 0,h0=>simp at h0
  | 1,h0=>simp at h0
  | 2,h0=>simp at h0
  | o+3,h0=>simp at h0
 refine⟨b,o,ha,Nat.lt_of_lt_of_le hb (L13.gr_setRow W kr cs).size,fun j hj=>?_⟩
 rw [cell_setRow_other _ _ _ _ hne]
 exact hc j hj
theorem own_ro {W:World} {B e:TypeId} {v:Value} {l:List (Int × Int)} {n:Nat} (hn:l.length=n) (h:W.ownsRow B e 2 v n (l.flatMap L13.roL)):L13.RoAt W v l:=by
 subst hn
 rcases h.2 with ⟨rfl,h0⟩|⟨g,cap,cur,rfl,_,hh,_⟩
 ·exact .inr ⟨List.eq_nil_of_length_eq_zero h0,none,0,rfl⟩
 ·have hget:∀ j (hj:j<l.length) i u,(L13.roL l[j])[i]?=some u→W.cell? ⟨g,0+j*2+i,none⟩=some u:=fun j hj i u hu=>by
   have:=h.cells (g:=g) rfl (j*2+i) u (L10.flat_get L13.roL 2 (fun _=>rfl) l j hj i u hu)
   rw [Nat.zero_add]
   rwa [L8.add0] at this
  exact .inl ⟨g,0,cap,rfl,lt_of_block hh,fun j hj=>⟨hget j hj 0 _ rfl,hget j hj 1 _ rfl⟩⟩
theorem row_far {W W':World} {kr:Nat} {cs:Array Value} {t B e:TypeId} {size:Nat} {v:Value} {n:Nat} {xs:List Value} (hk:W.heap[kr]?=some (.cells cs t)) (ho:W.ownsRow B e size v n xs) (hg:W.grownBy W' v.ownBlock) (he:t≠e):W'.heap[kr]?=some (.cells cs t):=by
 refine (hg.block kr (lt_of_block hk) fun h=>?_).trans hk
 obtain⟨c,hc⟩:=L10.own_ty ho h.symm
 exact L10.ty_ne hk hc he rfl
theorem own_cell {W:World} {B e:TypeId} {sz n kr i:Nat} {v u:Value} {xs:List Value} {cs:Array Value} {t:TypeId} (h:W.ownsRow B e sz v n xs) (hr:W.heap[kr]?=some (.cells cs t)) (ht:t≠e):(W.setCell ⟨kr,i,none⟩ u).ownsRow B e sz v n xs :=
 L10.own_kept h (L10.gr_setCell W kr i u) (fun g hg=>by
  obtain⟨cur,hc⟩:=L10.own_ty h hg
  exact L10.ty_ne hr hc ht)
theorem own_apart {W W':World} {B B' e e' sz sz' n n':Nat} {v v':Value} {xs ys:List Value} (h:W.ownsRow B e sz v n xs) (ho:W.ownsRow B' e' sz' v' n' ys) (hg:W.grownBy W' v'.ownBlock) (he:e≠e'):W'.ownsRow B e sz v n xs :=
 L10.own_kept h hg (fun g hv hk=>by
  obtain⟨c1,h1⟩:=L10.own_ty h hv
  obtain⟨c2,h2⟩:=L10.own_ty ho hk
  rw [h1] at h2
  cases h2
  exact he rfl)
structure Kp (B:Nat) (W:World) (vd:Value) (n:Nat) (xs:List Value) (vr:Value) (rs:List (List Int)):Prop where
 d:W.ownsRow B 62 4 vd n xs
 r:Ro B W vr rs 2
theorem Kp.below {B:Nat} {W W':World} {vd vr:Value} {n:Nat} {xs:List Value} {rs:List (List Int)} (h:Kp B W vd n xs vr rs) (hb:Below W.heap.size W W'):Kp B W' vd n xs vr rs:=⟨own_below h.d hb,h.r.below hb⟩
theorem Kp.apart {B B':Nat} {W W':World} {vd vr v:Value} {n m:Nat} {xs ys:List Value} {rs:List (List Int)} (h:Kp B W vd n xs vr rs) (ho:W.ownsRow B' 59 2 v m ys) (hg:W.grownBy W' v.ownBlock):Kp B W' vd n xs vr rs:=by
 obtain⟨h1,vs,h2,h3⟩:=h
 exact⟨own_apart h1 ho hg (by decide),vs,own_apart h2 ho hg (by decide),fun j hj=>by obtain⟨a,c,h4,h5⟩:=h3 j hj;exact⟨a,c,h4,own_apart h5 ho hg (by decide)⟩⟩
theorem Kp.cell {B:Nat} {W:World} {vd vr u:Value} {n kr i:Nat} {xs:List Value} {rs:List (List Int)} {cs:Array Value} (h:Kp B W vd n xs vr rs) (hr:W.heap[kr]?=some (.cells cs 26)):Kp B (W.setCell ⟨kr,i,none⟩ u) vd n xs vr rs:=by
 obtain⟨h1,vs,h2,h3⟩:=h
 exact⟨own_cell h1 hr (by decide),vs,own_cell h2 hr (by decide),fun j hj=>by obtain⟨a,c,h4,h5⟩:=h3 j hj;exact⟨a,c,h4,own_cell h5 hr (by decide)⟩⟩
theorem two_cells {X:World} {B e rb c:Nat} {a b:Value} (h:X.ownsRow B e 1 (.slice (some ⟨rb,0,none⟩) 2 c) 2 [a,b]):X.cell? ⟨rb,0,none⟩=some a∧X.cell? ⟨rb,1,none⟩=some b:=by
 have h0:=h.cells (g:=rb) rfl 0 a rfl
 have h1:=h.cells (g:=rb) rfl 1 b rfl
 rw [add0] at h0 h1
 exact⟨h0,h1⟩
theorem own_addr {X:World} {B e n m c sz:Nat} {a:Option Addr} {xs:List Value} (h:X.ownsRow B e sz (.slice a n c) m xs) (hm:0<m):∃ g,a=some ⟨g,0,none⟩∧n=m:=by
 rcases h.2 with ⟨h1,h2⟩|⟨g,cap,cur,hv,-⟩
 ·omega
 ·simp only [Value.slice.injEq] at hv
  exact⟨g,hv.1,hv.2.1⟩
theorem frz {w:World} {k:Nat} {cs:Array Value} {t:TypeId} (h:w.heap[k]?=some (.cells cs t)) (i:Nat):w.frozen? ⟨k,i,none⟩=false:=by simp [World.frozen?,h]
theorem infoDef:(Tryz.prog.info? 62).map (fun i=>(i.zero,i.size,i.bytes))=some (some (.agg #[.string ⟨#[]⟩,.int .i64 0,.int .i64 0,.int .i64 0]),4,40):=by kernel_rfl
theorem infoRel:(Tryz.prog.info? 59).map (fun i=>(i.zero,i.size,i.bytes))=some (some (.agg #[.int .i64 0,.int .i64 0]),2,16):=by kernel_rfl
theorem row_cells {w:World} {v:Value} {r:List Int} {m:Nat} (h:Rw eI w v r) (hr:r.length=m) (hm:0<m):∃ b o c,v=.slice (some ⟨b,o,none⟩) m c∧b<w.heap.size∧∀ j,j<m→w.cell? ⟨b,o+j,none⟩=some (eI (r.getD j 0)):=by
 obtain⟨a,c,rfl,-,-,h3⟩:=h.form hr
 obtain⟨b,o,rfl,hb,hc⟩:=h3 hm
 refine⟨b,o,c,rfl,hb,fun j hj=>?_⟩
 have hjl:j<r.length:=by omega
 rw [hc j hjl]
 simp [List.getD,hjl]
theorem zw_snoc (ts:List (List UInt8)) (rs:List (List Int)) (k:Nat) (h1:k<ts.length) (h2:k<rs.length):((List.zipWith mkD ts rs).take (k+1)).flatMap L10.dfL=((List.zipWith mkD ts rs).take k).flatMap L10.dfL++[.string (mkB ts[k]),eI (rs[k].getD 0 0),eI (rs[k].getD 1 0),eI (rs[k].getD 2 0)]:=by
 have hz:k<(List.zipWith mkD ts rs).length:=by rw [List.length_zipWith];omega
 rw [take_one _ k hz,List.flatMap_append]
 congr 1
 simp [mkD,List.getElem_zipWith]
theorem rl_snoc (rs:List (List Int)) (k:Nat) (h:k<rs.length):((rs.map mkR).take (k+1)).flatMap L13.roL=((rs.map mkR).take k).flatMap L13.roL++[eI (rs[k].getD 0 0),eI (rs[k].getD 1 0)]:=by
 have hz:k<(rs.map mkR).length:=by rw [List.length_map];exact h
 rw [take_one _ k hz,List.flatMap_append]
 congr 1
 simp [mkR]
theorem content_yes (a:Option Addr) (n c:Nat) (b:List UInt8) (w:World) (ts:List (List UInt8)) (hv:Rw eB w (.slice a n c) b) (hb:n≤100000) (h:rdOk b) (hp:L14.prV (gD (rdT b (nS b)) 5)=some ts) (heq:(gD (rdT b (nS b)) 2).length / (4*4)=ts.length) (o:Ob) (hoe:obT (gD (rdT b (nS b)) 1) (gD (rdT b (nS b)) 2) (gD (rdT b (nS b)) 4) ts=o) :
  Calls Tryz.prog 35 #[.slice a n c] w (CoY o w):=by
 obtain⟨idf,di,dz0,dz1,dz2⟩:=info_parts infoDef
 obtain⟨irl,ri,rz0,rz1,rz2⟩:=info_parts infoRel
 have hbl:=hv.at.1
 obtain⟨l,hl⟩:∃ l,rdT b (nS b)=l:=⟨_,rfl⟩
 have hl1:=gD_le b (nS b) 1
 have hl5:=gD_le b (nS b) 5
 have hl2:=gD_le b (nS b) 2
 have hl4:=gD_le b (nS b) 4
 have hlm:=nS_le h
 have hfw:=L14.prV_few hp
 have HR:=Lib.hid (hl ▸ read_is a n c b _ (hv.below (bnew w (.cells nil3 26))) (by omega) h)
 rw [hl] at hp hl1 hl5 hl2 hl4 hlm heq hfw hoe
 obtain⟨D1,hD1⟩:∃ D,(gD l 1).length=D:=⟨_,rfl⟩
 obtain⟨D5,hD5⟩:∃ D,(gD l 5).length=D:=⟨_,rfl⟩
 obtain⟨T,hT⟩:∃ K,ts.length=K:=⟨_,rfl⟩
 obtain⟨K4,hK4⟩:∃ K,(gD l 4).length / (4*2)=K:=⟨_,rfl⟩
 rw [hT] at heq hfw
 have hTb:T≤100000:=by omega
 have hKb:K4≤100000:=by omega
 have HG:=Lib.hid (fun (X:World) (v:Value) (hs:Ss X v l)=>gget_at v l 5 _ D5 X hs hlm rfl hD5)
 have HG1:=Lib.hid (fun (X:World) (v:Value) (hs:Ss X v l)=>gget_at v l 1 _ D1 X hs hlm rfl hD1)
 have HP:=Lib.hid (fun (X:World) (v:Value) (hr:Rw eB X v (gD l 5))=>parse_some v (gD l 5) ts T X hr (by omega) hp hT)
 have HQ:=Lib.hid (fun (X:World) (v:Value) (hs:Ss X v l)=>readRows_is v l 2 4 4 T _ X hs hlm (by decide) (by decide) rfl (by omega) heq rfl)
 have HQ4:=Lib.hid (fun (X:World) (v:Value) (hs:Ss X v l)=>readRows_is v l 4 2 2 K4 _ X hs hlm (by decide) (by decide) rfl (by omega) hK4 rfl)
 have hrl2:(rdR 4 (gD l 2)).length=T:=by rw [rdR_len,heq]
 have hrl4:(rdR 2 (gD l 4)).length=K4:=by rw [rdR_len,hK4]
 have hr2:=fun r (h:r∈rdR 4 (gD l 2))=>rdR_in 4 _ h
 have hr4:=fun r (h:r∈rdR 2 (gD l 4))=>rdR_in 2 _ h
 have HO:Hid (o=⟨List.zipWith mkD ts (rdR 4 (gD l 2)),gD l 1,(rdR 2 (gD l 4)).map mkR⟩):=Lib.hid hoe.symm
 generalize rdR 4 (gD l 2)=R2 at HQ hrl2 hr2 HO
 generalize rdR 2 (gD l 4)=R4 at HQ4 hrl4 hr4 HO
 generalize gD l 1=C1 at HG1 HO
 have HL:=Lib.hid (And.intro hT (And.intro hrl2 hrl4))
 have HR2:=Lib.hid hr2
 have HR4:=Lib.hid hr4
 have K0:=Lib.hid (heap_alloc_last w (.cells nil3 26))
 have HB:=Lib.hid (bnew w (.cells nil3 26))
 clear hv h hp hl hl1 hl5 hl2 hl4 hlm hbl hD1 hD5 hK4 hT hfw heq hrl2 hrl4 hr2 hr4 hoe
 generalize nS b=L at HR
 go_enter Tryz.func35,Tryz.ntmps35
 go_upto_region 9 with (first
  | (go_at_call 20;((with_reducible refine (HR.out).mono ?_);rintro e w1 ⟨⟨ra,rc,rfl,rs⟩,b1⟩;have B1:=bch HB.out b1))
  | (go_at_call 68;((with_reducible refine (HG.out _ _ rs).mono ?_);rintro e w2 ⟨⟨ga,gc,gb,rfl,rg0⟩,b2⟩;have rg:=rg0.below b2;have B2:=bch B1 b2;have rs2:=rs.below b2))
  | (go_at_call 69;((with_reducible refine (HP.out _ _ rg).mono ?_);rintro e w3 ⟨⟨pa,pc,oa,oc,rfl,rn,-⟩,b3⟩;have B3:=bch B2 b3;have rs3:=rs2.below b3))
  | (go_at_call 70;((with_reducible refine (HQ.out _ _ rs3).mono ?_);rintro e w4 ⟨⟨qa,qc,rfl,rq⟩,b4⟩;have B4:=bch B3 b4)))
 have q4:=L8.row_up (L8.row_up (L8.row_up (L8.row_up K0.out b1) b2) b3) b4
 have HQ0:=Lib.hid q4
 have HB4:=Lib.hid B4
 have HNm:=Lib.hid (rn.below b4)
 have HSz:=Lib.hid (rq.rs HR2.out)
 have rs4:=rs3.below b4
 clear rs rs2 rs3 rg rg0 rn rq b1 b2 b3 b4 B1 B2 B3 B4 q4 HR HG HP HQ K0 HB
 obtain⟨kb,hkb⟩:∃ k,w4.heap.size=k:=⟨_,rfl⟩
 have HKB:=Lib.hid hkb
 have rs5:=rs4.below (bnew w4 (.cells nil3 26))
 have K5:=heap_alloc_last w4 (.cells nil3 26)
 have b5:=bnew w4 (.cells nil3 26)
 have hdown:=fun v d (h:Rw eB (w4.alloc (.cells nil3 26)) v d)=>rw_down h
 rw [hkb] at K5
 have HDW:=Lib.hid hdown
 have HK5:=Lib.hid K5
 have HB5:=Lib.hid b5
 have HS5:=Lib.hid rs5
 have HS4:=Lib.hid rs4
 clear hdown K5 b5 rs4 rs5
 go_upto_region 10 with (fail)
 (try rw [hkb])
 generalize w4.alloc (.cells nil3 26)=w5 at HK5 HB5 HS5 HDW ⊢
 clear hkb
 go_wp2_with (go_at_call 68;((with_reducible refine (HG1.out _ _ HS5.out).mono ?_);rintro e w6 ⟨⟨ca,cc,cb,rfl,rc0⟩,b6⟩;have HC:=Lib.hid (HDW.out _ _ rc0);have hrow6:=L8.row_up HK5.out b6;have fz6:=frz hrow6 1;obtain⟨x0,x1,x2⟩:=L13.cells3 hrow6;have l6:=World.block_lt_of_cell? _ _ x0;simp only at l6))
 have B6:Below w4.heap.size w4 w6:=HB5.out.trans (b6.mono HB5.out.size)
 have HI:Hid ((w6.setCell ⟨kb,1,none⟩ (.slice ca D1 cc)).heap[kb]?=some (.cells #[.slice none 0 0,.slice ca D1 cc,.slice none 0 0] 26)∧(w6.setCell ⟨kb,1,none⟩ (.slice ca D1 cc)).ownsRow w4.heap.size 62 4 (.slice none 0 0) 0 (((List.zipWith mkD ts R2).take 0).flatMap L10.dfL)∧Below w4.heap.size w4 (w6.setCell ⟨kb,1,none⟩ (.slice ca D1 cc))) :=
  Lib.hid ⟨cells_set hrow6,World.ownsRow_nil _ _ _ _,B6.setCell (by rw [HKB.out];exact Nat.le_refl _) _⟩
 clear hrow6 fz6 x0 x1 x2 l6 b6 rc0 B6 HG1 HDW
 go_loopw [55] (fun q wr=>∃ (k:Nat) (ma:Option Addr) (mc:Nat),k≤T∧q=.int .i64 (k:Int)∧Hid (wr.heap[kb]?=some (.cells #[.slice ma k mc,.slice ca D1 cc,.slice none 0 0] 26)∧wr.ownsRow w4.heap.size 62 4 (.slice ma k mc) k (((List.zipWith mkD ts R2).take k).flatMap L10.dfL)∧Below w4.heap.size w4 wr)) (fun q _=>T-(intOf q).toNat)
 case atStart=>exact⟨0,none,0,Nat.zero_le _,rfl,HI⟩
 case round =>
  clear HI
  obtain⟨k,ma,mc,hk,rfl,hI⟩:=hrel
  by_cases hlt:k<T
  ·have hkt:k<ts.length:=by rw [HL.out.1];exact hlt
   have hkr:k<R2.length:=by rw [HL.out.2.1];exact hlt
   obtain⟨-,-,-,hnc⟩:=HNm.out.at
   obtain⟨nb,no,rfl,hnb,hnn⟩:=hnc (by omega)
   have n0:=(hI.out.2.2.cell (p:=⟨nb,no+k,none⟩) (by exact hnb)).trans (hnn k hkt)
   obtain⟨qa',qc',hqe,hqq⟩:=HSz.out.form HL.out.2.1
   cases hqe
   obtain⟨sb,so,rfl,hsb,hss⟩:=hqq (by omega)
   obtain⟨rv,s0,hrw⟩:=hss k hkr
   obtain⟨rb,ro,rc,rfl,hrb,hrc⟩:=row_cells hrw (HR2.out _ (List.getElem_mem hkr)) (by decide)
   have s1:=(hI.out.2.2.cell (p:=⟨sb,so+k,none⟩) (by exact hsb)).trans s0
   have y0:=(hI.out.2.2.cell (p:=⟨rb,ro+0,none⟩) (by exact hrb)).trans (hrc 0 (by decide))
   have y1:=(hI.out.2.2.cell (p:=⟨rb,ro+1,none⟩) (by exact hrb)).trans (hrc 1 (by decide))
   have y2:=(hI.out.2.2.cell (p:=⟨rb,ro+2,none⟩) (by exact hrb)).trans (hrc 2 (by decide))
   have hsn:=zw_snoc ts R2 k hkt hkr
   unfold eT at n0
   have hnn0:=hnn k hkt
   unfold eT at hnn0
   have hrc0:=hrc 0 (by decide)
   have hrc1:=hrc 1 (by decide)
   have hrc2:=hrc 2 (by decide)
   generalize mkB ts[k]=nm at n0 hsn hnn0
   generalize R2[k].getD 0 0=z0 at y0 hsn hrc0
   generalize R2[k].getD 1 0=z1 at y1 hsn hrc1
   generalize R2[k].getD 2 0=z2 at y2 hsn hrc2
   rw [Nat.add_zero] at hrc0
   have HNM:=Lib.hid (And.intro hnb hnn0)
   have HRC:=Lib.hid (And.intro hrb (And.intro hrc0 (And.intro hrc1 hrc2)))
   have HSN:=Lib.hid hsn
   obtain⟨hrow,hown,hB⟩:=hI.out
   obtain⟨x0,x1,x2⟩:=L13.cells3 hrow
   have l0:=World.block_lt_of_cell? _ _ x0
   have l1:=World.block_lt_of_cell? _ _ n0
   have l2:=World.block_lt_of_cell? _ _ y0
   simp only at l0 l1 l2
   rw [Nat.add_zero] at y0
   have HRW:=Lib.hid hrow
   have HOW:=Lib.hid hown
   have HBW:=Lib.hid hB
   have hsz:=hB.size
   clear hI hnc hnn hqq hss s0 hrw hrc hsn hrow hown hB hkt hkr hnb hsb hrb hnn0 hrc0 hrc1 hrc2
   go_upto_region 14 with (fail)
   refine wp_region_held_drew (S:=fun X=>Below w4.heap.size w4 X) (by kernel_rfl) HBW.out.drew (fun hH=>?_)
   have hrow1:=L8.row_up HRW.out ((Below.refl wr.heap.size wr).drew)
   have hown1:=own_below HOW.out ((Below.refl wr.heap.size wr).drew)
   clear HRW HOW HBW x0 x1 x2 l0 hsz
   generalize wr.drew=Wd at hrow1 hown1 hH ⊢
   refine wpAnyH_take (i:=0) (oi:=⟨some 60,.fieldAddr 26 (.tmp 11) 0,_,_,_,none⟩) (v:=.pointer (some ⟨kb,0,none⟩)) rfl (by kernel_rfl) (by kernel_rfl) (by kernel_rfl) (fun _ _ _ h=>h) (Or.inl ⟨by rfl,fun wS hS=>(by go_simp)⟩) hH ?_
   simp only [Act.put,zA,zB,zC]
   refine wpAnyH_take (i:=2) (oi:=⟨some 62,.move (.tmp 8),_,_,_,none⟩) (v:=.slice (some ⟨nb,no,none⟩) T pc) rfl (by kernel_rfl) (by kernel_rfl) (by kernel_rfl) (fun _ _ _ h=>h) (Or.inl ⟨by rfl,fun wS hS=>by rfl⟩) hH ?_
   simp only [Act.put,zA,zB,zC]
   refine wpAnyH_take (i:=3) (oi:=⟨some 63,.move (.tmp 12),_,_,_,none⟩) (v:=.int .i64 (k:Int)) rfl (by kernel_rfl) (by kernel_rfl) (by kernel_rfl) (fun _ _ _ h=>h) (Or.inl ⟨by rfl,fun wS hS=>by rfl⟩) hH ?_
   simp only [Act.put,zA,zB,zC]
   refine wpAnyH_take (i:=4) (oi:=⟨some 64,.indexAddr 65 (.tmp 62) (.tmp 63),_,_,_,none⟩) (v:=.pointer (some ⟨nb,no+k,none⟩)) rfl (by kernel_rfl) (by kernel_rfl) (by kernel_rfl) (fun _ _ _ h=>h) (Or.inl ⟨by rfl,fun wS hS=>(by go_simp)⟩) hH ?_
   simp only [Act.put,zA,zB,zC]
   refine wpAnyH_take (i:=5) (oi:=⟨some 65,.load 9 (.tmp 64),_,_,_,none⟩) (v:=.string nm) rfl (by kernel_rfl) (by kernel_rfl) (by kernel_rfl) (fun _ _ _ h=>h) (Or.inl ⟨by rfl,fun wS hS=>(by have d0:=(hS.cell (p:=⟨nb,no+k,none⟩) HNM.out.1).trans HNM.out.2;go_simp)⟩) hH ?_
   simp only [Act.put,zA,zB,zC]
   refine wpAnyH_take (i:=6) (oi:=⟨some 66,.move (.tmp 13),_,_,_,none⟩) (v:=.slice (some ⟨rb,ro,none⟩) 4 rc) rfl (by kernel_rfl) (by kernel_rfl) (by kernel_rfl) (fun _ _ _ h=>h) (Or.inl ⟨by rfl,fun wS hS=>by rfl⟩) hH ?_
   simp only [Act.put,zA,zB,zC]
   refine wpAnyH_take (i:=7) (oi:=⟨some 67,.indexAddr 70 (.tmp 66) (.const (.int .i64 0)),_,_,_,none⟩) (v:=.pointer (some ⟨rb,ro,none⟩)) rfl (by kernel_rfl) (by kernel_rfl) (by kernel_rfl) (fun _ _ _ h=>h) (Or.inl ⟨by rfl,fun wS hS=>(by go_simp)⟩) hH ?_
   simp only [Act.put,zA,zB,zC]
   refine wpAnyH_take (i:=8) (oi:=⟨some 68,.load 3 (.tmp 67),_,_,_,none⟩) (v:=.int .i64 z0) rfl (by kernel_rfl) (by kernel_rfl) (by kernel_rfl) (fun _ _ _ h=>h) (Or.inl ⟨by rfl,fun wS hS=>(by have d0:=(hS.cell (p:=⟨rb,ro,none⟩) HRC.out.1).trans HRC.out.2.1;go_simp)⟩) hH ?_
   simp only [Act.put,zA,zB,zC]
   refine wpAnyH_take (i:=9) (oi:=⟨some 69,.move (.tmp 13),_,_,_,none⟩) (v:=.slice (some ⟨rb,ro,none⟩) 4 rc) rfl (by kernel_rfl) (by kernel_rfl) (by kernel_rfl) (fun _ _ _ h=>h) (Or.inl ⟨by rfl,fun wS hS=>by rfl⟩) hH ?_
   simp only [Act.put,zA,zB,zC]
   refine wpAnyH_take (i:=10) (oi:=⟨some 70,.indexAddr 70 (.tmp 69) (.const (.int .i64 1)),_,_,_,none⟩) (v:=.pointer (some ⟨rb,ro+1,none⟩)) rfl (by kernel_rfl) (by kernel_rfl) (by kernel_rfl) (fun _ _ _ h=>h) (Or.inl ⟨by rfl,fun wS hS=>(by go_simp)⟩) hH ?_
   simp only [Act.put,zA,zB,zC]
   refine wpAnyH_take (i:=11) (oi:=⟨some 71,.load 3 (.tmp 70),_,_,_,none⟩) (v:=.int .i64 z1) rfl (by kernel_rfl) (by kernel_rfl) (by kernel_rfl) (fun _ _ _ h=>h) (Or.inl ⟨by rfl,fun wS hS=>(by have d0:=(hS.cell (p:=⟨rb,ro+1,none⟩) HRC.out.1).trans HRC.out.2.2.1;go_simp)⟩) hH ?_
   simp only [Act.put,zA,zB,zC]
   refine wpAnyH_take (i:=12) (oi:=⟨some 72,.move (.tmp 13),_,_,_,none⟩) (v:=.slice (some ⟨rb,ro,none⟩) 4 rc) rfl (by kernel_rfl) (by kernel_rfl) (by kernel_rfl) (fun _ _ _ h=>h) (Or.inl ⟨by rfl,fun wS hS=>by rfl⟩) hH ?_
   simp only [Act.put,zA,zB,zC]
   refine wpAnyH_take (i:=13) (oi:=⟨some 73,.indexAddr 70 (.tmp 72) (.const (.int .i64 2)),_,_,_,none⟩) (v:=.pointer (some ⟨rb,ro+2,none⟩)) rfl (by kernel_rfl) (by kernel_rfl) (by kernel_rfl) (fun _ _ _ h=>h) (Or.inl ⟨by rfl,fun wS hS=>(by go_simp)⟩) hH ?_
   simp only [Act.put,zA,zB,zC]
   refine wpAnyH_take (i:=14) (oi:=⟨some 74,.load 3 (.tmp 73),_,_,_,none⟩) (v:=.int .i64 z2) rfl (by kernel_rfl) (by kernel_rfl) (by kernel_rfl) (fun _ _ _ h=>h) (Or.inl ⟨by rfl,fun wS hS=>(by have d0:=(hS.cell (p:=⟨rb,ro+2,none⟩) HRC.out.1).trans HRC.out.2.2.2;go_simp)⟩) hH ?_
   simp only [Act.put,zA,zB,zC]
   refine wpAnyH_take (i:=15) (oi:=⟨some 75,.build 62 #[(0,.tmp 65),(1,.tmp 68),(2,.tmp 71),(3,.tmp 74)],_,_,_,none⟩) (v:=.agg #[.string nm,.int .i64 z0,.int .i64 z1,.int .i64 z2]) rfl (by kernel_rfl) (by kernel_rfl) (by kernel_rfl) (fun _ _ _ h=>h) (Or.inl ⟨by rfl,fun wS hS=>(by go_simp)⟩) hH ?_
   simp only [Act.put,zA,zB,zC]
   refine wpAnyH_ready (rs:=[1,16]) (by kernel_rfl) (by simp) ?_
   refine AllReadyH.cons (o:=⟨some 61,.load 22 (.tmp 60),_,_,_,none⟩) rfl (fun K hK=>?_) (AllReadyH.cons (o:=⟨some 76,.buildSlice 22 1 #[(0,.tmp 75)],_,_,_,none⟩) rfl (fun K hK=>?_) AllReadyH.nil)
   focus
    obtain⟨x0,x1,x2⟩:=L13.cells3 hrow1
    go_simp
    refine hK.out _ _ hH (fun _=>?_)
    clear hK K x0 x1 x2
    (try simp only [Act.put,zA,zB,zC])
    refine wpAnyH_ready (rs:=[16]) (by kernel_rfl) (by simp) ?_
    refine AllReadyH.cons (o:=⟨some 76,.buildSlice 22 1 #[(0,.tmp 75)],_,_,_,none⟩) rfl (fun K hK=>?_) AllReadyH.nil
    go_simp
    have hrow2:=L8.row_up hrow1 (bnew Wd (.cells #[.string nm,.int .i64 z0,.int .i64 z1,.int .i64 z2] 62))
    have hown2:=own_below hown1 (bnew Wd (.cells #[.string nm,.int .i64 z0,.int .i64 z1,.int .i64 z2] 62))
    have hn2:=heap_alloc_last Wd (.cells #[.string nm,.int .i64 z0,.int .i64 z1,.int .i64 z2] 62)
    refine hK.out _ _ (hH.alloc hH.size _) (fun hH2=>?_)
    clear hK K
    (try simp only [Act.put,zA,zB,zC])
    obtain⟨gn,hgn⟩:∃ gn,Wd.heap.size=gn:=⟨_,rfl⟩
    rw [hgn] at hn2 ⊢
    generalize Wd.alloc (.cells #[.string nm,.int .i64 z0,.int .i64 z1,.int .i64 z2] 62)=W2 at hrow2 hown2 hn2 hH2 ⊢
    clear hgn hrow1 hown1 hH
   rotate_left
   focus
    go_simp
    have hrow2:=L8.row_up hrow1 (bnew Wd (.cells #[.string nm,.int .i64 z0,.int .i64 z1,.int .i64 z2] 62))
    have hown2:=own_below hown1 (bnew Wd (.cells #[.string nm,.int .i64 z0,.int .i64 z1,.int .i64 z2] 62))
    have hn2:=heap_alloc_last Wd (.cells #[.string nm,.int .i64 z0,.int .i64 z1,.int .i64 z2] 62)
    refine hK.out _ _ (hH.alloc hH.size _) (fun hH2=>?_)
    clear hK K
    (try simp only [Act.put,zA,zB,zC])
    obtain⟨x0,x1,x2⟩:=L13.cells3 hrow2
    refine wpAnyH_ready (rs:=[1]) (by kernel_rfl) (by simp) ?_
    refine AllReadyH.cons (o:=⟨some 61,.load 22 (.tmp 60),_,_,_,none⟩) rfl (fun K hK=>?_) AllReadyH.nil
    go_simp
    refine hK.out _ _ hH2 (fun _=>?_)
    clear hK K x0 x1 x2
    (try simp only [Act.put,zA,zB,zC])
    obtain⟨gn,hgn⟩:∃ gn,Wd.heap.size=gn:=⟨_,rfl⟩
    rw [hgn] at hn2 ⊢
    generalize Wd.alloc (.cells #[.string nm,.int .i64 z0,.int .i64 z1,.int .i64 z2] 62)=W2 at hrow2 hown2 hn2 hH2 ⊢
    clear hgn hrow1 hown1 hH
   all_goals
    refine wpAnyH_ready (rs:=[17]) (by kernel_rfl) (by simp) ?_
    refine AllReadyH.cons (o:=⟨some 77,.call ⟨.builtin .append,#[.tmp 61,.tmp 76],#[22,22]⟩,_,_,_,none⟩) rfl (fun K hK=>?_) AllReadyH.nil
    refine step_append_lies _ (by rfl) _ _ _ (by rfl) w4.heap.size 62 idf (.agg #[.string ⟨#[]⟩,.int .i64 0,.int .i64 0,.int .i64 0]) 4 40 Tryz.underlying22 di dz0 dz1 dz2 rfl (by decide) _ k _ (by rfl) hown2 ⟨gn,0,none⟩ 1 1 [.string nm,.int .i64 z0,.int .i64 z1,.int .i64 z2] (by rfl) (by rfl) (World.news_of_block (cs:=#[.string nm,.int .i64 z0,.int .i64 z1,.int .i64 z2]) (t:=62) (fr:=(0,0)) hn2) (by simp [Value.oneCell']) (by omega) (by unfold maxLen;omega) (by omega) hH2.size _ rfl ?_
    intro g cap w8 hown3 hgrow3 _ _
    have hrow3:=row_far hrow2 hown2 hgrow3 (by decide)
    have hB3:=hH2.grown hgrow3 hH2.size (own_base hown2)
    refine hK.out _ _ hB3 (fun hH3=>?_)
    clear hK K hrow2 hown2 hn2 hH2 hgrow3
    (try simp only [Act.put,zA,zB,zC])
    refine wpAnyH_take (i:=18) (oi:=⟨some 78,.fieldAddr 26 (.tmp 11) 0,_,_,_,none⟩) (v:=.pointer (some ⟨kb,0,none⟩)) rfl (by kernel_rfl) (by kernel_rfl) (by kernel_rfl) (fun _ _ _ h=>h) (Or.inl ⟨by rfl,fun wS hS=>(by go_simp)⟩) hH3 ?_
    simp only [Act.put,zA,zB,zC]
    obtain⟨x0,x1,x2⟩:=L13.cells3 hrow3
    have fz:=frz hrow3 0
    refine wpAnyH_ready (rs:=[19]) (by kernel_rfl) (by simp) ?_
    refine AllReadyH.cons (o:=⟨none,.store 22 (.tmp 78) (.tmp 77),_,_,_,none⟩) rfl (fun K hK=>?_) AllReadyH.nil
    go_simp
    refine hK.out _ _ (hH3.setCell (by rw [HKB.out];exact Nat.le_refl _) _) (fun hH4=>?_)
    clear hK K x0 x1 x2 fz
    (try simp only [Act.put,zA,zB,zC])
    refine wpAnyH_done (by kernel_rfl) ?_ _
    go_wp2
    go_roundw
    case rel=>exact⟨k+1,_,_,hlt,by go_num,Lib.hid ⟨cells_set hrow3,by rw [HSN.out];exact own_cell hown3 hrow3 (by decide),hH4⟩⟩
    case measure=>simp [intOf];omega
  ·obtain rfl:k=T:=by omega
   have hto:(List.zipWith mkD ts R2).take k=List.zipWith mkD ts R2:=List.take_of_length_le (by rw [List.length_zipWith,HL.out.1];omega)
   obtain⟨hrow,hown,hB⟩:=hI.out
   rw [hto] at hown
   have HRW0:=Lib.hid hrow
   have HOW0:=Lib.hid hown
   have HBW0:=Lib.hid hB
   have hss:=HS4.out.below hB
   obtain⟨x0,x1,x2⟩:=L13.cells3 hrow
   have l0:=World.block_lt_of_cell? _ _ x0
   simp only at l0
   clear hI hto hrow hown hB
   go_wp2_with (go_at_call 70;((with_reducible refine (HQ4.out _ _ hss).mono ?_);rintro e w9 ⟨⟨ya,yc,rfl,rq⟩,b9⟩))
   have HSz4:=Lib.hid rq
   have HB9:=Lib.hid (show Below w4.heap.size w4 w9 from HBW0.out.trans (b9.mono HBW0.out.size))
   have HI:Hid (w9.heap[kb]?=some (.cells #[.slice ma k mc,.slice ca D1 cc,.slice none 0 0] 26)∧w9.ownsRow w4.heap.size 59 2 (.slice none 0 0) 0 (((R4.map mkR).take 0).flatMap L13.roL)∧Below w4.heap.size w4 w9∧Kp w4.heap.size w9 (.slice ma k mc) k ((List.zipWith mkD ts R2).flatMap L10.dfL) (.slice ya K4 yc) R4) :=
    Lib.hid ⟨L8.row_up HRW0.out b9,World.ownsRow_nil _ _ _ _,HB9.out,own_below HOW0.out b9,rq.weak HBW0.out.size⟩
   clear rq b9 hss x0 x1 x2 l0 HRW0 HOW0 HBW0 HSz4 HB9 HQ4
   go_loopw [83] (fun q wr=>∃ (m:Nat) (fa:Option Addr) (fc:Nat),m≤K4∧q=.int .i64 (m:Int)∧Hid (wr.heap[kb]?=some (.cells #[.slice ma k mc,.slice ca D1 cc,.slice fa m fc] 26)∧wr.ownsRow w4.heap.size 59 2 (.slice fa m fc) m (((R4.map mkR).take m).flatMap L13.roL)∧Below w4.heap.size w4 wr∧Kp w4.heap.size wr (.slice ma k mc) k ((List.zipWith mkD ts R2).flatMap L10.dfL) (.slice ya K4 yc) R4)) (fun q _=>K4-(intOf q).toNat)
   case atStart=>exact⟨0,none,0,Nat.zero_le _,rfl,HI⟩
   case round =>
    clear HI
    obtain⟨m,fa,fc,hm,rfl,hI⟩:=hrel
    by_cases hlt2:m<K4
    ·have hkr:m<R4.length:=by rw [HL.out.2.2];exact hlt2
     obtain⟨hrow,hown,hB,hkp⟩:=hI.out
     obtain⟨vs,hov,hin⟩:=hkp.r
     obtain⟨xa,xc,h4,h5⟩:=hin m hkr
     obtain⟨sb,rfl,-⟩:=own_addr hov (by omega)
     obtain⟨rb,rfl,-⟩:=own_addr h5 (by decide)
     have s1:wr.cell? ⟨sb,m,none⟩=some (.slice (some ⟨rb,0,none⟩) 2 xc):=by
      have:=hov.cells (g:=sb) rfl m _ h4
      rwa [add0,Nat.zero_add] at this
     obtain⟨z0,z1,hz⟩:∃ z0 z1,R4[m]=[z0,z1]:=by
      have:=HR4.out _ (List.getElem_mem hkr)
      match hR:R4[m],this with
      | [z0,z1],_=>exact⟨z0,z1,rfl⟩
     have hsn:=rl_snoc R4 m hkr
     rw [hz] at h5 hsn
     simp only [List.map_cons,List.map_nil,List.getD_cons_zero,List.getD_cons_succ] at h5 hsn
     obtain⟨y0,y1⟩:=two_cells h5
     have HSN:=Lib.hid hsn
     obtain⟨x0,x1,x2⟩:=L13.cells3 hrow
     have l0:=World.block_lt_of_cell? _ _ x0
     have l1:=World.block_lt_of_cell? _ _ s1
     have l2:=World.block_lt_of_cell? _ _ y0
     simp only at l0 l1 l2
     have HRW:=Lib.hid hrow
     have HOW:=Lib.hid hown
     have HBW:=Lib.hid hB
     have HKP:=Lib.hid hkp
     have HR5:=Lib.hid h5
     have hsz:=hB.size
     have hmb:m≤100000:=by omega
     clear hI hrow hown hB hsn hkr hkp hov hin h4 h5 hz
     go_upto_region 19 with (fail)
     refine wp_region_held_drew (S:=fun X=>Below w4.heap.size w4 X∧X.ownsRow w4.heap.size 3 1 (.slice (some ⟨rb,0,none⟩) 2 xc) 2 [eI z0,eI z1]) (by kernel_rfl) ⟨HBW.out.drew,own_below HR5.out ((Below.refl wr.heap.size wr).drew)⟩ (fun hH=>?_)
     have hrow1:=L8.row_up HRW.out ((Below.refl wr.heap.size wr).drew)
     have hown1:=own_below HOW.out ((Below.refl wr.heap.size wr).drew)
     have hoth1:=HKP.out.below ((Below.refl wr.heap.size wr).drew)
     clear HRW HOW HBW HKP HR5 x0 x1 x2 l0 hsz
     generalize wr.drew=Wd at hrow1 hown1 hH hoth1 ⊢
     refine wpAnyH_take (i:=0) (oi:=⟨some 87,.fieldAddr 26 (.tmp 11) 2,_,_,_,none⟩) (v:=.pointer (some ⟨kb,2,none⟩)) rfl (by kernel_rfl) (by kernel_rfl) (by kernel_rfl) (fun _ _ _ h=>h) (Or.inl ⟨by rfl,fun wS hS=>(by go_simp)⟩) hH ?_
     simp only [Act.put,zA,zB,zC]
     refine wpAnyH_take (i:=2) (oi:=⟨some 89,.move (.tmp 15),_,_,_,none⟩) (v:=.slice (some ⟨rb,0,none⟩) 2 xc) rfl (by kernel_rfl) (by kernel_rfl) (by kernel_rfl) (fun _ _ _ h=>h) (Or.inl ⟨by rfl,fun wS hS=>by rfl⟩) hH ?_
     simp only [Act.put,zA,zB,zC]
     refine wpAnyH_take (i:=3) (oi:=⟨some 90,.indexAddr 70 (.tmp 89) (.const (.int .i64 0)),_,_,_,none⟩) (v:=.pointer (some ⟨rb,0,none⟩)) rfl (by kernel_rfl) (by kernel_rfl) (by kernel_rfl) (fun _ _ _ h=>h) (Or.inl ⟨by rfl,fun wS hS=>(by go_simp)⟩) hH ?_
     simp only [Act.put,zA,zB,zC]
     refine wpAnyH_take (i:=4) (oi:=⟨some 91,.load 3 (.tmp 90),_,_,_,none⟩) (v:=.int .i64 z0) rfl (by kernel_rfl) (by kernel_rfl) (by kernel_rfl) (fun _ _ _ h=>h) (Or.inl ⟨by rfl,fun wS hS=>(by obtain⟨d0,d1⟩:=two_cells hS.2;go_simp)⟩) hH ?_
     simp only [Act.put,zA,zB,zC]
     refine wpAnyH_take (i:=5) (oi:=⟨some 92,.move (.tmp 15),_,_,_,none⟩) (v:=.slice (some ⟨rb,0,none⟩) 2 xc) rfl (by kernel_rfl) (by kernel_rfl) (by kernel_rfl) (fun _ _ _ h=>h) (Or.inl ⟨by rfl,fun wS hS=>by rfl⟩) hH ?_
     simp only [Act.put,zA,zB,zC]
     refine wpAnyH_take (i:=6) (oi:=⟨some 93,.indexAddr 70 (.tmp 92) (.const (.int .i64 1)),_,_,_,none⟩) (v:=.pointer (some ⟨rb,1,none⟩)) rfl (by kernel_rfl) (by kernel_rfl) (by kernel_rfl) (fun _ _ _ h=>h) (Or.inl ⟨by rfl,fun wS hS=>(by go_simp)⟩) hH ?_
     simp only [Act.put,zA,zB,zC]
     refine wpAnyH_take (i:=7) (oi:=⟨some 94,.load 3 (.tmp 93),_,_,_,none⟩) (v:=.int .i64 z1) rfl (by kernel_rfl) (by kernel_rfl) (by kernel_rfl) (fun _ _ _ h=>h) (Or.inl ⟨by rfl,fun wS hS=>(by obtain⟨d0,d1⟩:=two_cells hS.2;go_simp)⟩) hH ?_
     simp only [Act.put,zA,zB,zC]
     refine wpAnyH_take (i:=8) (oi:=⟨some 95,.build 59 #[(0,.tmp 91),(1,.tmp 94)],_,_,_,none⟩) (v:=.agg #[.int .i64 z0,.int .i64 z1]) rfl (by kernel_rfl) (by kernel_rfl) (by kernel_rfl) (fun _ _ _ h=>h) (Or.inl ⟨by rfl,fun wS hS=>(by go_simp)⟩) hH ?_
     simp only [Act.put,zA,zB,zC]
     refine wpAnyH_ready (rs:=[1,9]) (by kernel_rfl) (by simp) ?_
     refine AllReadyH.cons (o:=⟨some 88,.load 24 (.tmp 87),_,_,_,none⟩) rfl (fun K hK=>?_) (AllReadyH.cons (o:=⟨some 96,.buildSlice 24 1 #[(0,.tmp 95)],_,_,_,none⟩) rfl (fun K hK=>?_) AllReadyH.nil)
     focus
      obtain⟨x0,x1,x2⟩:=L13.cells3 hrow1
      go_simp
      refine hK.out _ _ hH (fun _=>?_)
      clear hK K x0 x1 x2
      (try simp only [Act.put,zA,zB,zC])
      refine wpAnyH_ready (rs:=[9]) (by kernel_rfl) (by simp) ?_
      refine AllReadyH.cons (o:=⟨some 96,.buildSlice 24 1 #[(0,.tmp 95)],_,_,_,none⟩) rfl (fun K hK=>?_) AllReadyH.nil
      go_simp
      have hrow2:=L8.row_up hrow1 (bnew Wd (.cells #[.int .i64 z0,.int .i64 z1] 59))
      have hown2:=own_below hown1 (bnew Wd (.cells #[.int .i64 z0,.int .i64 z1] 59))
      have hoth2:=Kp.below hoth1 (bnew Wd (.cells #[.int .i64 z0,.int .i64 z1] 59))
      have hn2:=heap_alloc_last Wd (.cells #[.int .i64 z0,.int .i64 z1] 59)
      refine hK.out _ _ ⟨hH.1.alloc hH.1.size _,own_below hH.2 (bnew Wd _)⟩ (fun hH2=>?_)
      clear hK K
      (try simp only [Act.put,zA,zB,zC])
      obtain⟨gn,hgn⟩:∃ gn,Wd.heap.size=gn:=⟨_,rfl⟩
      rw [hgn] at hn2 ⊢
      generalize Wd.alloc (.cells #[.int .i64 z0,.int .i64 z1] 59)=W2 at hrow2 hown2 hn2 hH2 hoth2 ⊢
      clear hgn hrow1 hown1 hH hoth1
     rotate_left
     focus
      go_simp
      have hrow2:=L8.row_up hrow1 (bnew Wd (.cells #[.int .i64 z0,.int .i64 z1] 59))
      have hown2:=own_below hown1 (bnew Wd (.cells #[.int .i64 z0,.int .i64 z1] 59))
      have hoth2:=Kp.below hoth1 (bnew Wd (.cells #[.int .i64 z0,.int .i64 z1] 59))
      have hn2:=heap_alloc_last Wd (.cells #[.int .i64 z0,.int .i64 z1] 59)
      refine hK.out _ _ ⟨hH.1.alloc hH.1.size _,own_below hH.2 (bnew Wd _)⟩ (fun hH2=>?_)
      clear hK K
      (try simp only [Act.put,zA,zB,zC])
      obtain⟨x0,x1,x2⟩:=L13.cells3 hrow2
      refine wpAnyH_ready (rs:=[1]) (by kernel_rfl) (by simp) ?_
      refine AllReadyH.cons (o:=⟨some 88,.load 24 (.tmp 87),_,_,_,none⟩) rfl (fun K hK=>?_) AllReadyH.nil
      go_simp
      refine hK.out _ _ hH2 (fun _=>?_)
      clear hK K x0 x1 x2
      (try simp only [Act.put,zA,zB,zC])
      obtain⟨gn,hgn⟩:∃ gn,Wd.heap.size=gn:=⟨_,rfl⟩
      rw [hgn] at hn2 ⊢
      generalize Wd.alloc (.cells #[.int .i64 z0,.int .i64 z1] 59)=W2 at hrow2 hown2 hn2 hH2 hoth2 ⊢
      clear hgn hrow1 hown1 hH hoth1
     all_goals
      refine wpAnyH_ready (rs:=[10]) (by kernel_rfl) (by simp) ?_
      refine AllReadyH.cons (o:=⟨some 97,.call ⟨.builtin .append,#[.tmp 88,.tmp 96],#[24,24]⟩,_,_,_,none⟩) rfl (fun K hK=>?_) AllReadyH.nil
      refine step_append_lies _ (by rfl) _ _ _ (by rfl) w4.heap.size 59 irl (.agg #[.int .i64 0,.int .i64 0]) 2 16 Tryz.underlying24 ri rz0 rz1 rz2 rfl (by decide) _ m _ (by rfl) hown2 ⟨gn,0,none⟩ 1 1 [.int .i64 z0,.int .i64 z1] (by rfl) (by rfl) (World.news_of_block (cs:=#[.int .i64 z0,.int .i64 z1]) (t:=59) (fr:=(0,0)) hn2) (by simp [Value.oneCell']) (by omega) (by unfold maxLen;omega) (by omega) hH2.1.size _ rfl ?_
      intro g cap w8 hown3 hgrow3 _ _
      have hrow3:=row_far hrow2 hown2 hgrow3 (by decide)
      have hoth3:=hoth2.apart hown2 hgrow3
      have hB3:=hH2.1.grown hgrow3 hH2.1.size (own_base hown2)
      refine hK.out _ _ ⟨hB3,own_apart hH2.2 hown2 hgrow3 (by decide)⟩ (fun hH3=>?_)
      clear hK K hrow2 hown2 hn2 hB3 hH2 hgrow3 hoth2
      (try simp only [Act.put,zA,zB,zC])
      refine wpAnyH_take (i:=11) (oi:=⟨some 98,.fieldAddr 26 (.tmp 11) 2,_,_,_,none⟩) (v:=.pointer (some ⟨kb,2,none⟩)) rfl (by kernel_rfl) (by kernel_rfl) (by kernel_rfl) (fun _ _ _ h=>h) (Or.inl ⟨by rfl,fun wS hS=>(by go_simp)⟩) hH3 ?_
      simp only [Act.put,zA,zB,zC]
      obtain⟨x0,x1,x2⟩:=L13.cells3 hrow3
      have fz:=frz hrow3 2
      refine wpAnyH_ready (rs:=[12]) (by kernel_rfl) (by simp) ?_
      refine AllReadyH.cons (o:=⟨none,.store 24 (.tmp 98) (.tmp 97),_,_,_,none⟩) rfl (fun K hK=>?_) AllReadyH.nil
      go_simp
      refine hK.out _ _ ⟨hH3.1.setCell (by rw [HKB.out];exact Nat.le_refl _) _,own_cell hH3.2 hrow3 (by decide)⟩ (fun hH4=>?_)
      clear hK K x0 x1 x2 fz
      (try simp only [Act.put,zA,zB,zC])
      refine wpAnyH_done (by kernel_rfl) ?_ _
      go_wp2
      go_roundw
      case rel=>exact⟨m+1,_,_,hlt2,by go_num,Lib.hid ⟨cells_set hrow3,by rw [HSN.out];exact own_cell hown3 hrow3 (by decide),hH4.1,hoth3.cell hrow3⟩⟩
      case measure=>simp [intOf];omega
    ·obtain rfl:m=K4:=by omega
     have hto:(R4.map mkR).take m=R4.map mkR:=List.take_of_length_le (by rw [List.length_map,HL.out.2.2];exact Nat.le_refl _)
     obtain⟨hrow,hown,hB,hkp⟩:=hI.out
     rw [hto] at hown
     have q2:=L8.row_up HQ0.out hB
     have hcode:=HC.out.below hB
     obtain⟨x0,x1,x2⟩:=L13.cells3 hrow
     have l0:=World.block_lt_of_cell? _ _ x0
     simp only at l0
     have HOW:=Lib.hid hown
     have HKP:=Lib.hid hkp
     have HQ2:=Lib.hid q2
     have HCD:=Lib.hid hcode
     have HBB:=Lib.hid (bch HB4.out hB)
     clear hI hto hrow hown hB hkp hcode
     go_wp2_with (refine wpList_store_row rfl _ _ _ rfl w.heap.size #[.slice ma k mc,.slice ca D1 cc,.slice fa m fc] rfl rfl 26 _ q2 (by kernel_rfl) rfl (by simp [Value.oneCell']) ?_)
     obtain⟨z0,z1,z2⟩:=L13.cells3 (setRow_heap _ _ _ #[.slice ma k mc,.slice ca D1 cc,.slice fa m fc] _ _ HQ2.out)
     have ho:=HO.out
     subst ho
     refine bodyPost_ret (v:=.tuple #[.agg #[.slice ma k mc,.slice ca D1 cc,.slice fa m fc],.bool true]) (by simp [results,Tryz.results35,go_sem,z0,z1,z2]) rfl ⟨⟨_,_,_,rfl,?_,?_,?_⟩,below_setRow HBB.out (Nat.le_refl _) _⟩
     ·exact L13.own_df (by rw [List.length_zipWith,HL.out.1,HL.out.2.1];exact Nat.min_self _) (L13.own_set HKP.out.d HQ2.out (by decide))
     ·exact rw_setRow HCD.out HQ2.out
     ·exact own_ro (by rw [List.length_map];exact HL.out.2.2) (L13.own_set HOW.out HQ2.out (by decide))
theorem is16_is {b:List UInt8} {q:Ob} (h:Is16 b q):rdOk b∧L14.prV (gD (rdT b (nS b)) 5)=some (nmL q.maps)∧(gD (rdT b (nS b)) 2).length / (4*4)=(nmL q.maps).length:=by
 obtain⟨h1,h2⟩:=is16_rd h
 obtain⟨-,e2,-,e5⟩:=gD_secs q
 rw [h2,e5,e2,r2_len,nmL_len]
 exact⟨h1,prV_secs (gd_of h.1),by omega⟩
theorem content_at (a:Option Addr) (n c:Nat) (b:List UInt8) (hn:b.length=n) (hb:n≤100000):((∀ q,¬ Is16 b q)∧∀ w,Rw eB w (.slice a n c) b→Calls Tryz.prog 35 #[.slice a n c] w (CoN b w)) ∨
  ∃ o,Ct b o∧∀ w,Rw eB w (.slice a n c) b→Calls Tryz.prog 35 #[.slice a n c] w (CoY o w):=by
 by_cases h:rdOk b
 ·cases hp:L14.prV (gD (rdT b (nS b)) 5) with
  | none =>
   refine .inl ⟨fun q hq=>?_,fun w hv=>content_bad a n c b w hv hb h hp⟩
   rw [(is16_is hq).2.1] at hp;cases hp
  | some ts =>
   by_cases heq:(gD (rdT b (nS b)) 2).length / (4*4)=ts.length
   ·exact .inr ⟨_,ct_of (by omega) hp,fun w hv=>content_yes a n c b w ts hv hb h hp heq _ rfl⟩
   ·refine .inl ⟨fun q hq=>heq ?_,fun w hv=>content_off a n c b w ts hv hb h hp heq⟩
    obtain⟨-,h1,h2⟩:=is16_is hq
    rw [hp] at h1
    rw [h2,← Option.some.inj h1]
 ·exact .inl ⟨fun q hq=>h (is16_is hq).1,fun w hv=>content_no a n c b w hv hb h⟩
end Go.Proofs.YtohkgdfkklfgmaaGreatDoor.L16
end
section
set_option maxHeartbeats 4000000
namespace Go.Proofs.YtohkgdfkklfgmaaGreatDoor.L16
set_option maxRecDepth 100000
open Go.RowKit L14 L15
open L13 (Ob)
attribute [local go_sem] Oper.semAt_some
def PaN (w:World) (e:Ending) (w':World):Prop:=e=.returned (.tuple #[.agg #[.slice none 0 0,.slice none 0 0,.slice none 0 0],.int .i64 19])∧Below w.heap.size w w'
def PaY (o:Ob) (w:World) (e:Ending) (w':World):Prop:=(∃ vm vc vr,e=.returned (.tuple #[.agg #[vm,vc,vr],.int .i64 0])∧OA w' vm vc vr o)∧Below w.heap.size w w'
theorem three_cells {W:World} {kr i:Nat} {a1 a2 a3:Option Addr} {n1 c1 n2 c2 n3 c3:Nat} {t:TypeId} {v:Value} (hr:W.heap[kr]?=some (.cells #[.slice a1 n1 c1,.slice a2 n2 c2,.slice a3 n3 c3] t)) (h:W.cell? ⟨kr,i,none⟩=some v):∃ a n c,v=.slice a n c:=by
 unfold World.cell? at h
 simp only [hr] at h
 match i,h with
 | 0,h=>simp at h;exact⟨_,_,_,h.symm⟩
 | 1,h=>simp at h;exact⟨_,_,_,h.symm⟩
 | 2,h=>simp at h;exact⟨_,_,_,h.symm⟩
 | i+3,h=>simp at h
theorem oa_setRow {W:World} {kr:Nat} {a1 a2 a3:Option Addr} {n1 c1 n2 c2 n3 c3:Nat} {cs:Array Value} {t:TypeId} {vm vc vr:Value} {o:Ob} (h:OA W vm vc vr o) (hr:W.heap[kr]?=some (.cells #[.slice a1 n1 c1,.slice a2 n2 c2,.slice a3 n3 c3] t)):OA (W.setRow kr cs) vm vc vr o:=by
 have hsz:=(L13.gr_setRow W kr cs).size
 refine⟨?_,rw_setRow h.c hr,?_⟩
 ·rcases h.m with ⟨b,off,cap,hv,hlt,hc⟩|h0
  ·refine .inl ⟨b,off,cap,hv,Nat.lt_of_lt_of_le hlt hsz,fun j hj i u hu=>?_⟩
   have hne:b≠kr:=by
    rintro rfl
    obtain⟨x,y,z,e⟩:=three_cells hr (hc j hj 0 _ rfl)
    cases e
   rw [cell_setRow_other _ _ _ _ hne]
   exact hc j hj i u hu
  ·exact .inr h0
 ·rcases h.r with ⟨b,off,cap,hv,hlt,hc⟩|h0
  ·refine .inl ⟨b,off,cap,hv,Nat.lt_of_lt_of_le hlt hsz,fun j hj=>?_⟩
   have hne:b≠kr:=by
    rintro rfl
    obtain⟨x,y,z,e⟩:=three_cells hr (hc j hj).1
    cases e
   rw [cell_setRow_other _ _ _ _ hne,cell_setRow_other _ _ _ _ hne]
   exact hc j hj
  ·exact .inr h0
section
variable (a:Option Addr) (n c:Nat) (b:List UInt8) (w:World) (hv:Rw eB w (.slice a n c) b) (hb:n≤100000)
include hv hb
theorem parse16_none (hC:∀ w,Rw eB w (.slice a n c) b→Calls Tryz.prog 35 #[.slice a n c] w (CoN b w)) :
  Calls Tryz.prog 17 #[.slice a n c] w (PaN w):=by
 have HC:=Lib.hid (hC _ (hv.below (bnew w (.cells nil3 26))))
 have K0:=Lib.hid (heap_alloc_last w (.cells nil3 26))
 have HB:=Lib.hid (bnew w (.cells nil3 26))
 clear hv hC
 go_enter Tryz.func17,Tryz.ntmps17
 go_upto_region 5 with (go_at_call 35;((with_reducible refine (HC.out).mono ?_);rintro e w1 ⟨-,rfl,b1⟩))
 have q1:=L8.row_up K0.out b1
 have B1:=bch HB.out b1
 have q2:=L8.row_up q1 (bnew w1 (.cells nil3 26))
 have B2:=bch B1 (bnew w1 (.cells nil3 26))
 go_wp2_with (refine wpList_store_row rfl _ _ _ rfl w.heap.size nil3 rfl rfl 26 _ q2 (by kernel_rfl) rfl (by simp [Value.oneCell']) ?_)
 obtain⟨z0,z1,z2⟩:=L13.cells3 (setRow_heap _ _ _ nil3 _ _ q2)
 exact bodyPost_ret (v:=.tuple #[.agg nil3,.int .i64 19]) (by simp [results,Tryz.results17,go_sem,z0,z1,z2]) rfl ⟨rfl,below_setRow B2 (Nat.le_refl _) _⟩
theorem parse16_bad (hT:Tb w) (o:Ob) (ho:OS o) (R:Int) (hR:chE o=R) (h0:R≠0) (hC:∀ w,Rw eB w (.slice a n c) b→Calls Tryz.prog 35 #[.slice a n c] w (CoY o w)) :
  Calls Tryz.prog 17 #[.slice a n c] w (PaN w):=by
 have HC:=Lib.hid (hC _ (hv.below (bnew w (.cells nil3 26))))
 have HP:=Lib.hid (fun (X:World) (vm vc vr:Value) (hX:Below w.heap.size w X) (hoa:OA X vm vc vr o)=>pack_no vm vc vr o X hoa ho (tb_below hT hX) R hR h0)
 have h0':(R != 0)=true:=by simpa using h0
 have K0:=Lib.hid (heap_alloc_last w (.cells nil3 26))
 have HB:=Lib.hid (bnew w (.cells nil3 26))
 clear hv hC ho hT hR
 go_enter Tryz.func17,Tryz.ntmps17
 go_upto_region 8 with (first
  | (go_at_call 35;((with_reducible refine (HC.out).mono ?_);rintro e w1 ⟨⟨vm,vc,vr,rfl,hoa⟩,b1⟩;obtain⟨a1,c1,rfl,-⟩:=L10.df_form rfl hoa.m;obtain⟨a2,c2,rfl,-⟩:=hoa.c.form rfl;obtain⟨a3,c3,rfl,-⟩:=L13.ro_form rfl hoa.r;have B1:=bch HB.out b1))
  | (go_at_call 12;((with_reducible refine (HP.out _ _ _ _ (bch B1 (bnew _ _)) (hoa.below (bnew _ _))).mono ?_);rintro e w2 ⟨rfl,b2⟩)))
 have q1:=L8.row_up K0.out b1
 have q2:=L8.row_up (L8.row_up q1 (bnew w1 (.cells #[.slice a1 o.maps.length c1,.slice a2 o.code.length c2,.slice a3 o.rels.length c3] 26))) b2
 have B2:=bch (bch B1 (bnew w1 (.cells #[.slice a1 o.maps.length c1,.slice a2 o.code.length c2,.slice a3 o.rels.length c3] 26))) b2
 go_wp2_with (refine wpList_store_row rfl _ _ _ rfl w.heap.size nil3 rfl rfl 26 _ q2 (by kernel_rfl) rfl (by simp [Value.oneCell']) ?_)
 obtain⟨z0,z1,z2⟩:=L13.cells3 (setRow_heap _ _ _ nil3 _ _ q2)
 exact bodyPost_ret (v:=.tuple #[.agg nil3,.int .i64 19]) (by simp [results,Tryz.results17,go_sem,z0,z1,z2]) rfl ⟨rfl,below_setRow B2 (Nat.le_refl _) _⟩
theorem parse16_off (hT:Tb w) (o:Ob) (ho:OS o) (hR:chE o=0) (he:pkB o≠b) (hC:∀ w,Rw eB w (.slice a n c) b→Calls Tryz.prog 35 #[.slice a n c] w (CoY o w)) :
  Calls Tryz.prog 17 #[.slice a n c] w (PaN w):=by
 have HC:=Lib.hid (hC _ (hv.below (bnew w (.cells nil3 26))))
 have HP:=Lib.hid (fun (X:World) (vm vc vr:Value) (hX:Below w.heap.size w X) (hoa:OA X vm vc vr o)=>pack_yes vm vc vr o X hoa ho (tb_below hT hX) (pkB o).length hR rfl)
 have HE:=Lib.hid (fun (X:World) (v:Value) (hX:Below w.heap.size w X) (hp:Rw eB X v (pkB o))=>bequal_at v (.slice a n c) (pkB o) b false X hp (hv.below hX) (by simpa using he))
 generalize (pkB o).length=N at HP
 have K0:=Lib.hid (heap_alloc_last w (.cells nil3 26))
 have HB:=Lib.hid (bnew w (.cells nil3 26))
 clear hv hC ho hT hR he
 go_enter Tryz.func17,Tryz.ntmps17
 go_upto_region 8 with (first
  | (go_at_call 35;((with_reducible refine (HC.out).mono ?_);rintro e w1 ⟨⟨vm,vc,vr,rfl,hoa⟩,b1⟩;obtain⟨a1,c1,rfl,-⟩:=L10.df_form rfl hoa.m;obtain⟨a2,c2,rfl,-⟩:=hoa.c.form rfl;obtain⟨a3,c3,rfl,-⟩:=L13.ro_form rfl hoa.r;have B1:=bch HB.out b1))
  | (go_at_call 12;((with_reducible refine (HP.out _ _ _ _ (bch B1 (bnew _ _)) (hoa.below (bnew _ _))).mono ?_);rintro e w2 ⟨⟨pa,pc,rfl,rp⟩,b2⟩))
  | (go_at_call 36;((with_reducible refine (HE.out _ _ (bch (bch B1 (bnew _ _)) b2) rp).mono ?_);rintro e w3 ⟨rfl,rfl⟩)))
 have q1:=L8.row_up K0.out b1
 have q2:=L8.row_up (L8.row_up q1 (bnew w1 (.cells #[.slice a1 o.maps.length c1,.slice a2 o.code.length c2,.slice a3 o.rels.length c3] 26))) b2
 have B2:=bch (bch B1 (bnew w1 (.cells #[.slice a1 o.maps.length c1,.slice a2 o.code.length c2,.slice a3 o.rels.length c3] 26))) b2
 go_wp2_with (refine wpList_store_row rfl _ _ _ rfl w.heap.size nil3 rfl rfl 26 _ q2 (by kernel_rfl) rfl (by simp [Value.oneCell']) ?_)
 obtain⟨z0,z1,z2⟩:=L13.cells3 (setRow_heap _ _ _ nil3 _ _ q2)
 exact bodyPost_ret (v:=.tuple #[.agg nil3,.int .i64 19]) (by simp [results,Tryz.results17,go_sem,z0,z1,z2]) rfl ⟨rfl,below_setRow B2 (Nat.le_refl _) _⟩
theorem parse16_yes (hT:Tb w) (o:Ob) (ho:OS o) (hR:chE o=0) (he:pkB o=b) (hC:∀ w,Rw eB w (.slice a n c) b→Calls Tryz.prog 35 #[.slice a n c] w (CoY o w)) :
  Calls Tryz.prog 17 #[.slice a n c] w (PaY o w):=by
 have HC:=Lib.hid (hC _ (hv.below (bnew w (.cells nil3 26))))
 have HP:=Lib.hid (fun (X:World) (vm vc vr:Value) (hX:Below w.heap.size w X) (hoa:OA X vm vc vr o)=>pack_yes vm vc vr o X hoa ho (tb_below hT hX) (pkB o).length hR rfl)
 have HE:=Lib.hid (fun (X:World) (v:Value) (hX:Below w.heap.size w X) (hp:Rw eB X v (pkB o))=>bequal_at v (.slice a n c) (pkB o) b true X hp (hv.below hX) (by simpa using he))
 generalize (pkB o).length=N at HP
 have K0:=Lib.hid (heap_alloc_last w (.cells nil3 26))
 have HB:=Lib.hid (bnew w (.cells nil3 26))
 clear hv hC ho hT hR he
 go_enter Tryz.func17,Tryz.ntmps17
 go_upto_region 9 with (first
  | (go_at_call 35;((with_reducible refine (HC.out).mono ?_);rintro e w1 ⟨⟨vm,vc,vr,rfl,hoa⟩,b1⟩;obtain⟨a1,c1,rfl,-⟩:=L10.df_form rfl hoa.m;obtain⟨a2,c2,rfl,-⟩:=hoa.c.form rfl;obtain⟨a3,c3,rfl,-⟩:=L13.ro_form rfl hoa.r;have B1:=bch HB.out b1))
  | (go_at_call 12;((with_reducible refine (HP.out _ _ _ _ (bch B1 (bnew _ _)) (hoa.below (bnew _ _))).mono ?_);rintro e w2 ⟨⟨pa,pc,rfl,rp⟩,b2⟩;have r1:=L8.row_up (heap_alloc_last w1 (.cells #[.slice a1 o.maps.length c1,.slice a2 o.code.length c2,.slice a3 o.rels.length c3] 26)) b2))
  | (go_at_call 36;((with_reducible refine (HE.out _ _ (bch (bch B1 (bnew _ _)) b2) rp).mono ?_);rintro e w3 ⟨rfl,rfl⟩)))
 have q1:=L8.row_up K0.out b1
 have q2:=L8.row_up (L8.row_up q1 (bnew w1 (.cells #[.slice a1 o.maps.length c1,.slice a2 o.code.length c2,.slice a3 o.rels.length c3] 26))) b2
 have B2:=bch (bch B1 (bnew w1 (.cells #[.slice a1 o.maps.length c1,.slice a2 o.code.length c2,.slice a3 o.rels.length c3] 26))) b2
 have HOA:=Lib.hid ((hoa.below (bnew w1 (.cells #[.slice a1 o.maps.length c1,.slice a2 o.code.length c2,.slice a3 o.rels.length c3] 26))).below b2)
 obtain⟨x0,x1,x2⟩:=L13.cells3 r1
 have l0:=World.block_lt_of_cell? _ _ x0
 simp only at l0
 clear hoa
 go_wp2_with (refine wpList_store_row rfl _ _ _ rfl w.heap.size #[.slice a1 o.maps.length c1,.slice a2 o.code.length c2,.slice a3 o.rels.length c3] rfl rfl 26 _ q2 (by kernel_rfl) rfl (by simp [Value.oneCell']) ?_)
 obtain⟨z0,z1,z2⟩:=L13.cells3 (setRow_heap _ _ _ #[.slice a1 o.maps.length c1,.slice a2 o.code.length c2,.slice a3 o.rels.length c3] _ _ q2)
 exact bodyPost_ret (v:=.tuple #[.agg #[.slice a1 o.maps.length c1,.slice a2 o.code.length c2,.slice a3 o.rels.length c3],.int .i64 0]) (by simp [results,Tryz.results17,go_sem,z0,z1,z2]) rfl ⟨⟨_,_,_,rfl,oa_setRow HOA.out q2⟩,below_setRow B2 (Nat.le_refl _) _⟩
theorem parse16_at (hT:Tb w):((∀ q,¬ Is16 b q)∧Calls Tryz.prog 17 #[.slice a n c] w (PaN w))∨∃ o,Is16 b o∧OS o∧Calls Tryz.prog 17 #[.slice a n c] w (PaY o w):=by
 rcases content_at a n c b hv.at.1 hb with ⟨hn,hC⟩|⟨o,hct,hC⟩
 ·exact .inl ⟨hn,parse16_none a n c b w hv hb hC⟩
 ·by_cases hR:chE o=0
  ·by_cases he:pkB o=b
   ·exact .inr ⟨o,⟨hR,he⟩,hct.sml,parse16_yes a n c b w hv hb hT o hct.sml hR he hC⟩
   ·exact .inl ⟨fun q hq=>he (by rw [← hct.one q hq];exact hq.2),parse16_off a n c b w hv hb hT o hct.sml hR he hC⟩
  ·exact .inl ⟨fun q hq=>hR (by rw [← hct.one q hq];exact hq.1),parse16_bad a n c b w hv hb hT o hct.sml _ rfl hR hC⟩
end
end Go.Proofs.YtohkgdfkklfgmaaGreatDoor.L16
end
