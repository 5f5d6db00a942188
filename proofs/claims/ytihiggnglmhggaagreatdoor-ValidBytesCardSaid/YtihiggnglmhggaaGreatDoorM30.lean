/- Lemmas and walks of L16Co, L16Cy: what each theorem states; conditions stand in each theorem. -/
import Derived.Test.YtihiggnglmhggaaGreatDoorL16Nu
import Derived.Test.YtihiggnglmhggaaGreatDoorL16Ck
import Derived.Test.YtihiggnglmhggaaGreatDoorM29
import Derived.Test.YtihiggnglmhggaaGreatDoorL13Asm
set_option maxHeartbeats 8000000
set_option maxRecDepth 100000
section
namespace Go.Proofs.YtihiggnglmhggaaGreatDoor.L16
open Go.RowKit L14 L15
open L13 (Ob)
attribute [local go_sem] Oper.semAt_some
theorem sub_le (b:List UInt8) (i n:Nat):(sub b i n).length≤b.length:=by
 unfold sub
 rw [List.length_take,List.length_drop];omega
theorem getV_mem:∀ (l:List Sc) (k:Int) (d:List UInt8),getV l k=some d→∃ s∈l,s.2=d
 | [],_,_,h=>by cases h
 | s::r,k,d,h=>by
  unfold getV at h
  split at h
  ·exact⟨s,List.mem_cons_self ..,Option.some.inj h⟩
  ·obtain⟨x,hx,hd⟩:=getV_mem r k d h
   exact⟨x,List.mem_cons_of_mem _ hx,hd⟩
theorem gD_le (b:List UInt8) (n:Nat) (k:Int):(gD (rdT b n) k).length≤b.length:=by
 unfold gD
 cases h:getV (rdT b n) k with
 | none=>simp
 | some d =>
  obtain⟨s,hs,hd⟩:=getV_mem _ _ _ h
  obtain⟨i,hi,rfl⟩:=List.mem_iff_getElem.1 hs
  rw [rdT_at] at hd
  rw [← hd]
  exact sub_le _ _ _
theorem tot_mem:∀ (ts:List (List UInt8)) (t:List UInt8),t∈ts→t.length≤L14.tot ts
 | x::r,t,h=>by
  have e:L14.tot (x::r)=x.length+L14.tot r:=by simp [L14.tot]
  rcases List.mem_cons.1 h with rfl|h
  ·omega
  ·have:=tot_mem r t h
   omega
theorem zip_nm:∀ (ts:List (List UInt8)) (rs:List (List Int)) (d:L9.Df),d∈List.zipWith mkD ts rs→∃ t∈ts,d.nm=mkB t
 | [],_,_,h=>by simp at h
 | _::_,[],_,h=>by simp at h
 | t::r,s::q,d,h=>by
  rw [List.zipWith_cons_cons] at h
  rcases List.mem_cons.1 h with rfl|h
  ·exact⟨t,List.mem_cons_self ..,rfl⟩
  ·obtain⟨x,hx,hd⟩:=zip_nm r q d h
   exact⟨x,List.mem_cons_of_mem _ hx,hd⟩
structure Ct (b:List UInt8) (o:Ob):Prop where
 one:∀ q,Is16 b q→q=o
 sml:OS o
theorem gD_secs (q:Ob):gD (secs q) 1=q.code∧gD (secs q) 2=rwB (r2 q.maps)∧gD (secs q) 4=rwB (r4 q.rels)∧gD (secs q) 5=L14.tb (nmL q.maps):=by
 refine⟨?_,?_,?_,?_⟩ <;> simp [gD,secs,getV]
theorem ct_of {b:List UInt8} {ts:List (List UInt8)} (hb:b.length≤100000) (hp:L14.prV (gD (rdT b (nS b)) 5)=some ts) :
  Ct b (obT (gD (rdT b (nS b)) 1) (gD (rdT b (nS b)) 2) (gD (rdT b (nS b)) 4) ts):=by
 have h1:=gD_le b (nS b) 1
 have h4:=gD_le b (nS b) 4
 have h5:=gD_le b (nS b) 5
 have hf:=L14.prV_few hp
 refine⟨fun q hq=>?_,⟨?_,?_,?_,?_⟩⟩
 ·obtain⟨-,he⟩:=is16_rd hq
  have hg:=gd_of hq.1
  obtain⟨e1,e2,e4,e5⟩:=gD_secs q
  rw [he,e5,prV_secs hg] at hp
  rw [he,e1,e2,e4,← Option.some.inj hp,obT_secs hg]
 ·show (List.zipWith mkD ts _).length≤_
  rw [List.length_zipWith];omega
 ·show (gD (rdT b (nS b)) 1).length≤_
  omega
 ·show ((rdR 2 (gD (rdT b (nS b)) 4)).map mkR).length≤_
  rw [List.length_map,rdR_len];omega
 ·intro d hd
  obtain⟨t,ht,hn⟩:=zip_nm ts _ d hd
  rw [hn,mkB_size]
  have:=tot_mem ts t ht
  unfold maxLen;omega
def CoN (b:List UInt8) (w:World) (e:Ending) (w':World):Prop :=
 (∀ q,¬ Is16 b q)∧e=.returned (.tuple #[.agg #[.slice none 0 0,.slice none 0 0,.slice none 0 0],.bool false])∧Below w.heap.size w w'
def CoY (o:Ob) (w:World) (e:Ending) (w':World):Prop :=
 (∃ vm vc vr,e=.returned (.tuple #[.agg #[vm,vc,vr],.bool true])∧OA w' vm vc vr o)∧Below w.heap.size w w'
abbrev nil3:Array Value:=#[.slice none 0 0,.slice none 0 0,.slice none 0 0]
theorem read_not (a:Option Addr) (n c:Nat) (b:List UInt8) (w:World) (hv:Rw eB w (.slice a n c) b) (hb:n≤1000000) (h:¬ rdOk b) :
  Calls Tryz.prog 106 #[.slice a n c] w fun e w'=>e=.returned (.tuple #[.slice none 0 0,.int .i64 19])∧Below w.heap.size w w':=by
 refine (read_at a n c b w hv hb).mono fun e w' hP=>?_
 obtain⟨⟨-,he⟩|⟨h1,-⟩,hb⟩:=hP
 ·exact⟨he,hb⟩
 ·exact absurd h1 h
theorem read_is (a:Option Addr) (n c:Nat) (b:List UInt8) (w:World) (hv:Rw eB w (.slice a n c) b) (hb:n≤1000000) (h:rdOk b) :
  Calls Tryz.prog 106 #[.slice a n c] w fun e w'=>(∃ a' c',e=.returned (.tuple #[.slice a' (nS b) c',.int .i64 0])∧Ss w' (.slice a' (nS b) c') (rdT b (nS b)))∧Below w.heap.size w w':=by
 refine (read_at a n c b w hv hb).mono fun e w' hP=>?_
 obtain⟨⟨h1,-⟩|⟨-,h2⟩,hb⟩:=hP
 ·exact absurd h h1
 ·exact⟨h2,hb⟩
theorem content_no (a:Option Addr) (n c:Nat) (b:List UInt8) (w:World) (hv:Rw eB w (.slice a n c) b) (hb:n≤100000) (h:¬ rdOk b) :
  Calls Tryz.prog 66 #[.slice a n c] w (CoN b w):=by
 have HR:=Lib.hid (read_not a n c b _ (hv.below (bnew w (.cells nil3 26))) (by omega) h)
 have K0:=Lib.hid (heap_alloc_last w (.cells nil3 26))
 have HB:=Lib.hid (bnew w (.cells nil3 26))
 have HN:=Lib.hid (fun q (hq:Is16 b q)=>h (is16_rd hq).1)
 clear hv h
 go_enter Tryz.func66,Tryz.ntmps66
 go_upto_region 3 with (go_at_call 106;((with_reducible refine (HR.out).mono ?_);rintro e w1 ⟨rfl,b1⟩))
 have q2:=L8.row_up K0.out b1
 have B1:=bch HB.out b1
 go_wp2_with (refine wpList_store_row rfl _ _ _ rfl w.heap.size nil3 rfl rfl 26 _ q2 (by kernel_rfl) rfl (by simp [Value.oneCell']) ?_)
 obtain⟨z0,z1,z2⟩:=L13.cells3 (setRow_heap _ _ _ nil3 _ _ q2)
 exact bodyPost_ret (v:=.tuple #[.agg nil3,.bool false]) (by simp [results,Tryz.results66,go_sem,z0,z1,z2]) rfl ⟨HN.out,rfl,below_setRow B1 (Nat.le_refl _) _⟩
theorem readRows_is (v:Value) (l:List Sc) (kind M:Int) (m K:Nat) (d:List UInt8) (w:World) (hv:Ss w v l) (hl:l.length≤1000000) (hm0:0<m) (hm4:m≤4) (hd:gD l kind=d) (hdl:d.length≤1000000) (hK:d.length / (4*m)=K) (hM:M=(m:Int)) :
  Calls Tryz.prog 109 #[v,.int .i64 kind,.int .i64 M] w fun e w'=>(∃ a c,e=.returned (.slice a K c)∧Ro w.heap.size w' (.slice a K c) (rdR m d) m)∧Below w.heap.size w w':=by
 subst hM
 exact readRows_at v l kind m K d w hv hl hm0 hm4 hd hdl hK
theorem nS_le {b:List UInt8} (h:rdOk b):(rdT b (nS b)).length≤1000000:=by
 have:=(chk0.1 h.2.1).1.1
 omega
theorem content_bad (a:Option Addr) (n c:Nat) (b:List UInt8) (w:World) (hv:Rw eB w (.slice a n c) b) (hb:n≤100000) (h:rdOk b) (hp:L14.prV (gD (rdT b (nS b)) 5)=none) :
  Calls Tryz.prog 66 #[.slice a n c] w (CoN b w):=by
 have hbl:=hv.at.1
 obtain⟨l,hl⟩:∃ l,rdT b (nS b)=l:=⟨_,rfl⟩
 have hl5:=gD_le b (nS b) 5
 have hl2:=gD_le b (nS b) 2
 have hlm:=nS_le h
 have HR:=Lib.hid (hl ▸ read_is a n c b _ (hv.below (bnew w (.cells nil3 26))) (by omega) h)
 rw [hl] at hp hl5 hl2 hlm
 obtain⟨D5,hD5⟩:∃ D,(gD l 5).length=D:=⟨_,rfl⟩
 obtain⟨K2,hK2⟩:∃ K,(gD l 2).length / (4*4)=K:=⟨_,rfl⟩
 have HG:=Lib.hid (fun (X:World) (v:Value) (hs:Ss X v l)=>gget_at v l 5 _ D5 X hs hlm rfl hD5)
 have HP:=Lib.hid (fun (X:World) (v:Value) (hr:Rw eB X v (gD l 5))=>parse_none v (gD l 5) X hr (by omega) hp)
 have HQ:=Lib.hid (fun (X:World) (v:Value) (hs:Ss X v l)=>readRows_is v l 2 4 4 K2 _ X hs hlm (by decide) (by decide) rfl (by omega) hK2 rfl)
 have K0:=Lib.hid (heap_alloc_last w (.cells nil3 26))
 have HB:=Lib.hid (bnew w (.cells nil3 26))
 have HN:Hid (∀ q,¬ Is16 b q):=Lib.hid (fun q hq=>by
  have e:=(is16_rd hq).2
  rw [hl] at e
  rw [e,(gD_secs q).2.2.2,prV_secs (gd_of hq.1)] at hp
  cases hp)
 clear hv h hp hl hl5 hl2 hlm hbl hD5 hK2
 generalize nS b=L at HR
 go_enter Tryz.func66,Tryz.ntmps66
 go_upto_region 8 with (first
  | (go_at_call 106;((with_reducible refine (HR.out).mono ?_);rintro e w1 ⟨⟨ra,rc,rfl,rs⟩,b1⟩;have B1:=bch HB.out b1))
  | (go_at_call 107;((with_reducible refine (HG.out _ _ rs).mono ?_);rintro e w2 ⟨⟨ga,gc,gb,rfl,rg0⟩,b2⟩;have rg:=rg0.below b2;have B2:=bch B1 b2;have rs2:=rs.below b2))
  | (go_at_call 108;((with_reducible refine (HP.out _ _ rg).mono ?_);rintro e w3 ⟨rfl,b3⟩;have B3:=bch B2 b3;have rs3:=rs2.below b3))
  | (go_at_call 109;((with_reducible refine (HQ.out _ _ rs3).mono ?_);rintro e w4 ⟨⟨qa,qc,rfl,-⟩,b4⟩;have B4:=bch B3 b4)))
 have q2:=L8.row_up (L8.row_up (L8.row_up (L8.row_up K0.out b1) b2) b3) b4
 go_wp2_with (refine wpList_store_row rfl _ _ _ rfl w.heap.size nil3 rfl rfl 26 _ q2 (by kernel_rfl) rfl (by simp [Value.oneCell']) ?_)
 obtain⟨z0,z1,z2⟩:=L13.cells3 (setRow_heap _ _ _ nil3 _ _ q2)
 exact bodyPost_ret (v:=.tuple #[.agg nil3,.bool false]) (by simp [results,Tryz.results66,go_sem,z0,z1,z2]) rfl ⟨HN.out,rfl,below_setRow B4 (Nat.le_refl _) _⟩
theorem content_off (a:Option Addr) (n c:Nat) (b:List UInt8) (w:World) (ts:List (List UInt8)) (hv:Rw eB w (.slice a n c) b) (hb:n≤100000) (h:rdOk b) (hp:L14.prV (gD (rdT b (nS b)) 5)=some ts) (hne:(gD (rdT b (nS b)) 2).length / (4*4)≠ts.length) :
  Calls Tryz.prog 66 #[.slice a n c] w (CoN b w):=by
 have hbl:=hv.at.1
 obtain⟨l,hl⟩:∃ l,rdT b (nS b)=l:=⟨_,rfl⟩
 have hl5:=gD_le b (nS b) 5
 have hl2:=gD_le b (nS b) 2
 have hlm:=nS_le h
 have HR:=Lib.hid (hl ▸ read_is a n c b _ (hv.below (bnew w (.cells nil3 26))) (by omega) h)
 rw [hl] at hp hl5 hl2 hlm hne
 obtain⟨D5,hD5⟩:∃ D,(gD l 5).length=D:=⟨_,rfl⟩
 obtain⟨K2,hK2⟩:∃ K,(gD l 2).length / (4*4)=K:=⟨_,rfl⟩
 obtain⟨T,hT⟩:∃ K,ts.length=K:=⟨_,rfl⟩
 have HG:=Lib.hid (fun (X:World) (v:Value) (hs:Ss X v l)=>gget_at v l 5 _ D5 X hs hlm rfl hD5)
 have HP:=Lib.hid (fun (X:World) (v:Value) (hr:Rw eB X v (gD l 5))=>parse_some v (gD l 5) ts T X hr (by omega) hp hT)
 have HQ:=Lib.hid (fun (X:World) (v:Value) (hs:Ss X v l)=>readRows_is v l 2 4 4 K2 _ X hs hlm (by decide) (by decide) rfl (by omega) hK2 rfl)
 have K0:=Lib.hid (heap_alloc_last w (.cells nil3 26))
 have HB:=Lib.hid (bnew w (.cells nil3 26))
 have HN:Hid (∀ q,¬ Is16 b q):=Lib.hid (fun q hq=>by
  have e:=(is16_rd hq).2
  rw [hl] at e
  obtain⟨-,e2,-,e5⟩:=gD_secs q
  rw [e,e5,prV_secs (gd_of hq.1)] at hp
  rw [e,e2,r2_len,← Option.some.inj hp,nmL_len] at hne
  omega)
 rw [hK2,hT] at hne
 have hne':((K2:Int) != (T:Int))=true:=by rw [bne_iff_ne];omega
 clear hv h hp hl hl5 hl2 hlm hbl hD5 hK2 hT hne
 generalize nS b=L at HR
 go_enter Tryz.func66,Tryz.ntmps66
 go_upto_region 8 with (first
  | (go_at_call 106;((with_reducible refine (HR.out).mono ?_);rintro e w1 ⟨⟨ra,rc,rfl,rs⟩,b1⟩;have B1:=bch HB.out b1))
  | (go_at_call 107;((with_reducible refine (HG.out _ _ rs).mono ?_);rintro e w2 ⟨⟨ga,gc,gb,rfl,rg0⟩,b2⟩;have rg:=rg0.below b2;have B2:=bch B1 b2;have rs2:=rs.below b2))
  | (go_at_call 108;((with_reducible refine (HP.out _ _ rg).mono ?_);rintro e w3 ⟨⟨pa,pc,oa,oc,rfl,-,-⟩,b3⟩;have B3:=bch B2 b3;have rs3:=rs2.below b3))
  | (go_at_call 109;((with_reducible refine (HQ.out _ _ rs3).mono ?_);rintro e w4 ⟨⟨qa,qc,rfl,-⟩,b4⟩;have B4:=bch B3 b4)))
 have q2:=L8.row_up (L8.row_up (L8.row_up (L8.row_up K0.out b1) b2) b3) b4
 go_wp2_with (refine wpList_store_row rfl _ _ _ rfl w.heap.size nil3 rfl rfl 26 _ q2 (by kernel_rfl) rfl (by simp [Value.oneCell']) ?_)
 obtain⟨z0,z1,z2⟩:=L13.cells3 (setRow_heap _ _ _ nil3 _ _ q2)
 exact bodyPost_ret (v:=.tuple #[.agg nil3,.bool false]) (by simp [results,Tryz.results66,go_sem,z0,z1,z2]) rfl ⟨HN.out,rfl,below_setRow B4 (Nat.le_refl _) _⟩
theorem rw_down {w:World} {v:Value} {d:List UInt8} {t:TypeId} (h:Rw eB (w.alloc (.cells nil3 t)) v d):Rw eB w v d:=by
 obtain⟨a,c,hv,h1,h2,h3⟩:=h
 refine⟨a,c,hv,h1,h2,fun hp=>?_⟩
 obtain⟨b,o,ha,hb,hc⟩:=h3 hp
 have hn:=heap_alloc_new w (.cells nil3 t)
 have hlt:b<w.heap.size:=by
  rcases Nat.lt_or_ge b w.heap.size with h|h
  ·exact h
  ·have hb2:b=w.heap.size:=by
    simp only [World.size_alloc] at hb;omega
   subst hb2
   have h0:=hc 0 hp
   unfold World.cell? at h0
   simp only [hn,Nat.add_zero] at h0
   match o,h0 with
   | 0,h0=>simp at h0
   | 1,h0=>simp at h0
   | 2,h0=>simp at h0
   | o+3,h0=>simp at h0
 exact⟨b,o,ha,hlt,fun j hj=>by rw [← hc j hj];exact ((bnew w (.cells nil3 t)).cell (by exact hlt)).symm⟩
theorem rw_setRow {W:World} {kr:Nat} {a1 a2 a3:Option Addr} {n1 c1 n2 c2 n3 c3:Nat} {v:Value} {d:List UInt8} {cs:Array Value} {t:TypeId} (h:Rw eB W v d) (hr:W.heap[kr]?=some (.cells #[.slice a1 n1 c1,.slice a2 n2 c2,.slice a3 n3 c3] t)):Rw eB (W.setRow kr cs) v d:=by
 obtain⟨a,c,hv,h1,h2,h3⟩:=h
 refine⟨a,c,hv,h1,h2,fun hp=>?_⟩
 obtain⟨b,o,ha,hb,hc⟩:=h3 hp
 have hne:b≠kr:=by
  rintro rfl
  have h0:=hc 0 hp
  unfold World.cell? at h0
  simp only [hr,Nat.add_zero] at h0
  match o,h0 with
  | 0,h0=>simp at h0
  | 1,h0=>simp at h0
  | 2,h0=>simp at h0
  | o+3,h0=>simp at h0
 refine⟨b,o,ha,Nat.lt_of_lt_of_le hb (L13.gr_setRow W kr cs).size,fun j hj=>?_⟩
 rw [cell_setRow_other _ _ _ _ hne]
 exact hc j hj
theorem own_ro {W:World} {B e:TypeId} {v:Value} {l:List (Int × Int)} {n:Nat} (hn:l.length=n) (h:W.ownsRow B e 2 v n (l.flatMap L13.roL)):L13.RoAt W v l:=by
 subst hn
 rcases h.2 with ⟨rfl,h0⟩|⟨g,cap,cur,rfl,_,hh,_⟩
 ·exact .inr ⟨List.eq_nil_of_length_eq_zero h0,none,0,rfl⟩
 ·have hget:∀ j (hj:j<l.length) i u,(L13.roL l[j])[i]?=some u→W.cell? ⟨g,0+j*2+i,none⟩=some u:=fun j hj i u hu=>by
   have:=h.cells (g:=g) rfl (j*2+i) u (L10.flat_get L13.roL 2 (fun _=>rfl) l j hj i u hu)
   rw [Nat.zero_add]
   rwa [L8.add0] at this
  exact .inl ⟨g,0,cap,rfl,lt_of_block hh,fun j hj=>⟨hget j hj 0 _ rfl,hget j hj 1 _ rfl⟩⟩
theorem row_far {W W':World} {kr:Nat} {cs:Array Value} {t B e:TypeId} {size:Nat} {v:Value} {n:Nat} {xs:List Value} (hk:W.heap[kr]?=some (.cells cs t)) (ho:W.ownsRow B e size v n xs) (hg:W.grownBy W' v.ownBlock) (he:t≠e):W'.heap[kr]?=some (.cells cs t):=by
 refine (hg.block kr (lt_of_block hk) fun h=>?_).trans hk
 obtain⟨c,hc⟩:=L10.own_ty ho h.symm
 exact L10.ty_ne hk hc he rfl
theorem own_cell {W:World} {B e:TypeId} {sz n kr i:Nat} {v u:Value} {xs:List Value} {cs:Array Value} {t:TypeId} (h:W.ownsRow B e sz v n xs) (hr:W.heap[kr]?=some (.cells cs t)) (ht:t≠e):(W.setCell ⟨kr,i,none⟩ u).ownsRow B e sz v n xs :=
 L10.own_kept h (L10.gr_setCell W kr i u) (fun g hg=>by
  obtain⟨cur,hc⟩:=L10.own_ty h hg
  exact L10.ty_ne hr hc ht)
theorem own_apart {W W':World} {B B' e e' sz sz' n n':Nat} {v v':Value} {xs ys:List Value} (h:W.ownsRow B e sz v n xs) (ho:W.ownsRow B' e' sz' v' n' ys) (hg:W.grownBy W' v'.ownBlock) (he:e≠e'):W'.ownsRow B e sz v n xs :=
 L10.own_kept h hg (fun g hv hk=>by
  obtain⟨c1,h1⟩:=L10.own_ty h hv
  obtain⟨c2,h2⟩:=L10.own_ty ho hk
  rw [h1] at h2
  cases h2
  exact he rfl)
structure Kp (B:Nat) (W:World) (vd:Value) (n:Nat) (xs:List Value) (vr:Value) (rs:List (List Int)):Prop where
 d:W.ownsRow B 88 4 vd n xs
 r:Ro B W vr rs 2
theorem Kp.below {B:Nat} {W W':World} {vd vr:Value} {n:Nat} {xs:List Value} {rs:List (List Int)} (h:Kp B W vd n xs vr rs) (hb:Below W.heap.size W W'):Kp B W' vd n xs vr rs:=⟨own_below h.d hb,h.r.below hb⟩
theorem Kp.apart {B B':Nat} {W W':World} {vd vr v:Value} {n m:Nat} {xs ys:List Value} {rs:List (List Int)} (h:Kp B W vd n xs vr rs) (ho:W.ownsRow B' 101 2 v m ys) (hg:W.grownBy W' v.ownBlock):Kp B W' vd n xs vr rs:=by
 obtain⟨h1,vs,h2,h3⟩:=h
 exact⟨own_apart h1 ho hg (by decide),vs,own_apart h2 ho hg (by decide),fun j hj=>by obtain⟨a,c,h4,h5⟩:=h3 j hj;exact⟨a,c,h4,own_apart h5 ho hg (by decide)⟩⟩
theorem Kp.cell {B:Nat} {W:World} {vd vr u:Value} {n kr i:Nat} {xs:List Value} {rs:List (List Int)} {cs:Array Value} (h:Kp B W vd n xs vr rs) (hr:W.heap[kr]?=some (.cells cs 26)):Kp B (W.setCell ⟨kr,i,none⟩ u) vd n xs vr rs:=by
 obtain⟨h1,vs,h2,h3⟩:=h
 exact⟨own_cell h1 hr (by decide),vs,own_cell h2 hr (by decide),fun j hj=>by obtain⟨a,c,h4,h5⟩:=h3 j hj;exact⟨a,c,h4,own_cell h5 hr (by decide)⟩⟩
theorem two_cells {X:World} {B e rb c:Nat} {a b:Value} (h:X.ownsRow B e 1 (.slice (some ⟨rb,0,none⟩) 2 c) 2 [a,b]):X.cell? ⟨rb,0,none⟩=some a∧X.cell? ⟨rb,1,none⟩=some b:=by
 have h0:=h.cells (g:=rb) rfl 0 a rfl
 have h1:=h.cells (g:=rb) rfl 1 b rfl
 rw [add0] at h0 h1
 exact⟨h0,h1⟩
theorem own_addr {X:World} {B e n m c sz:Nat} {a:Option Addr} {xs:List Value} (h:X.ownsRow B e sz (.slice a n c) m xs) (hm:0<m):∃ g,a=some ⟨g,0,none⟩∧n=m:=by
 rcases h.2 with ⟨h1,h2⟩|⟨g,cap,cur,hv,-⟩
 ·omega
 ·simp only [Value.slice.injEq] at hv
  exact⟨g,hv.1,hv.2.1⟩
theorem frz {w:World} {k:Nat} {cs:Array Value} {t:TypeId} (h:w.heap[k]?=some (.cells cs t)) (i:Nat):w.frozen? ⟨k,i,none⟩=false:=by simp [World.frozen?,h]
theorem infoDef:(Tryz.prog.info? 88).map (fun i=>(i.zero,i.size,i.bytes))=some (some (.agg #[.string ⟨#[]⟩,.int .i64 0,.int .i64 0,.int .i64 0]),4,40):=by kernel_rfl
theorem infoRel:(Tryz.prog.info? 101).map (fun i=>(i.zero,i.size,i.bytes))=some (some (.agg #[.int .i64 0,.int .i64 0]),2,16):=by kernel_rfl
theorem row_cells {w:World} {v:Value} {r:List Int} {m:Nat} (h:Rw eI w v r) (hr:r.length=m) (hm:0<m):∃ b o c,v=.slice (some ⟨b,o,none⟩) m c∧b<w.heap.size∧∀ j,j<m→w.cell? ⟨b,o+j,none⟩=some (eI (r.getD j 0)):=by
 obtain⟨a,c,rfl,-,-,h3⟩:=h.form hr
 obtain⟨b,o,rfl,hb,hc⟩:=h3 hm
 refine⟨b,o,c,rfl,hb,fun j hj=>?_⟩
 have hjl:j<r.length:=by omega
 rw [hc j hjl]
 simp [List.getD,hjl]
theorem zw_snoc (ts:List (List UInt8)) (rs:List (List Int)) (k:Nat) (h1:k<ts.length) (h2:k<rs.length):((List.zipWith mkD ts rs).take (k+1)).flatMap L10.dfL=((List.zipWith mkD ts rs).take k).flatMap L10.dfL++[.string (mkB ts[k]),eI (rs[k].getD 0 0),eI (rs[k].getD 1 0),eI (rs[k].getD 2 0)]:=by
 have hz:k<(List.zipWith mkD ts rs).length:=by rw [List.length_zipWith];omega
 rw [take_one _ k hz,List.flatMap_append]
 congr 1
 simp [mkD,List.getElem_zipWith]
theorem rl_snoc (rs:List (List Int)) (k:Nat) (h:k<rs.length):((rs.map mkR).take (k+1)).flatMap L13.roL=((rs.map mkR).take k).flatMap L13.roL++[eI (rs[k].getD 0 0),eI (rs[k].getD 1 0)]:=by
 have hz:k<(rs.map mkR).length:=by rw [List.length_map];exact h
 rw [take_one _ k hz,List.flatMap_append]
 congr 1
 simp [mkR]
theorem content_yes (a:Option Addr) (n c:Nat) (b:List UInt8) (w:World) (ts:List (List UInt8)) (hv:Rw eB w (.slice a n c) b) (hb:n≤100000) (h:rdOk b) (hp:L14.prV (gD (rdT b (nS b)) 5)=some ts) (heq:(gD (rdT b (nS b)) 2).length / (4*4)=ts.length) (o:Ob) (hoe:obT (gD (rdT b (nS b)) 1) (gD (rdT b (nS b)) 2) (gD (rdT b (nS b)) 4) ts=o) :
  Calls Tryz.prog 66 #[.slice a n c] w (CoY o w):=by
 obtain⟨idf,di,dz0,dz1,dz2⟩:=info_parts infoDef
 obtain⟨irl,ri,rz0,rz1,rz2⟩:=info_parts infoRel
 have hbl:=hv.at.1
 obtain⟨l,hl⟩:∃ l,rdT b (nS b)=l:=⟨_,rfl⟩
 have hl1:=gD_le b (nS b) 1
 have hl5:=gD_le b (nS b) 5
 have hl2:=gD_le b (nS b) 2
 have hl4:=gD_le b (nS b) 4
 have hlm:=nS_le h
 have hfw:=L14.prV_few hp
 have HR:=Lib.hid (hl ▸ read_is a n c b _ (hv.below (bnew w (.cells nil3 26))) (by omega) h)
 rw [hl] at hp hl1 hl5 hl2 hl4 hlm heq hfw hoe
 obtain⟨D1,hD1⟩:∃ D,(gD l 1).length=D:=⟨_,rfl⟩
 obtain⟨D5,hD5⟩:∃ D,(gD l 5).length=D:=⟨_,rfl⟩
 obtain⟨T,hT⟩:∃ K,ts.length=K:=⟨_,rfl⟩
 obtain⟨K4,hK4⟩:∃ K,(gD l 4).length / (4*2)=K:=⟨_,rfl⟩
 rw [hT] at heq hfw
 have hTb:T≤100000:=by omega
 have hKb:K4≤100000:=by omega
 have HG:=Lib.hid (fun (X:World) (v:Value) (hs:Ss X v l)=>gget_at v l 5 _ D5 X hs hlm rfl hD5)
 have HG1:=Lib.hid (fun (X:World) (v:Value) (hs:Ss X v l)=>gget_at v l 1 _ D1 X hs hlm rfl hD1)
 have HP:=Lib.hid (fun (X:World) (v:Value) (hr:Rw eB X v (gD l 5))=>parse_some v (gD l 5) ts T X hr (by omega) hp hT)
 have HQ:=Lib.hid (fun (X:World) (v:Value) (hs:Ss X v l)=>readRows_is v l 2 4 4 T _ X hs hlm (by decide) (by decide) rfl (by omega) heq rfl)
 have HQ4:=Lib.hid (fun (X:World) (v:Value) (hs:Ss X v l)=>readRows_is v l 4 2 2 K4 _ X hs hlm (by decide) (by decide) rfl (by omega) hK4 rfl)
 have hrl2:(rdR 4 (gD l 2)).length=T:=by rw [rdR_len,heq]
 have hrl4:(rdR 2 (gD l 4)).length=K4:=by rw [rdR_len,hK4]
 have hr2:=fun r (h:r∈rdR 4 (gD l 2))=>rdR_in 4 _ h
 have hr4:=fun r (h:r∈rdR 2 (gD l 4))=>rdR_in 2 _ h
 have HO:Hid (o=⟨List.zipWith mkD ts (rdR 4 (gD l 2)),gD l 1,(rdR 2 (gD l 4)).map mkR⟩):=Lib.hid hoe.symm
 generalize rdR 4 (gD l 2)=R2 at HQ hrl2 hr2 HO
 generalize rdR 2 (gD l 4)=R4 at HQ4 hrl4 hr4 HO
 generalize gD l 1=C1 at HG1 HO
 have HL:=Lib.hid (And.intro hT (And.intro hrl2 hrl4))
 have HR2:=Lib.hid hr2
 have HR4:=Lib.hid hr4
 have K0:=Lib.hid (heap_alloc_last w (.cells nil3 26))
 have HB:=Lib.hid (bnew w (.cells nil3 26))
 clear hv h hp hl hl1 hl5 hl2 hl4 hlm hbl hD1 hD5 hK4 hT hfw heq hrl2 hrl4 hr2 hr4 hoe
 generalize nS b=L at HR
 go_enter Tryz.func66,Tryz.ntmps66
 go_upto_region 9 with (first
  | (go_at_call 106;((with_reducible refine (HR.out).mono ?_);rintro e w1 ⟨⟨ra,rc,rfl,rs⟩,b1⟩;have B1:=bch HB.out b1))
  | (go_at_call 107;((with_reducible refine (HG.out _ _ rs).mono ?_);rintro e w2 ⟨⟨ga,gc,gb,rfl,rg0⟩,b2⟩;have rg:=rg0.below b2;have B2:=bch B1 b2;have rs2:=rs.below b2))
  | (go_at_call 108;((with_reducible refine (HP.out _ _ rg).mono ?_);rintro e w3 ⟨⟨pa,pc,oa,oc,rfl,rn,-⟩,b3⟩;have B3:=bch B2 b3;have rs3:=rs2.below b3))
  | (go_at_call 109;((with_reducible refine (HQ.out _ _ rs3).mono ?_);rintro e w4 ⟨⟨qa,qc,rfl,rq⟩,b4⟩;have B4:=bch B3 b4)))
 have q4:=L8.row_up (L8.row_up (L8.row_up (L8.row_up K0.out b1) b2) b3) b4
 have HQ0:=Lib.hid q4
 have HB4:=Lib.hid B4
 have HNm:=Lib.hid (rn.below b4)
 have HSz:=Lib.hid (rq.rs HR2.out)
 have rs4:=rs3.below b4
 clear rs rs2 rs3 rg rg0 rn rq b1 b2 b3 b4 B1 B2 B3 B4 q4 HR HG HP HQ K0 HB
 obtain⟨kb,hkb⟩:∃ k,w4.heap.size=k:=⟨_,rfl⟩
 have HKB:=Lib.hid hkb
 have rs5:=rs4.below (bnew w4 (.cells nil3 26))
 have K5:=heap_alloc_last w4 (.cells nil3 26)
 have b5:=bnew w4 (.cells nil3 26)
 have hdown:=fun v d (h:Rw eB (w4.alloc (.cells nil3 26)) v d)=>rw_down h
 rw [hkb] at K5
 have HDW:=Lib.hid hdown
 have HK5:=Lib.hid K5
 have HB5:=Lib.hid b5
 have HS5:=Lib.hid rs5
 have HS4:=Lib.hid rs4
 clear hdown K5 b5 rs4 rs5
 go_upto_region 10 with (fail)
 (try rw [hkb])
 generalize w4.alloc (.cells nil3 26)=w5 at HK5 HB5 HS5 HDW ⊢
 clear hkb
 go_wp2_with (go_at_call 107;((with_reducible refine (HG1.out _ _ HS5.out).mono ?_);rintro e w6 ⟨⟨ca,cc,cb,rfl,rc0⟩,b6⟩;have HC:=Lib.hid (HDW.out _ _ rc0);have hrow6:=L8.row_up HK5.out b6;have fz6:=frz hrow6 1;obtain⟨x0,x1,x2⟩:=L13.cells3 hrow6;have l6:=World.block_lt_of_cell? _ _ x0;simp only at l6))
 have B6:Below w4.heap.size w4 w6:=HB5.out.trans (b6.mono HB5.out.size)
 have HI:Hid ((w6.setCell ⟨kb,1,none⟩ (.slice ca D1 cc)).heap[kb]?=some (.cells #[.slice none 0 0,.slice ca D1 cc,.slice none 0 0] 26)∧(w6.setCell ⟨kb,1,none⟩ (.slice ca D1 cc)).ownsRow w4.heap.size 88 4 (.slice none 0 0) 0 (((List.zipWith mkD ts R2).take 0).flatMap L10.dfL)∧Below w4.heap.size w4 (w6.setCell ⟨kb,1,none⟩ (.slice ca D1 cc))) :=
  Lib.hid ⟨cells_set hrow6,World.ownsRow_nil _ _ _ _,B6.setCell (by rw [HKB.out];exact Nat.le_refl _) _⟩
 clear hrow6 fz6 x0 x1 x2 l6 b6 rc0 B6 HG1 HDW
 go_loopw [55] (fun q wr=>∃ (k:Nat) (ma:Option Addr) (mc:Nat),k≤T∧q=.int .i64 (k:Int)∧Hid (wr.heap[kb]?=some (.cells #[.slice ma k mc,.slice ca D1 cc,.slice none 0 0] 26)∧wr.ownsRow w4.heap.size 88 4 (.slice ma k mc) k (((List.zipWith mkD ts R2).take k).flatMap L10.dfL)∧Below w4.heap.size w4 wr)) (fun q _=>T-(intOf q).toNat)
 case atStart=>exact⟨0,none,0,Nat.zero_le _,rfl,HI⟩
 case round =>
  clear HI
  obtain⟨k,ma,mc,hk,rfl,hI⟩:=hrel
  by_cases hlt:k<T
  ·have hkt:k<ts.length:=by rw [HL.out.1];exact hlt
   have hkr:k<R2.length:=by rw [HL.out.2.1];exact hlt
   obtain⟨-,-,-,hnc⟩:=HNm.out.at
   obtain⟨nb,no,rfl,hnb,hnn⟩:=hnc (by omega)
   have n0:=(hI.out.2.2.cell (p:=⟨nb,no+k,none⟩) (by exact hnb)).trans (hnn k hkt)
   obtain⟨qa',qc',hqe,hqq⟩:=HSz.out.form HL.out.2.1
   cases hqe
   obtain⟨sb,so,rfl,hsb,hss⟩:=hqq (by omega)
   obtain⟨rv,s0,hrw⟩:=hss k hkr
   obtain⟨rb,ro,rc,rfl,hrb,hrc⟩:=row_cells hrw (HR2.out _ (List.getElem_mem hkr)) (by decide)
   have s1:=(hI.out.2.2.cell (p:=⟨sb,so+k,none⟩) (by exact hsb)).trans s0
   have y0:=(hI.out.2.2.cell (p:=⟨rb,ro+0,none⟩) (by exact hrb)).trans (hrc 0 (by decide))
   have y1:=(hI.out.2.2.cell (p:=⟨rb,ro+1,none⟩) (by exact hrb)).trans (hrc 1 (by decide))
   have y2:=(hI.out.2.2.cell (p:=⟨rb,ro+2,none⟩) (by exact hrb)).trans (hrc 2 (by decide))
   have hsn:=zw_snoc ts R2 k hkt hkr
   unfold eT at n0
   have hnn0:=hnn k hkt
   unfold eT at hnn0
   have hrc0:=hrc 0 (by decide)
   have hrc1:=hrc 1 (by decide)
   have hrc2:=hrc 2 (by decide)
   generalize mkB ts[k]=nm at n0 hsn hnn0
   generalize R2[k].getD 0 0=z0 at y0 hsn hrc0
   generalize R2[k].getD 1 0=z1 at y1 hsn hrc1
   generalize R2[k].getD 2 0=z2 at y2 hsn hrc2
   rw [Nat.add_zero] at hrc0
   have HNM:=Lib.hid (And.intro hnb hnn0)
   have HRC:=Lib.hid (And.intro hrb (And.intro hrc0 (And.intro hrc1 hrc2)))
   have HSN:=Lib.hid hsn
   obtain⟨hrow,hown,hB⟩:=hI.out
   obtain⟨x0,x1,x2⟩:=L13.cells3 hrow
   have l0:=World.block_lt_of_cell? _ _ x0
   have l1:=World.block_lt_of_cell? _ _ n0
   have l2:=World.block_lt_of_cell? _ _ y0
   simp only at l0 l1 l2
   rw [Nat.add_zero] at y0
   have HRW:=Lib.hid hrow
   have HOW:=Lib.hid hown
   have HBW:=Lib.hid hB
   have hsz:=hB.size
   clear hI hnc hnn hqq hss s0 hrw hrc hsn hrow hown hB hkt hkr hnb hsb hrb hnn0 hrc0 hrc1 hrc2
   go_upto_region 14 with (fail)
   refine wp_region_held_drew (S:=fun X=>Below w4.heap.size w4 X) (by kernel_rfl) HBW.out.drew (fun hH=>?_)
   have hrow1:=L8.row_up HRW.out ((Below.refl wr.heap.size wr).drew)
   have hown1:=own_below HOW.out ((Below.refl wr.heap.size wr).drew)
   clear HRW HOW HBW x0 x1 x2 l0 hsz
   generalize wr.drew=Wd at hrow1 hown1 hH ⊢
   refine zT3 0 60 (.fieldAddr 26 (.tmp 11) 0) (.pointer (some ⟨kb,0,none⟩)) rfl hH ?_
   simp only [zz]
   refine zT0 2 62 (.move (.tmp 8)) (.slice (some ⟨nb,no,none⟩) T pc) rfl hH ?_
   simp only [zz]
   refine zT0 3 63 (.move (.tmp 12)) (.int .i64 (k:Int)) rfl hH ?_
   simp only [zz]
   refine zT3 4 64 (.indexAddr 78 (.tmp 62) (.tmp 63)) (.pointer (some ⟨nb,no+k,none⟩)) rfl hH ?_
   simp only [zz]
   refine zT1 5 65 (.load 9 (.tmp 64)) (.string nm) rfl (fun wS hS=>by have d0:=(hS.cell (p:=⟨nb,no+k,none⟩) HNM.out.1).trans HNM.out.2;go_simp) hH ?_
   simp only [zz]
   refine zT0 6 66 (.move (.tmp 13)) (.slice (some ⟨rb,ro,none⟩) 4 rc) rfl hH ?_
   simp only [zz]
   refine zT3 7 67 (.indexAddr 46 (.tmp 66) (.const (.int .i64 0))) (.pointer (some ⟨rb,ro,none⟩)) rfl hH ?_
   simp only [zz]
   refine zT1 8 68 (.load 3 (.tmp 67)) (.int .i64 z0) rfl (fun wS hS=>by have d0:=(hS.cell (p:=⟨rb,ro,none⟩) HRC.out.1).trans HRC.out.2.1;go_simp) hH ?_
   simp only [zz]
   refine zT0 9 69 (.move (.tmp 13)) (.slice (some ⟨rb,ro,none⟩) 4 rc) rfl hH ?_
   simp only [zz]
   refine zT3 10 70 (.indexAddr 46 (.tmp 69) (.const (.int .i64 1))) (.pointer (some ⟨rb,ro+1,none⟩)) rfl hH ?_
   simp only [zz]
   refine zT1 11 71 (.load 3 (.tmp 70)) (.int .i64 z1) rfl (fun wS hS=>by have d0:=(hS.cell (p:=⟨rb,ro+1,none⟩) HRC.out.1).trans HRC.out.2.2.1;go_simp) hH ?_
   simp only [zz]
   refine zT0 12 72 (.move (.tmp 13)) (.slice (some ⟨rb,ro,none⟩) 4 rc) rfl hH ?_
   simp only [zz]
   refine zT3 13 73 (.indexAddr 46 (.tmp 72) (.const (.int .i64 2))) (.pointer (some ⟨rb,ro+2,none⟩)) rfl hH ?_
   simp only [zz]
   refine zT1 14 74 (.load 3 (.tmp 73)) (.int .i64 z2) rfl (fun wS hS=>by have d0:=(hS.cell (p:=⟨rb,ro+2,none⟩) HRC.out.1).trans HRC.out.2.2.2;go_simp) hH ?_
   simp only [zz]
   refine zT3 15 75 (.build 88 #[(0,.tmp 65),(1,.tmp 68),(2,.tmp 71),(3,.tmp 74)]) (.agg #[.string nm,.int .i64 z0,.int .i64 z1,.int .i64 z2]) rfl hH ?_
   simp only [zz]
   refine wpAnyH_ready (rs:=[1,16]) (by kernel_rfl) (by simp) ?_
   refine AllReadyH.cons (o:=⟨some 61,.load 22 (.tmp 60),_,_,_,none⟩) rfl (fun K hK=>?_) (AllReadyH.cons (o:=⟨some 76,.buildSlice 22 1 #[(0,.tmp 75)],_,_,_,none⟩) rfl (fun K hK=>?_) AllReadyH.nil)
   focus
    obtain⟨x0,x1,x2⟩:=L13.cells3 hrow1
    go_simp
    refine hK.out _ _ hH (fun _=>?_)
    clear hK K x0 x1 x2
    (try simp only [zz])
    refine wpAnyH_ready (rs:=[16]) (by kernel_rfl) (by simp) ?_
    refine AllReadyH.cons (o:=⟨some 76,.buildSlice 22 1 #[(0,.tmp 75)],_,_,_,none⟩) rfl (fun K hK=>?_) AllReadyH.nil
    go_simp
    have hrow2:=L8.row_up hrow1 (bnew Wd (.cells #[.string nm,.int .i64 z0,.int .i64 z1,.int .i64 z2] 88))
    have hown2:=own_below hown1 (bnew Wd (.cells #[.string nm,.int .i64 z0,.int .i64 z1,.int .i64 z2] 88))
    have hn2:=heap_alloc_last Wd (.cells #[.string nm,.int .i64 z0,.int .i64 z1,.int .i64 z2] 88)
    refine hK.out _ _ (hH.alloc hH.size _) (fun hH2=>?_)
    clear hK K
    (try simp only [zz])
    obtain⟨gn,hgn⟩:∃ gn,Wd.heap.size=gn:=⟨_,rfl⟩
    rw [hgn] at hn2 ⊢
    generalize Wd.alloc (.cells #[.string nm,.int .i64 z0,.int .i64 z1,.int .i64 z2] 88)=W2 at hrow2 hown2 hn2 hH2 ⊢
    clear hgn hrow1 hown1 hH
   rotate_left
   focus
    go_simp
    have hrow2:=L8.row_up hrow1 (bnew Wd (.cells #[.string nm,.int .i64 z0,.int .i64 z1,.int .i64 z2] 88))
    have hown2:=own_below hown1 (bnew Wd (.cells #[.string nm,.int .i64 z0,.int .i64 z1,.int .i64 z2] 88))
    have hn2:=heap_alloc_last Wd (.cells #[.string nm,.int .i64 z0,.int .i64 z1,.int .i64 z2] 88)
    refine hK.out _ _ (hH.alloc hH.size _) (fun hH2=>?_)
    clear hK K
    (try simp only [zz])
    obtain⟨x0,x1,x2⟩:=L13.cells3 hrow2
    refine wpAnyH_ready (rs:=[1]) (by kernel_rfl) (by simp) ?_
    refine AllReadyH.cons (o:=⟨some 61,.load 22 (.tmp 60),_,_,_,none⟩) rfl (fun K hK=>?_) AllReadyH.nil
    go_simp
    refine hK.out _ _ hH2 (fun _=>?_)
    clear hK K x0 x1 x2
    (try simp only [zz])
    obtain⟨gn,hgn⟩:∃ gn,Wd.heap.size=gn:=⟨_,rfl⟩
    rw [hgn] at hn2 ⊢
    generalize Wd.alloc (.cells #[.string nm,.int .i64 z0,.int .i64 z1,.int .i64 z2] 88)=W2 at hrow2 hown2 hn2 hH2 ⊢
    clear hgn hrow1 hown1 hH
   all_goals
    refine wpAnyH_ready (rs:=[17]) (by kernel_rfl) (by simp) ?_
    refine AllReadyH.cons (o:=⟨some 77,.call ⟨.builtin .append,#[.tmp 61,.tmp 76],#[22,22]⟩,_,_,_,none⟩) rfl (fun K hK=>?_) AllReadyH.nil
    refine step_append_lies _ (by rfl) _ _ _ (by rfl) w4.heap.size 88 idf (.agg #[.string ⟨#[]⟩,.int .i64 0,.int .i64 0,.int .i64 0]) 4 40 Tryz.underlying22 di dz0 dz1 dz2 rfl (by decide) _ k _ (by rfl) hown2 ⟨gn,0,none⟩ 1 1 [.string nm,.int .i64 z0,.int .i64 z1,.int .i64 z2] (by rfl) (by rfl) (World.news_of_block (cs:=#[.string nm,.int .i64 z0,.int .i64 z1,.int .i64 z2]) (t:=88) (fr:=(0,0)) hn2) (by simp [Value.oneCell']) (by omega) (by unfold maxLen;omega) (by omega) hH2.size _ rfl ?_
    intro g cap w8 hown3 hgrow3 _ _
    have hrow3:=row_far hrow2 hown2 hgrow3 (by decide)
    have hB3:=hH2.grown hgrow3 hH2.size (own_base hown2)
    refine hK.out _ _ hB3 (fun hH3=>?_)
    clear hK K hrow2 hown2 hn2 hH2 hgrow3
    (try simp only [zz])
    refine zT3 18 78 (.fieldAddr 26 (.tmp 11) 0) (.pointer (some ⟨kb,0,none⟩)) rfl hH3 ?_
    simp only [zz]
    obtain⟨x0,x1,x2⟩:=L13.cells3 hrow3
    have fz:=frz hrow3 0
    refine wpAnyH_ready (rs:=[19]) (by kernel_rfl) (by simp) ?_
    refine AllReadyH.cons (o:=⟨none,.store 22 (.tmp 78) (.tmp 77),_,_,_,none⟩) rfl (fun K hK=>?_) AllReadyH.nil
    go_simp
    refine hK.out _ _ (hH3.setCell (by rw [HKB.out];exact Nat.le_refl _) _) (fun hH4=>?_)
    clear hK K x0 x1 x2 fz
    (try simp only [zz])
    refine wpAnyH_done (by kernel_rfl) ?_ _
    go_wp2
    go_roundw
    case rel=>exact⟨k+1,_,_,hlt,by go_num,Lib.hid ⟨cells_set hrow3,by rw [HSN.out];exact own_cell hown3 hrow3 (by decide),hH4⟩⟩
    case measure=>simp [intOf];omega
  ·obtain rfl:k=T:=by omega
   have hto:(List.zipWith mkD ts R2).take k=List.zipWith mkD ts R2:=List.take_of_length_le (by rw [List.length_zipWith,HL.out.1];omega)
   obtain⟨hrow,hown,hB⟩:=hI.out
   rw [hto] at hown
   have HRW0:=Lib.hid hrow
   have HOW0:=Lib.hid hown
   have HBW0:=Lib.hid hB
   have hss:=HS4.out.below hB
   obtain⟨x0,x1,x2⟩:=L13.cells3 hrow
   have l0:=World.block_lt_of_cell? _ _ x0
   simp only at l0
   clear hI hto hrow hown hB
   go_wp2_with (go_at_call 109;((with_reducible refine (HQ4.out _ _ hss).mono ?_);rintro e w9 ⟨⟨ya,yc,rfl,rq⟩,b9⟩))
   have HSz4:=Lib.hid rq
   have HB9:=Lib.hid (show Below w4.heap.size w4 w9 from HBW0.out.trans (b9.mono HBW0.out.size))
   have HI:Hid (w9.heap[kb]?=some (.cells #[.slice ma k mc,.slice ca D1 cc,.slice none 0 0] 26)∧w9.ownsRow w4.heap.size 101 2 (.slice none 0 0) 0 (((R4.map mkR).take 0).flatMap L13.roL)∧Below w4.heap.size w4 w9∧Kp w4.heap.size w9 (.slice ma k mc) k ((List.zipWith mkD ts R2).flatMap L10.dfL) (.slice ya K4 yc) R4) :=
    Lib.hid ⟨L8.row_up HRW0.out b9,World.ownsRow_nil _ _ _ _,HB9.out,own_below HOW0.out b9,rq.weak HBW0.out.size⟩
   clear rq b9 hss x0 x1 x2 l0 HRW0 HOW0 HBW0 HSz4 HB9 HQ4
   go_loopw [83] (fun q wr=>∃ (m:Nat) (fa:Option Addr) (fc:Nat),m≤K4∧q=.int .i64 (m:Int)∧Hid (wr.heap[kb]?=some (.cells #[.slice ma k mc,.slice ca D1 cc,.slice fa m fc] 26)∧wr.ownsRow w4.heap.size 101 2 (.slice fa m fc) m (((R4.map mkR).take m).flatMap L13.roL)∧Below w4.heap.size w4 wr∧Kp w4.heap.size wr (.slice ma k mc) k ((List.zipWith mkD ts R2).flatMap L10.dfL) (.slice ya K4 yc) R4)) (fun q _=>K4-(intOf q).toNat)
   case atStart=>exact⟨0,none,0,Nat.zero_le _,rfl,HI⟩
   case round =>
    clear HI
    obtain⟨m,fa,fc,hm,rfl,hI⟩:=hrel
    by_cases hlt2:m<K4
    ·have hkr:m<R4.length:=by rw [HL.out.2.2];exact hlt2
     obtain⟨hrow,hown,hB,hkp⟩:=hI.out
     obtain⟨vs,hov,hin⟩:=hkp.r
     obtain⟨xa,xc,h4,h5⟩:=hin m hkr
     obtain⟨sb,rfl,-⟩:=own_addr hov (by omega)
     obtain⟨rb,rfl,-⟩:=own_addr h5 (by decide)
     have s1:wr.cell? ⟨sb,m,none⟩=some (.slice (some ⟨rb,0,none⟩) 2 xc):=by
      have:=hov.cells (g:=sb) rfl m _ h4
      rwa [add0,Nat.zero_add] at this
     obtain⟨z0,z1,hz⟩:∃ z0 z1,R4[m]=[z0,z1]:=by
      have:=HR4.out _ (List.getElem_mem hkr)
      match hR:R4[m],this with
      | [z0,z1],_=>exact⟨z0,z1,rfl⟩
     have hsn:=rl_snoc R4 m hkr
     rw [hz] at h5 hsn
     simp only [List.map_cons,List.map_nil,List.getD_cons_zero,List.getD_cons_succ] at h5 hsn
     obtain⟨y0,y1⟩:=two_cells h5
     have HSN:=Lib.hid hsn
     obtain⟨x0,x1,x2⟩:=L13.cells3 hrow
     have l0:=World.block_lt_of_cell? _ _ x0
     have l1:=World.block_lt_of_cell? _ _ s1
     have l2:=World.block_lt_of_cell? _ _ y0
     simp only at l0 l1 l2
     have HRW:=Lib.hid hrow
     have HOW:=Lib.hid hown
     have HBW:=Lib.hid hB
     have HKP:=Lib.hid hkp
     have HR5:=Lib.hid h5
     have hsz:=hB.size
     have hmb:m≤100000:=by omega
     clear hI hrow hown hB hsn hkr hkp hov hin h4 h5 hz
     go_upto_region 19 with (fail)
     refine wp_region_held_drew (S:=fun X=>Below w4.heap.size w4 X∧X.ownsRow w4.heap.size 3 1 (.slice (some ⟨rb,0,none⟩) 2 xc) 2 [eI z0,eI z1]) (by kernel_rfl) ⟨HBW.out.drew,own_below HR5.out ((Below.refl wr.heap.size wr).drew)⟩ (fun hH=>?_)
     have hrow1:=L8.row_up HRW.out ((Below.refl wr.heap.size wr).drew)
     have hown1:=own_below HOW.out ((Below.refl wr.heap.size wr).drew)
     have hoth1:=HKP.out.below ((Below.refl wr.heap.size wr).drew)
     clear HRW HOW HBW HKP HR5 x0 x1 x2 l0 hsz
     generalize wr.drew=Wd at hrow1 hown1 hH hoth1 ⊢
     refine zT3 0 87 (.fieldAddr 26 (.tmp 11) 2) (.pointer (some ⟨kb,2,none⟩)) rfl hH ?_
     simp only [zz]
     refine zT0 2 89 (.move (.tmp 15)) (.slice (some ⟨rb,0,none⟩) 2 xc) rfl hH ?_
     simp only [zz]
     refine zT3 3 90 (.indexAddr 46 (.tmp 89) (.const (.int .i64 0))) (.pointer (some ⟨rb,0,none⟩)) rfl hH ?_
     simp only [zz]
     refine zT1 4 91 (.load 3 (.tmp 90)) (.int .i64 z0) rfl (fun wS hS=>by obtain⟨d0,d1⟩:=two_cells hS.2;go_simp) hH ?_
     simp only [zz]
     refine zT0 5 92 (.move (.tmp 15)) (.slice (some ⟨rb,0,none⟩) 2 xc) rfl hH ?_
     simp only [zz]
     refine zT3 6 93 (.indexAddr 46 (.tmp 92) (.const (.int .i64 1))) (.pointer (some ⟨rb,1,none⟩)) rfl hH ?_
     simp only [zz]
     refine zT1 7 94 (.load 3 (.tmp 93)) (.int .i64 z1) rfl (fun wS hS=>by obtain⟨d0,d1⟩:=two_cells hS.2;go_simp) hH ?_
     simp only [zz]
     refine zT3 8 95 (.build 101 #[(0,.tmp 91),(1,.tmp 94)]) (.agg #[.int .i64 z0,.int .i64 z1]) rfl hH ?_
     simp only [zz]
     refine wpAnyH_ready (rs:=[1,9]) (by kernel_rfl) (by simp) ?_
     refine AllReadyH.cons (o:=⟨some 88,.load 24 (.tmp 87),_,_,_,none⟩) rfl (fun K hK=>?_) (AllReadyH.cons (o:=⟨some 96,.buildSlice 24 1 #[(0,.tmp 95)],_,_,_,none⟩) rfl (fun K hK=>?_) AllReadyH.nil)
     focus
      obtain⟨x0,x1,x2⟩:=L13.cells3 hrow1
      go_simp
      refine hK.out _ _ hH (fun _=>?_)
      clear hK K x0 x1 x2
      (try simp only [zz])
      refine wpAnyH_ready (rs:=[9]) (by kernel_rfl) (by simp) ?_
      refine AllReadyH.cons (o:=⟨some 96,.buildSlice 24 1 #[(0,.tmp 95)],_,_,_,none⟩) rfl (fun K hK=>?_) AllReadyH.nil
      go_simp
      have hrow2:=L8.row_up hrow1 (bnew Wd (.cells #[.int .i64 z0,.int .i64 z1] 101))
      have hown2:=own_below hown1 (bnew Wd (.cells #[.int .i64 z0,.int .i64 z1] 101))
      have hoth2:=Kp.below hoth1 (bnew Wd (.cells #[.int .i64 z0,.int .i64 z1] 101))
      have hn2:=heap_alloc_last Wd (.cells #[.int .i64 z0,.int .i64 z1] 101)
      refine hK.out _ _ ⟨hH.1.alloc hH.1.size _,own_below hH.2 (bnew Wd _)⟩ (fun hH2=>?_)
      clear hK K
      (try simp only [zz])
      obtain⟨gn,hgn⟩:∃ gn,Wd.heap.size=gn:=⟨_,rfl⟩
      rw [hgn] at hn2 ⊢
      generalize Wd.alloc (.cells #[.int .i64 z0,.int .i64 z1] 101)=W2 at hrow2 hown2 hn2 hH2 hoth2 ⊢
      clear hgn hrow1 hown1 hH hoth1
     rotate_left
     focus
      go_simp
      have hrow2:=L8.row_up hrow1 (bnew Wd (.cells #[.int .i64 z0,.int .i64 z1] 101))
      have hown2:=own_below hown1 (bnew Wd (.cells #[.int .i64 z0,.int .i64 z1] 101))
      have hoth2:=Kp.below hoth1 (bnew Wd (.cells #[.int .i64 z0,.int .i64 z1] 101))
      have hn2:=heap_alloc_last Wd (.cells #[.int .i64 z0,.int .i64 z1] 101)
      refine hK.out _ _ ⟨hH.1.alloc hH.1.size _,own_below hH.2 (bnew Wd _)⟩ (fun hH2=>?_)
      clear hK K
      (try simp only [zz])
      obtain⟨x0,x1,x2⟩:=L13.cells3 hrow2
      refine wpAnyH_ready (rs:=[1]) (by kernel_rfl) (by simp) ?_
      refine AllReadyH.cons (o:=⟨some 88,.load 24 (.tmp 87),_,_,_,none⟩) rfl (fun K hK=>?_) AllReadyH.nil
      go_simp
      refine hK.out _ _ hH2 (fun _=>?_)
      clear hK K x0 x1 x2
      (try simp only [zz])
      obtain⟨gn,hgn⟩:∃ gn,Wd.heap.size=gn:=⟨_,rfl⟩
      rw [hgn] at hn2 ⊢
      generalize Wd.alloc (.cells #[.int .i64 z0,.int .i64 z1] 101)=W2 at hrow2 hown2 hn2 hH2 hoth2 ⊢
      clear hgn hrow1 hown1 hH hoth1
     all_goals
      refine wpAnyH_ready (rs:=[10]) (by kernel_rfl) (by simp) ?_
      refine AllReadyH.cons (o:=⟨some 97,.call ⟨.builtin .append,#[.tmp 88,.tmp 96],#[24,24]⟩,_,_,_,none⟩) rfl (fun K hK=>?_) AllReadyH.nil
      refine step_append_lies _ (by rfl) _ _ _ (by rfl) w4.heap.size 101 irl (.agg #[.int .i64 0,.int .i64 0]) 2 16 Tryz.underlying24 ri rz0 rz1 rz2 rfl (by decide) _ m _ (by rfl) hown2 ⟨gn,0,none⟩ 1 1 [.int .i64 z0,.int .i64 z1] (by rfl) (by rfl) (World.news_of_block (cs:=#[.int .i64 z0,.int .i64 z1]) (t:=101) (fr:=(0,0)) hn2) (by simp [Value.oneCell']) (by omega) (by unfold maxLen;omega) (by omega) hH2.1.size _ rfl ?_
      intro g cap w8 hown3 hgrow3 _ _
      have hrow3:=row_far hrow2 hown2 hgrow3 (by decide)
      have hoth3:=hoth2.apart hown2 hgrow3
      have hB3:=hH2.1.grown hgrow3 hH2.1.size (own_base hown2)
      refine hK.out _ _ ⟨hB3,own_apart hH2.2 hown2 hgrow3 (by decide)⟩ (fun hH3=>?_)
      clear hK K hrow2 hown2 hn2 hB3 hH2 hgrow3 hoth2
      (try simp only [zz])
      refine zT3 11 98 (.fieldAddr 26 (.tmp 11) 2) (.pointer (some ⟨kb,2,none⟩)) rfl hH3 ?_
      simp only [zz]
      obtain⟨x0,x1,x2⟩:=L13.cells3 hrow3
      have fz:=frz hrow3 2
      refine wpAnyH_ready (rs:=[12]) (by kernel_rfl) (by simp) ?_
      refine AllReadyH.cons (o:=⟨none,.store 24 (.tmp 98) (.tmp 97),_,_,_,none⟩) rfl (fun K hK=>?_) AllReadyH.nil
      go_simp
      refine hK.out _ _ ⟨hH3.1.setCell (by rw [HKB.out];exact Nat.le_refl _) _,own_cell hH3.2 hrow3 (by decide)⟩ (fun hH4=>?_)
      clear hK K x0 x1 x2 fz
      (try simp only [zz])
      refine wpAnyH_done (by kernel_rfl) ?_ _
      go_wp2
      go_roundw
      case rel=>exact⟨m+1,_,_,hlt2,by go_num,Lib.hid ⟨cells_set hrow3,by rw [HSN.out];exact own_cell hown3 hrow3 (by decide),hH4.1,hoth3.cell hrow3⟩⟩
      case measure=>simp [intOf];omega
    ·obtain rfl:m=K4:=by omega
     have hto:(R4.map mkR).take m=R4.map mkR:=List.take_of_length_le (by rw [List.length_map,HL.out.2.2];exact Nat.le_refl _)
     obtain⟨hrow,hown,hB,hkp⟩:=hI.out
     rw [hto] at hown
     have q2:=L8.row_up HQ0.out hB
     have hcode:=HC.out.below hB
     obtain⟨x0,x1,x2⟩:=L13.cells3 hrow
     have l0:=World.block_lt_of_cell? _ _ x0
     simp only at l0
     have HOW:=Lib.hid hown
     have HKP:=Lib.hid hkp
     have HQ2:=Lib.hid q2
     have HCD:=Lib.hid hcode
     have HBB:=Lib.hid (bch HB4.out hB)
     clear hI hto hrow hown hB hkp hcode
     go_wp2_with (refine wpList_store_row rfl _ _ _ rfl w.heap.size #[.slice ma k mc,.slice ca D1 cc,.slice fa m fc] rfl rfl 26 _ q2 (by kernel_rfl) rfl (by simp [Value.oneCell']) ?_)
     obtain⟨z0,z1,z2⟩:=L13.cells3 (setRow_heap _ _ _ #[.slice ma k mc,.slice ca D1 cc,.slice fa m fc] _ _ HQ2.out)
     have ho:=HO.out
     subst ho
     refine bodyPost_ret (v:=.tuple #[.agg #[.slice ma k mc,.slice ca D1 cc,.slice fa m fc],.bool true]) (by simp [results,Tryz.results66,go_sem,z0,z1,z2]) rfl ⟨⟨_,_,_,rfl,?_,?_,?_⟩,below_setRow HBB.out (Nat.le_refl _) _⟩
     ·exact L13.own_df (by rw [List.length_zipWith,HL.out.1,HL.out.2.1];exact Nat.min_self _) (L13.own_set HKP.out.d HQ2.out (by decide))
     ·exact rw_setRow HCD.out HQ2.out
     ·exact own_ro (by rw [List.length_map];exact HL.out.2.2) (L13.own_set HOW.out HQ2.out (by decide))
theorem is16_is {b:List UInt8} {q:Ob} (h:Is16 b q):rdOk b∧L14.prV (gD (rdT b (nS b)) 5)=some (nmL q.maps)∧(gD (rdT b (nS b)) 2).length / (4*4)=(nmL q.maps).length:=by
 obtain⟨h1,h2⟩:=is16_rd h
 obtain⟨-,e2,-,e5⟩:=gD_secs q
 rw [h2,e5,e2,r2_len,nmL_len]
 exact⟨h1,prV_secs (gd_of h.1),by omega⟩
theorem content_at (a:Option Addr) (n c:Nat) (b:List UInt8) (hn:b.length=n) (hb:n≤100000):((∀ q,¬ Is16 b q)∧∀ w,Rw eB w (.slice a n c) b→Calls Tryz.prog 66 #[.slice a n c] w (CoN b w)) ∨
  ∃ o,Ct b o∧∀ w,Rw eB w (.slice a n c) b→Calls Tryz.prog 66 #[.slice a n c] w (CoY o w):=by
 by_cases h:rdOk b
 ·cases hp:L14.prV (gD (rdT b (nS b)) 5) with
  | none =>
   refine .inl ⟨fun q hq=>?_,fun w hv=>content_bad a n c b w hv hb h hp⟩
   rw [(is16_is hq).2.1] at hp;cases hp
  | some ts =>
   by_cases heq:(gD (rdT b (nS b)) 2).length / (4*4)=ts.length
   ·exact .inr ⟨_,ct_of (by omega) hp,fun w hv=>content_yes a n c b w ts hv hb h hp heq _ rfl⟩
   ·refine .inl ⟨fun q hq=>heq ?_,fun w hv=>content_off a n c b w ts hv hb h hp heq⟩
    obtain⟨-,h1,h2⟩:=is16_is hq
    rw [hp] at h1
    rw [h2,← Option.some.inj h1]
 ·exact .inl ⟨fun q hq=>h (is16_is hq).1,fun w hv=>content_no a n c b w hv hb h⟩
end Go.Proofs.YtihiggnglmhggaaGreatDoor.L16
end
