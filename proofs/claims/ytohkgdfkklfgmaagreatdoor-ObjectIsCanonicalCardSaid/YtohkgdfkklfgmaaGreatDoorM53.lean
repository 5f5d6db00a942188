/- Lemmas and walks of L16Rp, L16Rq: what each theorem states; conditions stand in each theorem. -/
import Derived.Test.YtohkgdfkklfgmaaGreatDoorM52
import Derived.Test.YtohkgdfkklfgmaaGreatDoorM50
import Derived.Test.YtohkgdfkklfgmaaGreatDoorM51
import Derived.Test.YtohkgdfkklfgmaaGreatDoorM48
import Derived.Test.YtohkgdfkklfgmaaGreatDoorM47
section
set_option maxHeartbeats 16000000
namespace Go.Proofs.YtohkgdfkklfgmaaGreatDoor.L16
set_option maxRecDepth 100000
open Go.RowKit L14 L15
open L13 (Ob)
attribute [local go_sem] Oper.semAt_some
theorem row_away {W W':World} {kr:Nat} {cs:Array Value} {t B e:TypeId} {size:Nat} {v:Value} {n:Nat} {xs:List Value} (hk:W.heap[kr]?=some (.cells cs t)) (ho:W.ownsRow B e size v n xs) (hg:W.grownBy W' v.ownBlock) (he:t≠e):W'.heap[kr]?=some (.cells cs t):=by
 refine (hg.block kr (lt_of_block hk) fun h=>?_).trans hk
 obtain⟨c,hc⟩:=L10.own_ty ho h.symm
 exact L10.ty_ne hk hc he rfl
theorem four_is (v:Value) (xs ys:List UInt8) (B N M:Nat) (X:Int) (w:World) (hB:B≤w.heap.size) (hv:w.ownsRow B 5 1 v N (xs.map eB)) (hN:N≤1000000000) (hX:0≤X∧X<4294967296) (hys:ys=xs++e4 X) (hM:M=N+4) :
  Calls Tryz.prog 33 #[v,.int .i64 X] w (FoP B M ys v w):=by
 subst hys hM
 have h:=four_at v xs B N X.toNat w hB hv hN (by omega)
 rwa [show ((X.toNat:Nat):Int)=X by omega] at h
structure Tw (B:Nat) (W:World) (u:Value) (n:Nat) (ys:List UInt8) (v:Value):Prop where
 own:W.ownsRow B 5 1 u n (ys.map eB)
 dj:u.ownBlock=none∨u.ownBlock≠v.ownBlock
theorem Tw.next {B n:Nat} {W W':World} {u v v':Value} {ys:List UInt8} (h:Tw B W u n ys v) (hg:W.grownBy W' v.ownBlock) (ha:At W v v'):Tw B W' u n ys v':=by
 refine⟨h.own.kept hg h.dj,?_⟩
 rcases ha with ha|⟨k,hk,hl⟩
 ·rw [ha];exact h.dj
 ·rcases hu:u.ownBlock with _|g
  ·exact .inl rfl
  ·refine .inr ?_
   rw [hk]
   obtain⟨c,hc⟩:=L10.own_ty h.own hu
   have:=lt_of_block hc
   intro e
   cases e
   omega
theorem Tw.below {B n:Nat} {W W':World} {u v:Value} {ys:List UInt8} (h:Tw B W u n ys v) (hb:Below W.heap.size W W'):Tw B W' u n ys v:=⟨own_below h.own hb,h.dj⟩
theorem Tw.symm {B n m:Nat} {W:World} {u v:Value} {ys zs:List UInt8} (h:Tw B W u n ys v) (hv:W.ownsRow B 5 1 v m (zs.map eB)):Tw B W v m zs u:=by
 refine⟨hv,?_⟩
 rcases h.dj with h|h
 ·rcases hv':v.ownBlock with _|g
  ·exact .inl rfl
  ·exact .inr (by rw [h];simp)
 ·exact .inr fun e=>h e.symm
theorem tw_nil {B n:Nat} {W:World} {u:Value} {ys:List UInt8} (h:W.ownsRow B 5 1 u n (ys.map eB)):Tw B W u n ys (.slice none 0 0):=by
 refine⟨h,?_⟩
 rcases hu:u.ownBlock with _|g
 ·exact .inl rfl
 ·exact .inr (by simp [Value.ownBlock])
theorem nB4 (a b c d:Int) (P:List UInt8):P++nB [a,b,c,d]=P++e4 a++e4 b++e4 c++e4 d:=by simp [nB]
theorem nB2 (a b:Int) (P:List UInt8):P++nB [a,b]=P++e4 a++e4 b:=by simp [nB]
theorem fw_secs {o:Ob} (h:Gd o):Fw (secs o):=⟨by simp [secs],(secs_sml h).d⟩
theorem rpack16_at (vm vc vr:Value) (o:Ob) (N:Nat) (w:World) (ho:OA w vm vc vr o) (hs:OS o) (hR:chE o=0) (hNN:(pkB o).length=N) :
  Calls Tryz.prog 15 #[.agg #[vm,vc,vr]] w fun e w'=>(∃ a c,e=.returned (.slice a N c)∧Rw eB w' (.slice a N c) (pkB o))∧Below w.heap.size w w':=by
 have hg:=gd_of hR
 obtain⟨n1,hn1⟩:∃ n,o.maps.length=n:=⟨_,rfl⟩
 obtain⟨n2,hn2⟩:∃ n,o.code.length=n:=⟨_,rfl⟩
 obtain⟨n3,hn3⟩:∃ n,o.rels.length=n:=⟨_,rfl⟩
 obtain⟨NT,hNT⟩:∃ n,(tb (nmL o.maps)).length=n:=⟨_,rfl⟩
 have hq1:=hg.n
 have hq2:=hg.tot
 have hq3:=hg.rln
 rw [hn1] at hq1
 rw [hn3] at hq3
 have hnl:(nmL o.maps).length=n1:=by rw [nmL_len,hn1]
 have hol:(ofs 1 (nmL o.maps)).length=n1:=by rw [ofs_len,hnl]
 have HNm:=Lib.hid (fun X (hX:Below w.heap.size w X)=>rnames_at _ _ _ o n1 X (ho.below hX) hs hn1)
 have HBu:=Lib.hid (fun (X:World) (v:Value) (h:Rw eT X v (nmL o.maps))=>rbuild_n v (nmL o.maps) n1 NT X h (by omega) (by omega) hnl hNT)
 have HW:=Lib.hid (fun (X:World) (v:Value) (h:Ss X v (secs o))=>rwrite_at v (secs o) X h (fw_secs hg) (secs_asc o) N (by rw [← hNN,pkB,wr_len]))
 have HLN:=Lib.hid hNN
 have HG:=Lib.hid (And.intro hg.df (And.intro hg.rels (fun x (hx:x∈ofs 1 (nmL o.maps))=>show (x:Int)<4294967296 by have:=ofs_lt (nmL o.maps) 1 x hx;omega)))
 have HCo:=Lib.hid (fun (X:World) (hX:Below w.heap.size w X)=>ho.c.below hX)
 obtain⟨a1,c1,rfl,hd⟩:=L10.df_form4 hn1 ho.m
 obtain⟨a2,c2,rfl,-⟩:=ho.c.form hn2
 obtain⟨a3,c3,rfl,hr⟩:=L13.ro_form hn3 ho.r
 have HM:=Lib.hid hd
 have HRl:=Lib.hid hr
 have HN:=Lib.hid (And.intro hn1 (And.intro hn3 (And.intro hnl hol)))
 have K0:=Lib.hid (heap_alloc_last w (.cells #[.slice a1 n1 c1,.slice a2 n2 c2,.slice a3 n3 c3] 26))
 have HB:=Lib.hid (bnew w (.cells #[.slice a1 n1 c1,.slice a2 n2 c2,.slice a3 n3 c3] 26))
 clear ho hs hR hg hn1 hn2 hn3 hd hr hNN hNT hnl hol hq2
 go_enter Tryz.func15,Tryz.ntmps15
 go_upto_region 1 with (fail)
 obtain⟨k0,hk0⟩:∃ k,w.heap.size=k:=⟨_,rfl⟩
 have HK0:=Lib.hid hk0
 rw [hk0] at K0 ⊢
 generalize w.alloc (.cells #[.slice a1 n1 c1,.slice a2 n2 c2,.slice a3 n3 c3] 26)=W0 at K0 HB ⊢
 clear hk0
 obtain⟨x0,x1,x2⟩:=L13.cells3 K0.out
 go_wp2_with (first
  | (go_at_call 28;((with_reducible refine (HNm.out _ HB.out).mono ?_);rintro e w1 ⟨⟨na,nc,rfl,no⟩,b1⟩;have B1:=bch HB.out b1))
  | (go_at_call 32;((with_reducible refine (HBu.out _ _ (Rw.own (by rw [HN.out.2.2.1];exact no))).mono ?_);rintro e w2 ⟨⟨ta,tc,oa,oc,rfl,rt,ro⟩,b2⟩;have B2:=bch B1 b2)))
 have HK2:=Lib.hid (L8.row_up (L8.row_up K0.out b1) b2)
 have HB2:=Lib.hid B2
 have HTb:=Lib.hid rt
 have HOf:=Lib.hid ro
 clear no b1 b2 B1 B2 rt ro HNm HBu x0 x1 x2 K0 HB
 have HI:Hid (w2.ownsRow w2.heap.size 5 1 (.slice none 0 0) (16*0) ((rwB ((r2 o.maps).take 0)).map eB)∧Tw w2.heap.size w2 (.slice none 0 0) (8*0) (rwB ((r3 (ofs 1 (nmL o.maps))).take 0)) (.slice none 0 0)∧Below w2.heap.size w2 w2) :=
  Lib.hid ⟨World.ownsRow_nil _ _ _ _,⟨World.ownsRow_nil _ _ _ _,.inl rfl⟩,Below.refl _ _⟩
 go_loopw [5,6,8] (fun mv sv q wr=>∃ j:Nat,j≤n1∧q=.int .i64 (j:Int)∧Hid (wr.ownsRow w2.heap.size 5 1 mv (16*j) ((rwB ((r2 o.maps).take j)).map eB)∧Tw w2.heap.size wr sv (8*j) (rwB ((r3 (ofs 1 (nmL o.maps))).take j)) mv∧Below w2.heap.size w2 wr)) (fun _ _ q _=>n1-(intOf q).toNat)
 case atStart=>exact⟨0,Nat.zero_le _,rfl,HI⟩
 case round =>
  clear HI
  obtain⟨j,hj,rfl,hI⟩:=hrel
  obtain⟨ma,mc,rfl⟩:=owns_slice hI.out.1
  obtain⟨sa,sc,rfl⟩:=owns_slice hI.out.2.1.own
  have hrow:=L8.row_up HK2.out hI.out.2.2
  obtain⟨x0,x1,x2⟩:=L13.cells3 hrow
  have lx:=World.block_lt_of_cell? _ _ x0
  simp only at lx
  by_cases hlt:j<n1
  ·have hjl:j<o.maps.length:=by rw [HN.out.1];exact hlt
   have hjo:j<(ofs 1 (nmL o.maps)).length:=by rw [HN.out.2.2.2];exact hlt
   obtain⟨bb,of,rfl,hbl,hcc⟩:=HM.out (by omega)
   obtain⟨q0,q1,q2,q3⟩:=hcc j hjl
   have hB0:=bch HB2.out hI.out.2.2
   have y0:=(hB0.cell (p:=⟨bb,of+j*4,none⟩) (by exact hbl)).trans q0
   have y1:=(hB0.cell (p:=⟨bb,of+j*4+1,none⟩) (by exact hbl)).trans q1
   have y2:=(hB0.cell (p:=⟨bb,of+j*4+2,none⟩) (by exact hbl)).trans q2
   have y3:=(hB0.cell (p:=⟨bb,of+j*4+3,none⟩) (by exact hbl)).trans q3
   obtain⟨-,-,-,hoc⟩:=HOf.out.at
   obtain⟨ob,oo,rfl,hobl,hocc⟩:=hoc (by omega)
   have HO0:=Lib.hid (And.intro hobl (hocc j hjo))
   have hox:=HG.out.2.2 _ (List.getElem_mem hjo)
   have hm2:rwB ((r2 o.maps).take (j+1))=rwB ((r2 o.maps).take j)++e4 o.maps[j].key++e4 o.maps[j].val++e4 o.maps[j].ent++e4 0:=by
    rw [rwB_snoc _ j (by simpa [r2] using hjl),← nB4]
    congr 2
    simp [r2]
   have hs2:rwB ((r3 (ofs 1 (nmL o.maps))).take (j+1))=rwB ((r3 (ofs 1 (nmL o.maps))).take j)++e4 (((ofs 1 (nmL o.maps))[j]:Nat):Int)++e4 ((j:Nat):Int):=by
    rw [rwB_snoc _ j (by simpa [r3] using hjo),← nB2]
    congr 2
    simp [r3]
   obtain⟨-,hk1,hv1,he1⟩:=L11.deE_of (HG.out.1 _ (List.getElem_mem hjl))
   obtain⟨d,hd⟩:∃ d,o.maps[j]=d:=⟨_,rfl⟩
   rw [hd] at y0 y1 y2 y3 hm2 hk1 hv1 he1
   obtain⟨ox,hoxe⟩:∃ x,(ofs 1 (nmL o.maps))[j]=x:=⟨_,rfl⟩
   rw [hoxe] at HO0 hox hs2
   obtain⟨P,hP⟩:∃ P,rwB ((r2 o.maps).take j)=P:=⟨_,rfl⟩
   obtain⟨Q,hQ⟩:∃ P,rwB ((r3 (ofs 1 (nmL o.maps))).take j)=P:=⟨_,rfl⟩
   rw [hP] at hI hm2
   rw [hQ] at hI hs2
   have HM2:=Lib.hid hm2
   have HS2:=Lib.hid hs2
   have F1:=Lib.hid (fun X v (hB:w2.heap.size≤X.heap.size) (h:X.ownsRow w2.heap.size 5 1 v (16*j) (P.map eB))=>four_is v P (P++e4 d.key) w2.heap.size (16*j) (16*j+4) d.key X hB h (by omega) (by omega) rfl rfl)
   have F2:=Lib.hid (fun X v (hB:w2.heap.size≤X.heap.size) (h:X.ownsRow w2.heap.size 5 1 v (16*j+4) ((P++e4 d.key).map eB))=>four_is v (P++e4 d.key) (P++e4 d.key++e4 d.val) w2.heap.size (16*j+4) (16*j+8) d.val X hB h (by omega) (by omega) rfl rfl)
   have F3:=Lib.hid (fun X v (hB:w2.heap.size≤X.heap.size) (h:X.ownsRow w2.heap.size 5 1 v (16*j+8) ((P++e4 d.key++e4 d.val).map eB))=>four_is v (P++e4 d.key++e4 d.val) (P++e4 d.key++e4 d.val++e4 d.ent) w2.heap.size (16*j+8) (16*j+12) d.ent X hB h (by omega) (by omega) rfl rfl)
   have F4:=Lib.hid (fun X v (hB:w2.heap.size≤X.heap.size) (h:X.ownsRow w2.heap.size 5 1 v (16*j+12) ((P++e4 d.key++e4 d.val++e4 d.ent).map eB))=>four_is v (P++e4 d.key++e4 d.val++e4 d.ent) (P++e4 d.key++e4 d.val++e4 d.ent++e4 0) w2.heap.size (16*j+12) (16*(j+1)) 0 X hB h (by omega) (by omega) rfl (by omega))
   have G1:=Lib.hid (fun X v (hB:w2.heap.size≤X.heap.size) (h:X.ownsRow w2.heap.size 5 1 v (8*j) (Q.map eB))=>four_is v Q (Q++e4 ((ox:Nat):Int)) w2.heap.size (8*j) (8*j+4) ((ox:Nat):Int) X hB h (by omega) (by omega) rfl rfl)
   have G2:=Lib.hid (fun X v (hB:w2.heap.size≤X.heap.size) (h:X.ownsRow w2.heap.size 5 1 v (8*j+4) ((Q++e4 ((ox:Nat):Int)).map eB))=>four_is v (Q++e4 ((ox:Nat):Int)) (Q++e4 ((ox:Nat):Int)++e4 ((j:Nat):Int)) w2.heap.size (8*j+4) (8*(j+1)) ((j:Nat):Int) X hB h (by omega) (by omega) rfl (by omega))
   obtain⟨hm,hs,hB⟩:=hI.out
   have HH:=Lib.hid (And.intro hm (And.intro hs hB))
   have hsz:=hB.size
   clear hI hcc q0 q1 q2 q3 hB0 hoc hocc hm2 hs2 hd hoxe hP hQ hm hs hB hrow hbl hobl hjo hk1 hv1 he1 hox
   go_upto_region 9 with (fail)
   obtain⟨kx,hkx⟩:∃ k,wr.heap.size=k:=⟨_,rfl⟩
   have hD:=(bnew wr (.cells #[.string d.nm,.int .i64 d.key,.int .i64 d.val,.int .i64 d.ent] 62)).drew
   have hR0:=heap_alloc_last wr (.cells #[.string d.nm,.int .i64 d.key,.int .i64 d.val,.int .i64 d.ent] 62)
   have hm1:=own_below HH.out.1 hD
   have hs1:=HH.out.2.1.below hD
   have hB1:Below w2.heap.size w2 _:=HH.out.2.2.trans (hD.mono hsz)
   rw [hkx] at hR0
   (try rw [hkx])
   generalize wr.alloc (.cells #[.string d.nm,.int .i64 d.key,.int .i64 d.val,.int .i64 d.ent] 62)=Wa at hR0 hm1 hs1 hB1 hD ⊢
   refine wp_region_held_drew (S:=fun X=>X.heap[kx]?=some (.cells #[.string d.nm,.int .i64 d.key,.int .i64 d.val,.int .i64 d.ent] 62)) (by kernel_rfl) hR0 (fun hH=>?_)
   generalize Wa.drew=Wd at hm1 hs1 hB1 hH ⊢
   clear hR0 hD hkx HH x0 x1 x2 y0 y1 y2 y3 lx
   refine wpAnyH_take (i:=0) (oi:=⟨some 29,.move (.tmp 5),_,_,_,none⟩) (v:=.slice ma (16*j) mc) rfl (by kernel_rfl) (by kernel_rfl) (by kernel_rfl) (fun _ _ _ h=>h) (Or.inl ⟨by rfl,fun wS hS=>by rfl⟩) hH ?_
   simp only [Act.put,zA,zB,zC]
   refine wpAnyH_take (i:=1) (oi:=⟨some 30,.fieldAddr 62 (.tmp 9) 1,_,_,_,none⟩) (v:=.pointer (some ⟨kx,1,none⟩)) rfl (by kernel_rfl) (by kernel_rfl) (by kernel_rfl) (fun _ _ _ h=>h) (Or.inl ⟨by rfl,fun wS hS=>(by go_simp)⟩) hH ?_
   simp only [Act.put,zA,zB,zC]
   refine wpAnyH_take (i:=2) (oi:=⟨some 31,.load 3 (.tmp 30),_,_,_,none⟩) (v:=.int .i64 d.key) rfl (by kernel_rfl) (by kernel_rfl) (by kernel_rfl) (fun _ _ _ h=>h) (Or.inl ⟨by rfl,fun wS hS=>(by obtain⟨d0,d1,d2,d3⟩:=L10.cells4 hS;go_simp)⟩) hH ?_
   simp only [Act.put,zA,zB,zC]
   refine wpAnyH_take (i:=4) (oi:=⟨some 33,.fieldAddr 62 (.tmp 9) 2,_,_,_,none⟩) (v:=.pointer (some ⟨kx,2,none⟩)) rfl (by kernel_rfl) (by kernel_rfl) (by kernel_rfl) (fun _ _ _ h=>h) (Or.inl ⟨by rfl,fun wS hS=>(by go_simp)⟩) hH ?_
   simp only [Act.put,zA,zB,zC]
   refine wpAnyH_take (i:=5) (oi:=⟨some 34,.load 3 (.tmp 33),_,_,_,none⟩) (v:=.int .i64 d.val) rfl (by kernel_rfl) (by kernel_rfl) (by kernel_rfl) (fun _ _ _ h=>h) (Or.inl ⟨by rfl,fun wS hS=>(by obtain⟨d0,d1,d2,d3⟩:=L10.cells4 hS;go_simp)⟩) hH ?_
   simp only [Act.put,zA,zB,zC]
   refine wpAnyH_take (i:=7) (oi:=⟨some 36,.fieldAddr 62 (.tmp 9) 3,_,_,_,none⟩) (v:=.pointer (some ⟨kx,3,none⟩)) rfl (by kernel_rfl) (by kernel_rfl) (by kernel_rfl) (fun _ _ _ h=>h) (Or.inl ⟨by rfl,fun wS hS=>(by go_simp)⟩) hH ?_
   simp only [Act.put,zA,zB,zC]
   refine wpAnyH_take (i:=8) (oi:=⟨some 37,.load 3 (.tmp 36),_,_,_,none⟩) (v:=.int .i64 d.ent) rfl (by kernel_rfl) (by kernel_rfl) (by kernel_rfl) (fun _ _ _ h=>h) (Or.inl ⟨by rfl,fun wS hS=>(by obtain⟨d0,d1,d2,d3⟩:=L10.cells4 hS;go_simp)⟩) hH ?_
   simp only [Act.put,zA,zB,zC]
   refine wpAnyH_ready (rs:=[3]) (by kernel_rfl) (by simp) ?_
   refine AllReadyH.cons (o:=⟨some 32,.call ⟨.value (.func 33),#[.tmp 29,.tmp 31],#[23,3]⟩,_,_,_,none⟩) rfl (fun K hK=>?_) AllReadyH.nil
   go_simp
   refine (F1.out _ _ hB1.size hm1).mono ?_
   rintro e wz5 ⟨⟨a5,c5,rfl,om5,at5⟩,bb5,gg5⟩
   have hs5:=hs1.next gg5 at5
   have hB5:=hB1.trans bb5
   refine hK.out _ _ (row_away hH hm1 gg5 (by decide)) (fun hH5=>?_)
   clear hK K hm1 hs1 hB1 hH gg5 at5 bb5 F1
   (try simp only [Act.put,zA,zB,zC])
   refine wpAnyH_ready (rs:=[6]) (by kernel_rfl) (by simp) ?_
   refine AllReadyH.cons (o:=⟨some 35,.call ⟨.value (.func 33),#[.tmp 32,.tmp 34],#[23,3]⟩,_,_,_,none⟩) rfl (fun K hK=>?_) AllReadyH.nil
   go_simp
   refine (F2.out _ _ hB5.size om5).mono ?_
   rintro e wz6 ⟨⟨a6,c6,rfl,om6,at6⟩,bb6,gg6⟩
   have hs6:=hs5.next gg6 at6
   have hB6:=hB5.trans bb6
   refine hK.out _ _ (row_away hH5 om5 gg6 (by decide)) (fun hH6=>?_)
   clear hK K om5 hs5 hB5 hH5 gg6 at6 bb6 F2
   (try simp only [Act.put,zA,zB,zC])
   refine wpAnyH_ready (rs:=[9]) (by kernel_rfl) (by simp) ?_
   refine AllReadyH.cons (o:=⟨some 38,.call ⟨.value (.func 33),#[.tmp 35,.tmp 37],#[23,3]⟩,_,_,_,none⟩) rfl (fun K hK=>?_) AllReadyH.nil
   go_simp
   refine (F3.out _ _ hB6.size om6).mono ?_
   rintro e wz7 ⟨⟨a7,c7,rfl,om7,at7⟩,bb7,gg7⟩
   have hs7:=hs6.next gg7 at7
   have hB7:=hB6.trans bb7
   refine hK.out _ _ (row_away hH6 om6 gg7 (by decide)) (fun hH7=>?_)
   clear hK K om6 hs6 hB6 hH6 gg7 at7 bb7 F3
   (try simp only [Act.put,zA,zB,zC])
   refine wpAnyH_ready (rs:=[10]) (by kernel_rfl) (by simp) ?_
   refine AllReadyH.cons (o:=⟨some 39,.call ⟨.value (.func 33),#[.tmp 38,.const (.int .i64 0)],#[23,3]⟩,_,_,_,none⟩) rfl (fun K hK=>?_) AllReadyH.nil
   go_simp
   refine (F4.out _ _ hB7.size om7).mono ?_
   rintro e wz8 ⟨⟨a8,c8,rfl,om8,at8⟩,bb8,gg8⟩
   have hs8:=hs7.next gg8 at8
   have hB8:=hB7.trans bb8
   refine hK.out _ _ (row_away hH7 om7 gg8 (by decide)) (fun hH8=>?_)
   clear hK K om7 hs7 hB7 hH7 gg8 at8 bb8 F4
   (try simp only [Act.put,zA,zB,zC])
   refine wpAnyH_take (i:=11) (oi:=⟨some 5,.assign (.tmp 39),_,_,_,none⟩) (v:=.slice a8 (16*(j+1)) c8) rfl (by kernel_rfl) (by kernel_rfl) (by kernel_rfl) (fun _ _ _ h=>h) (Or.inl ⟨by rfl,fun wS hS=>by rfl⟩) hH8 ?_
   simp only [Act.put,zA,zB,zC]
   refine wpAnyH_done (by kernel_rfl) ?_ _
   have HH:=Lib.hid (And.intro om8 (And.intro hs8 hB8))
   have o0:=(hB8.cell (p:=⟨ob,oo+j,none⟩) (by exact HO0.out.1)).trans HO0.out.2
   have lo:=World.block_lt_of_cell? _ _ o0
   simp only at lo
   have hsz8:=hB8.size
   clear om8 hs8 hB8 hH8
   go_wp2_with (first
    | (go_at_call 33;((with_reducible refine (G1.out _ _ HH.out.2.2.size HH.out.2.1.own).mono ?_);rintro e w5 ⟨⟨g5,h5,rfl,os5,at5⟩,bb5,gg5⟩;have hm5:=(HH.out.2.1.symm HH.out.1).next gg5 at5;have hB5:=HH.out.2.2.trans bb5))
    | (go_at_call 33;((with_reducible refine (G2.out _ _ hB5.size os5).mono ?_);rintro e w6 ⟨⟨g6,h6,rfl,os6,at6⟩,bb6,gg6⟩;have hm6:=hm5.next gg6 at6;have hB6:=hB5.trans bb6)))
   go_roundw
   case rel=>exact⟨j+1,hlt,by go_num,Lib.hid ⟨by rw [HM2.out];exact hm6.own,by rw [HS2.out];exact hm6.symm os6,hB6⟩⟩
   case measure=>simp [intOf];omega
  ·obtain rfl:j=n1:=by omega
   have hh:=hI.out
   rw [List.take_of_length_le (show (r2 o.maps).length≤j by simp [r2,HN.out.1]),List.take_of_length_le (show (r3 (ofs 1 (nmL o.maps))).length≤j by simp [r3,HN.out.2.2.2])] at hh
   have HI:Hid (wr.ownsRow w2.heap.size 5 1 (.slice none 0 0) (8*0) ((rwB ((r4 o.rels).take 0)).map eB)∧Tw w2.heap.size wr (.slice ma (16*j) mc) (16*j) (rwB (r2 o.maps)) (.slice none 0 0)∧Tw w2.heap.size wr (.slice sa (8*j) sc) (8*j) (rwB (r3 (ofs 1 (nmL o.maps)))) (.slice none 0 0)∧Below w2.heap.size w2 wr) :=
    Lib.hid ⟨World.ownsRow_nil _ _ _ _,tw_nil hh.1,tw_nil hh.2.1.own,hh.2.2⟩
   clear hI hh hrow
   go_wp2
   go_loopw [7,10] (fun rv q wr=>∃ i:Nat,i≤n3∧q=.int .i64 (i:Int)∧Hid (wr.ownsRow w2.heap.size 5 1 rv (8*i) ((rwB ((r4 o.rels).take i)).map eB)∧Tw w2.heap.size wr (.slice ma (16*j) mc) (16*j) (rwB (r2 o.maps)) rv∧Tw w2.heap.size wr (.slice sa (8*j) sc) (8*j) (rwB (r3 (ofs 1 (nmL o.maps)))) rv∧Below w2.heap.size w2 wr)) (fun _ q _=>n3-(intOf q).toNat)
   case atStart=>exact⟨0,Nat.zero_le _,rfl,HI⟩
   case round =>
    clear HI x0 x1 x2 lx
    obtain⟨i,hi,rfl,hI⟩:=hrel
    obtain⟨va,vc,rfl⟩:=owns_slice hI.out.1
    have hrow:=L8.row_up HK2.out hI.out.2.2.2
    obtain⟨x0,x1,x2⟩:=L13.cells3 hrow
    have lx:=World.block_lt_of_cell? _ _ x0
    simp only at lx
    by_cases hlt2:i<n3
    ·have hil:i<o.rels.length:=by rw [HN.out.2.1];exact hlt2
     obtain⟨bb,of,rfl,hbl,hcc⟩:=HRl.out (by omega)
     obtain⟨q0,q1⟩:=hcc i hil
     have p0:=(HB2.out.cell (p:=⟨bb,of+i*2,none⟩) (by exact hbl)).trans q0
     have p1:=(HB2.out.cell (p:=⟨bb,of+i*2+1,none⟩) (by exact hbl)).trans q1
     have hbl2:bb<w2.heap.size:=by
      have:=World.block_lt_of_cell? _ _ p0
      exact this
     have hz:=HG.out.2.1 _ (List.getElem_mem hil)
     have hm2:rwB ((r4 o.rels).take (i+1))=rwB ((r4 o.rels).take i)++e4 o.rels[i].1++e4 o.rels[i].2:=by
      rw [rwB_snoc _ i (by simpa [r4] using hil),← nB2]
      congr 2
      simp [r4]
     obtain⟨z1,hz1⟩:∃ z,o.rels[i].1=z:=⟨_,rfl⟩
     obtain⟨z2,hz2⟩:∃ z,o.rels[i].2=z:=⟨_,rfl⟩
     rw [hz1] at p0 hz hm2
     rw [hz2] at p1 hz hm2
     obtain⟨hk1,hk2⟩:=hz
     obtain⟨P,hP⟩:∃ P,rwB ((r4 o.rels).take i)=P:=⟨_,rfl⟩
     rw [hP] at hI hm2
     have HM2:=Lib.hid hm2
     have HP0:=Lib.hid (And.intro hbl2 (And.intro p0 p1))
     have F1:=Lib.hid (fun X v (hB:w2.heap.size≤X.heap.size) (h:X.ownsRow w2.heap.size 5 1 v (8*i) (P.map eB))=>four_is v P (P++e4 z1) w2.heap.size (8*i) (8*i+4) z1 X hB h (by omega) (by omega) rfl rfl)
     have F2:=Lib.hid (fun X v (hB:w2.heap.size≤X.heap.size) (h:X.ownsRow w2.heap.size 5 1 v (8*i+4) ((P++e4 z1).map eB))=>four_is v (P++e4 z1) (P++e4 z1++e4 z2) w2.heap.size (8*i+4) (8*(i+1)) z2 X hB h (by omega) (by omega) rfl (by omega))
     obtain⟨hm,hs,hs',hB⟩:=hI.out
     have HH:=Lib.hid (And.intro hm (And.intro hs (And.intro hs' hB)))
     clear hI hcc q0 q1 p0 p1 hm2 hz1 hz2 hP hm hs hs' hB hrow hbl hbl2 hil hk1 hk2
     go_upto_region 14 with (fail)
     have hD:=(Below.refl wr.heap.size wr).drew
     have hm1:=own_below HH.out.1 hD
     have hs1:=HH.out.2.1.below hD
     have ht1:=HH.out.2.2.1.below hD
     refine wp_region_held_drew (S:=fun X=>Below w2.heap.size w2 X) (by kernel_rfl) HH.out.2.2.2.drew (fun hH=>?_)
     generalize wr.drew=Wd at hm1 hs1 ht1 hH ⊢
     clear hD HH x0 x1 x2 lx
     refine wpAnyH_take (i:=0) (oi:=⟨some 55,.move (.tmp 7),_,_,_,none⟩) (v:=.slice va (8*i) vc) rfl (by kernel_rfl) (by kernel_rfl) (by kernel_rfl) (fun _ _ _ h=>h) (Or.inl ⟨by rfl,fun wS hS=>by rfl⟩) hH ?_
     simp only [Act.put,zA,zB,zC]
     refine wpAnyH_take (i:=1) (oi:=⟨some 56,.fieldAddr 26 (.tmp 1) 2,_,_,_,none⟩) (v:=.pointer (some ⟨k0,2,none⟩)) rfl (by kernel_rfl) (by kernel_rfl) (by kernel_rfl) (fun _ _ _ h=>h) (Or.inl ⟨by rfl,fun wS hS=>(by go_simp)⟩) hH ?_
     simp only [Act.put,zA,zB,zC]
     refine wpAnyH_take (i:=2) (oi:=⟨some 57,.load 24 (.tmp 56),_,_,_,none⟩) (v:=.slice (some ⟨bb,of,none⟩) n3 c3) rfl (by kernel_rfl) (by kernel_rfl) (by kernel_rfl) (fun _ _ _ h=>h) (Or.inl ⟨by rfl,fun wS hS=>(by obtain⟨d0,d1,d2⟩:=L13.cells3 (L8.row_up HK2.out hS);go_simp)⟩) hH ?_
     simp only [Act.put,zA,zB,zC]
     refine wpAnyH_take (i:=3) (oi:=⟨some 58,.move (.tmp 10),_,_,_,none⟩) (v:=.int .i64 (i:Int)) rfl (by kernel_rfl) (by kernel_rfl) (by kernel_rfl) (fun _ _ _ h=>h) (Or.inl ⟨by rfl,fun wS hS=>by rfl⟩) hH ?_
     simp only [Act.put,zA,zB,zC]
     refine wpAnyH_take (i:=4) (oi:=⟨some 59,.indexAddr 24 (.tmp 57) (.tmp 58),_,_,_,none⟩) (v:=.pointer (some ⟨bb,of+i*2,none⟩)) rfl (by kernel_rfl) (by kernel_rfl) (by kernel_rfl) (fun _ _ _ h=>h) (Or.inl ⟨by rfl,fun wS hS=>(by go_simp)⟩) hH ?_
     simp only [Act.put,zA,zB,zC]
     refine wpAnyH_take (i:=5) (oi:=⟨some 60,.fieldAddr 59 (.tmp 59) 0,_,_,_,none⟩) (v:=.pointer (some ⟨bb,of+i*2,none⟩)) rfl (by kernel_rfl) (by kernel_rfl) (by kernel_rfl) (fun _ _ _ h=>h) (Or.inl ⟨by rfl,fun wS hS=>(by go_simp)⟩) hH ?_
     simp only [Act.put,zA,zB,zC]
     refine wpAnyH_take (i:=6) (oi:=⟨some 61,.load 3 (.tmp 60),_,_,_,none⟩) (v:=.int .i64 z1) rfl (by kernel_rfl) (by kernel_rfl) (by kernel_rfl) (fun _ _ _ h=>h) (Or.inl ⟨by rfl,fun wS hS=>(by have e0:=(hS.cell (p:=⟨bb,of+i*2,none⟩) HP0.out.1).trans HP0.out.2.1;go_simp)⟩) hH ?_
     simp only [Act.put,zA,zB,zC]
     refine wpAnyH_take (i:=8) (oi:=⟨some 63,.fieldAddr 26 (.tmp 1) 2,_,_,_,none⟩) (v:=.pointer (some ⟨k0,2,none⟩)) rfl (by kernel_rfl) (by kernel_rfl) (by kernel_rfl) (fun _ _ _ h=>h) (Or.inl ⟨by rfl,fun wS hS=>(by go_simp)⟩) hH ?_
     simp only [Act.put,zA,zB,zC]
     refine wpAnyH_take (i:=9) (oi:=⟨some 64,.load 24 (.tmp 63),_,_,_,none⟩) (v:=.slice (some ⟨bb,of,none⟩) n3 c3) rfl (by kernel_rfl) (by kernel_rfl) (by kernel_rfl) (fun _ _ _ h=>h) (Or.inl ⟨by rfl,fun wS hS=>(by obtain⟨d0,d1,d2⟩:=L13.cells3 (L8.row_up HK2.out hS);go_simp)⟩) hH ?_
     simp only [Act.put,zA,zB,zC]
     refine wpAnyH_take (i:=10) (oi:=⟨some 65,.move (.tmp 10),_,_,_,none⟩) (v:=.int .i64 (i:Int)) rfl (by kernel_rfl) (by kernel_rfl) (by kernel_rfl) (fun _ _ _ h=>h) (Or.inl ⟨by rfl,fun wS hS=>by rfl⟩) hH ?_
     simp only [Act.put,zA,zB,zC]
     refine wpAnyH_take (i:=11) (oi:=⟨some 66,.indexAddr 24 (.tmp 64) (.tmp 65),_,_,_,none⟩) (v:=.pointer (some ⟨bb,of+i*2,none⟩)) rfl (by kernel_rfl) (by kernel_rfl) (by kernel_rfl) (fun _ _ _ h=>h) (Or.inl ⟨by rfl,fun wS hS=>(by go_simp)⟩) hH ?_
     simp only [Act.put,zA,zB,zC]
     refine wpAnyH_take (i:=12) (oi:=⟨some 67,.fieldAddr 59 (.tmp 66) 1,_,_,_,none⟩) (v:=.pointer (some ⟨bb,of+i*2+1,none⟩)) rfl (by kernel_rfl) (by kernel_rfl) (by kernel_rfl) (fun _ _ _ h=>h) (Or.inl ⟨by rfl,fun wS hS=>(by go_simp)⟩) hH ?_
     simp only [Act.put,zA,zB,zC]
     refine wpAnyH_take (i:=13) (oi:=⟨some 68,.load 3 (.tmp 67),_,_,_,none⟩) (v:=.int .i64 z2) rfl (by kernel_rfl) (by kernel_rfl) (by kernel_rfl) (fun _ _ _ h=>h) (Or.inl ⟨by rfl,fun wS hS=>(by have e0:=(hS.cell (p:=⟨bb,of+i*2+1,none⟩) HP0.out.1).trans HP0.out.2.2;go_simp)⟩) hH ?_
     simp only [Act.put,zA,zB,zC]
     refine wpAnyH_ready (rs:=[7]) (by kernel_rfl) (by simp) ?_
     refine AllReadyH.cons (o:=⟨some 62,.call ⟨.value (.func 33),#[.tmp 55,.tmp 61],#[23,3]⟩,_,_,_,none⟩) rfl (fun K hK=>?_) AllReadyH.nil
     go_simp
     refine (F1.out _ _ hH.size hm1).mono ?_
     rintro e wz5 ⟨⟨a5,c5,rfl,om5,at5⟩,bb5,gg5⟩
     have hs5:=hs1.next gg5 at5
     have ht5:=ht1.next gg5 at5
     refine hK.out _ _ (hH.trans bb5) (fun hH5=>?_)
     clear hK K hm1 hs1 ht1 hH gg5 at5 bb5 F1
     (try simp only [Act.put,zA,zB,zC])
     refine wpAnyH_ready (rs:=[14]) (by kernel_rfl) (by simp) ?_
     refine AllReadyH.cons (o:=⟨some 69,.call ⟨.value (.func 33),#[.tmp 62,.tmp 68],#[23,3]⟩,_,_,_,none⟩) rfl (fun K hK=>?_) AllReadyH.nil
     go_simp
     refine (F2.out _ _ hH5.size om5).mono ?_
     rintro e wz6 ⟨⟨a6,c6,rfl,om6,at6⟩,bb6,gg6⟩
     have hs6:=hs5.next gg6 at6
     have ht6:=ht5.next gg6 at6
     refine hK.out _ _ (hH5.trans bb6) (fun hH6=>?_)
     clear hK K om5 hs5 ht5 hH5 gg6 at6 bb6 F2
     (try simp only [Act.put,zA,zB,zC])
     refine wpAnyH_take (i:=15) (oi:=⟨some 7,.assign (.tmp 69),_,_,_,none⟩) (v:=.slice a6 (8*(i+1)) c6) rfl (by kernel_rfl) (by kernel_rfl) (by kernel_rfl) (fun _ _ _ h=>h) (Or.inl ⟨by rfl,fun wS hS=>by rfl⟩) hH6 ?_
     simp only [Act.put,zA,zB,zC]
     refine wpAnyH_done (by kernel_rfl) ?_ _
     go_wp2
     go_roundw
     case rel=>exact⟨i+1,hlt2,by go_num,Lib.hid ⟨by rw [HM2.out];exact om6,hs6,ht6,hH6⟩⟩
     case measure=>simp [intOf];omega
    ·obtain rfl:i=n3:=by omega
     have hh:=hI.out
     rw [List.take_of_length_le (show (r4 o.rels).length≤i by simp [r4,HN.out.2.1])] at hh
     obtain⟨hm,hs,hs',hB⟩:=hh
     have R4:=Lib.hid (show Rw eB wr (.slice va (8*i) vc) (rwB (r4 o.rels)) from Rw.own (by rw [r4_len,HN.out.2.1];exact hm))
     have R2:=Lib.hid (show Rw eB wr (.slice ma (16*j) mc) (rwB (r2 o.maps)) from Rw.own (by rw [r2_len,HN.out.1];exact hs.own))
     have R3:=Lib.hid (show Rw eB wr (.slice sa (8*j) sc) (rwB (r3 (ofs 1 (nmL o.maps)))) from Rw.own (by rw [r3_len,HN.out.2.2.2];exact hs'.own))
     have R5:=Lib.hid (HTb.out.below hB)
     have R1:=Lib.hid (HCo.out _ (bch HB2.out hB))
     have HBB:=Lib.hid (bch HB2.out hB)
     clear hI hm hs hs' hB hrow
     go_wp2_with (go_at_call 34;((with_reducible refine (HW.out _ _ (ss_five _ _ rfl _ _ _ _ _ _ _ _ _ _ _ _ rfl (R1.out.below (bnew _ _)) (R2.out.below (bnew _ _)) (R3.out.below (bnew _ _)) (R4.out.below (bnew _ _)) (R5.out.below (bnew _ _)))).mono ?_);rintro e w9 ⟨⟨ra,rc,rfl,r9⟩,b9,-⟩;have HF:=Lib.hid (And.intro r9 (bch (bch HBB.out (bnew _ _)) b9))))
     go_ret
     exact⟨⟨_,_,rfl,Rw.own (by rw [HLN.out];exact HF.out.1)⟩,HF.out.2⟩
end Go.Proofs.YtohkgdfkklfgmaaGreatDoor.L16
end
section
set_option maxHeartbeats 4000000
namespace Go.Proofs.YtohkgdfkklfgmaaGreatDoor.L16
set_option maxRecDepth 100000
open Go.RowKit L14 L15
open L13 (Ob)
attribute [local go_sem] Oper.semAt_some
def RqN (w:World) (e:Ending) (w':World):Prop:=e=.returned (.tuple #[.agg #[.slice none 0 0,.slice none 0 0,.slice none 0 0],.bool false])∧Below w.heap.size w w'
def RqY (o:Ob) (w:World) (e:Ending) (w':World):Prop:=(∃ vm vc vr,e=.returned (.tuple #[.agg #[vm,vc,vr],.bool true])∧OA w' vm vc vr o)∧Below w.heap.size w w'
theorem rread_not (a:Option Addr) (n c:Nat) (b:List UInt8) (w:World) (hv:Rw eB w (.slice a n c) b) (hb:n≤1000000) (h:¬ rdOk b) :
  Calls Tryz.prog 37 #[.slice a n c] w fun e w'=>e=.returned (.tuple #[.slice none 0 0,.bool false])∧Below w.heap.size w w':=by
 refine (rread_at a n c b w hv hb).mono fun e w' hP=>?_
 obtain⟨⟨-,he⟩|⟨h1,-⟩,hb⟩:=hP
 ·exact⟨he,hb⟩
 ·exact absurd h1 h
theorem rread_is (a:Option Addr) (n c L:Nat) (b:List UInt8) (l:List Sc) (w:World) (hv:Rw eB w (.slice a n c) b) (hb:n≤1000000) (h:rdOk b) (hL:nS b=L) (hl:rdT b (nS b)=l) :
  Calls Tryz.prog 37 #[.slice a n c] w fun e w'=>(∃ a' c',e=.returned (.tuple #[.slice a' L c',.bool true])∧Ss w' (.slice a' L c') l)∧Below w.heap.size w w':=by
 subst hL hl
 refine (rread_at a n c b w hv hb).mono fun e w' hP=>?_
 obtain⟨⟨h1,-⟩|⟨-,h2⟩,hb⟩:=hP
 ·exact absurd h h1
 ·exact⟨h2,hb⟩
abbrev two0 (w:World):World:=(w.alloc (.cells nil3 26)).alloc (.cells nil3 26)
theorem two_facts (w:World):(two0 w).heap[w.heap.size]?=some (.cells nil3 26)∧(two0 w).heap[w.heap.size+1]?=some (.cells nil3 26)∧Below w.heap.size w (two0 w):=L13.two_ob w _ _
theorem five_of {b:List UInt8} {q:Ob} (h:Is16 b q):rdT b (nS b)=secs q∧nS b=5:=by
 have e:=(is16_rd h).2
 refine⟨e,?_⟩
 have:=congrArg List.length e
 rw [rdT_len] at this
 exact this
section
variable (a:Option Addr) (n c:Nat) (b:List UInt8) (w:World) (hv:Rw eB w (.slice a n c) b) (hb:n≤100000)
include hv hb
theorem rq_not (h:¬ rdOk b):Calls Tryz.prog 18 #[.slice a n c] w (RqN w):=by
 obtain⟨k1,k2,hB⟩:=two_facts w
 have HR:=Lib.hid (rread_not a n c b _ (hv.below hB) (by omega) h)
 have K1:=Lib.hid k1
 have K2:=Lib.hid k2
 have HB:=Lib.hid hB
 clear hv h k1 k2 hB
 go_enter Tryz.func18,Tryz.ntmps18
 go_upto_region 4 with (go_at_call 37;((with_reducible refine (HR.out).mono ?_);rintro e w1 ⟨rfl,b1⟩))
 have q1:=L8.row_up K1.out b1
 have q2:=L8.row_up K2.out b1
 have B1:=bch HB.out b1
 obtain⟨x0,x1,x2⟩:=L13.cells3 q2
 have lx:=World.block_lt_of_cell? _ _ x0
 simp only at lx
 go_wp2_with (refine wpList_store_row rfl _ _ _ rfl w.heap.size nil3 rfl rfl 26 _ q1 (by kernel_rfl) rfl (by simp [Value.oneCell']) ?_)
 obtain⟨z0,z1,z2⟩:=L13.cells3 (setRow_heap _ _ _ nil3 _ _ q1)
 exact bodyPost_ret (v:=.tuple #[.agg nil3,.bool false]) (by simp [results,Tryz.results18,go_sem,z0,z1,z2]) rfl ⟨rfl,below_setRow B1 (Nat.le_refl _) _⟩
theorem rq_len (h:rdOk b) (h5:nS b≠5):Calls Tryz.prog 18 #[.slice a n c] w (RqN w):=by
 obtain⟨k1,k2,hB⟩:=two_facts w
 obtain⟨L,hL⟩:∃ L,nS b=L:=⟨_,rfl⟩
 have HR:=Lib.hid (rread_is a n c L b _ _ (hv.below hB) (by omega) h hL rfl)
 have K1:=Lib.hid k1
 have K2:=Lib.hid k2
 have HB:=Lib.hid hB
 have h5':((L:Int) != 5)=true:=by rw [bne_iff_ne];omega
 clear hv h k1 k2 hB hL h5
 go_enter Tryz.func18,Tryz.ntmps18
 go_upto_region 4 with (go_at_call 37;((with_reducible refine (HR.out).mono ?_);rintro e w1 ⟨⟨ra,rc,rfl,-⟩,b1⟩))
 have q1:=L8.row_up K1.out b1
 have q2:=L8.row_up K2.out b1
 have B1:=bch HB.out b1
 obtain⟨x0,x1,x2⟩:=L13.cells3 q2
 have lx:=World.block_lt_of_cell? _ _ x0
 simp only at lx
 go_wp2_with (refine wpList_store_row rfl _ _ _ rfl w.heap.size nil3 rfl rfl 26 _ q1 (by kernel_rfl) rfl (by simp [Value.oneCell']) ?_)
 obtain⟨z0,z1,z2⟩:=L13.cells3 (setRow_heap _ _ _ nil3 _ _ q1)
 exact bodyPost_ret (v:=.tuple #[.agg nil3,.bool false]) (by simp [results,Tryz.results18,go_sem,z0,z1,z2]) rfl ⟨rfl,below_setRow B1 (Nat.le_refl _) _⟩
end
theorem ss_at {w:World} {a:Option Addr} {L c:Nat} {l:List Sc} (h:Ss w (.slice a L c) l) (hl:l.length=L) (j:Nat) (hj:j<L):∃ b o,a=some ⟨b,o,none⟩∧b<w.heap.size∧w.cell? ⟨b,o+j*2,none⟩=some (.int .i64 (l[j]'(by omega)).1)∧∃ dv,w.cell? ⟨b,o+j*2+1,none⟩=some dv∧Rw eB w dv (l[j]'(by omega)).2:=by
 obtain⟨-,-,-,hc⟩:=h.form' hl
 obtain⟨b,o,e,hb,hcc⟩:=hc (by omega)
 obtain⟨h1,dv,h2,h3⟩:=hcc j (by omega)
 exact⟨b,o,e,hb,h1,dv,h2,h3⟩
section
variable (a:Option Addr) (n c:Nat) (b:List UInt8) (w:World) (hv:Rw eB w (.slice a n c) b) (hb:n≤100000) (s0 s1 s2 s3 s4:Sc) (h:rdOk b) (h5:nS b=5) (hl:rdT b (nS b)=[s0,s1,s2,s3,s4])
include hv hb h h5 hl
theorem rq_kind (hk:s4.1≠5):Calls Tryz.prog 18 #[.slice a n c] w (RqN w):=by
 obtain⟨k1,k2,hB⟩:=two_facts w
 have HR:=Lib.hid (rread_is a n c 5 b _ _ (hv.below hB) (by omega) h h5 hl)
 have K1:=Lib.hid k1
 have K2:=Lib.hid k2
 have HB:=Lib.hid hB
 obtain⟨kk,d4⟩:=s4
 have hk':(kk != 5)=true:=by simpa using hk
 clear hv h k1 k2 hB h5 hk
 go_enter Tryz.func18,Tryz.ntmps18
 go_upto_region 4 with (go_at_call 37;((with_reducible refine (HR.out).mono ?_);rintro e w1 ⟨⟨ra,rc,rfl,rs⟩,b1⟩;obtain⟨bb,o,rfl,hlb,y0,-⟩:=ss_at rs rfl 4 (by decide);simp only [List.getElem_cons_succ,List.getElem_cons_zero] at y0))
 have q1:=L8.row_up K1.out b1
 have q2:=L8.row_up K2.out b1
 have B1:=bch HB.out b1
 obtain⟨x0,x1,x2⟩:=L13.cells3 q2
 have lx:=World.block_lt_of_cell? _ _ x0
 simp only at lx
 go_wp2_with (refine wpList_store_row rfl _ _ _ rfl w.heap.size nil3 rfl rfl 26 _ q1 (by kernel_rfl) rfl (by simp [Value.oneCell']) ?_)
 obtain⟨z0,z1,z2⟩:=L13.cells3 (setRow_heap _ _ _ nil3 _ _ q1)
 exact bodyPost_ret (v:=.tuple #[.agg nil3,.bool false]) (by simp [results,Tryz.results18,go_sem,z0,z1,z2]) rfl ⟨rfl,below_setRow B1 (Nat.le_refl _) _⟩
theorem rq_tab (hk:s4.1=5) (hp:L14.prV s4.2=none) (hlen:s4.2.length≤100000):Calls Tryz.prog 18 #[.slice a n c] w (RqN w):=by
 obtain⟨k1,k2,hB⟩:=two_facts w
 have HR:=Lib.hid (rread_is a n c 5 b _ _ (hv.below hB) (by omega) h h5 hl)
 have K1:=Lib.hid k1
 have K2:=Lib.hid k2
 have HB:=Lib.hid hB
 obtain⟨kk,d5⟩:=s4
 obtain⟨kk1,d2⟩:=s1
 obtain⟨kk3,d4⟩:=s3
 simp only at hk hp hlen
 subst hk
 obtain⟨D5,hD5⟩:∃ D,d5.length=D:=⟨_,rfl⟩
 obtain⟨D2,hD2⟩:∃ D,d2.length=D:=⟨_,rfl⟩
 obtain⟨D4,hD4⟩:∃ D,d4.length=D:=⟨_,rfl⟩
 have HP:=Lib.hid (fun (X:World) (v:Value) (hr:Rw eB X v d5)=>rparse_none v d5 X hr (by omega) hp)
 have HL:=Lib.hid (And.intro hD5 (And.intro hD2 hD4))
 clear hv h k1 k2 hB h5 hp hD5 hD2 hD4 hlen
 go_enter Tryz.func18,Tryz.ntmps18
 go_upto_region 9 with (first
  | (go_at_call 37;((with_reducible refine (HR.out).mono ?_);rintro e w1 ⟨⟨ra,rc,rfl,rs⟩,b1⟩;obtain⟨bb,o,rfl,hlb,y0,dv4,y4,r4⟩:=ss_at rs rfl 4 (by decide);obtain⟨bb1,o1,hq1,-,-,dv1,y1,r1⟩:=ss_at rs rfl 1 (by decide);obtain⟨bb3,o3,hq3,-,-,dv3,y3,r3⟩:=ss_at rs rfl 3 (by decide);cases hq1;cases hq3;simp only [List.getElem_cons_succ,List.getElem_cons_zero] at y0 r1 r3 r4;obtain⟨e4,g4,rfl,-⟩:=r4.form HL.out.1;obtain⟨e1,g1,rfl,-⟩:=r1.form HL.out.2.1;obtain⟨e3,g3,rfl,-⟩:=r3.form HL.out.2.2))
  | (go_at_call 38;((with_reducible refine (HP.out _ _ r4).mono ?_);rintro e w2 ⟨rfl,b2⟩)))
 have q1:=L8.row_up (L8.row_up K1.out b1) b2
 have q2:=L8.row_up (L8.row_up K2.out b1) b2
 have B1:=bch (bch HB.out b1) b2
 obtain⟨x0,x1,x2⟩:=L13.cells3 q2
 have lx:=World.block_lt_of_cell? _ _ x0
 simp only at lx
 go_wp2_with (refine wpList_store_row rfl _ _ _ rfl w.heap.size nil3 rfl rfl 26 _ q1 (by kernel_rfl) rfl (by simp [Value.oneCell']) ?_)
 obtain⟨z0,z1,z2⟩:=L13.cells3 (setRow_heap _ _ _ nil3 _ _ q1)
 exact bodyPost_ret (v:=.tuple #[.agg nil3,.bool false]) (by simp [results,Tryz.results18,go_sem,z0,z1,z2]) rfl ⟨rfl,below_setRow B1 (Nat.le_refl _) _⟩
theorem rq_maps (ts:List (List UInt8)) (hk:s4.1=5) (hp:L14.prV s4.2=some ts) (hlen:s4.2.length≤100000) (hne:s1.2.length≠16*ts.length):Calls Tryz.prog 18 #[.slice a n c] w (RqN w):=by
 obtain⟨k1,k2,hB⟩:=two_facts w
 have HR:=Lib.hid (rread_is a n c 5 b _ _ (hv.below hB) (by omega) h h5 hl)
 have K1:=Lib.hid k1
 have K2:=Lib.hid k2
 have HB:=Lib.hid hB
 obtain⟨kk,d5⟩:=s4
 obtain⟨kk1,d2⟩:=s1
 obtain⟨kk3,d4⟩:=s3
 simp only at hk hp hlen hne
 subst hk
 obtain⟨D5,hD5⟩:∃ D,d5.length=D:=⟨_,rfl⟩
 obtain⟨D2,hD2⟩:∃ D,d2.length=D:=⟨_,rfl⟩
 obtain⟨D4,hD4⟩:∃ D,d4.length=D:=⟨_,rfl⟩
 obtain⟨T,hT⟩:∃ D,ts.length=D:=⟨_,rfl⟩
 have hTb:=(L14.prV_few hp).1
 rw [hD2,hT] at hne
 rw [hT] at hTb
 have hTb2:T≤100000:=by omega
 have hne':((D2:Int) != 16*(T:Int))=true:=by rw [bne_iff_ne];omega
 have HP:=Lib.hid (fun (X:World) (v:Value) (hr:Rw eB X v d5)=>rparse_some v d5 ts T X hr (by omega) hp hT)
 have HL:=Lib.hid (And.intro hD5 (And.intro hD2 hD4))
 clear hv h k1 k2 hB h5 hp hD5 hD2 hD4 hlen hT hTb hne
 go_enter Tryz.func18,Tryz.ntmps18
 go_upto_region 9 with (first
  | (go_at_call 37;((with_reducible refine (HR.out).mono ?_);rintro e w1 ⟨⟨ra,rc,rfl,rs⟩,b1⟩;obtain⟨bb,o,rfl,hlb,y0,dv4,y4,r4⟩:=ss_at rs rfl 4 (by decide);obtain⟨bb1,o1,hq1,-,-,dv1,y1,r1⟩:=ss_at rs rfl 1 (by decide);obtain⟨bb3,o3,hq3,-,-,dv3,y3,r3⟩:=ss_at rs rfl 3 (by decide);cases hq1;cases hq3;simp only [List.getElem_cons_succ,List.getElem_cons_zero] at y0 r1 r3 r4;obtain⟨e4,g4,rfl,-⟩:=r4.form HL.out.1;obtain⟨e1,g1,rfl,-⟩:=r1.form HL.out.2.1;obtain⟨e3,g3,rfl,-⟩:=r3.form HL.out.2.2))
  | (go_at_call 38;((with_reducible refine (HP.out _ _ r4).mono ?_);rintro e w2 ⟨⟨pa,pc,rfl,-⟩,b2⟩)))
 have q1:=L8.row_up (L8.row_up K1.out b1) b2
 have q2:=L8.row_up (L8.row_up K2.out b1) b2
 have B1:=bch (bch HB.out b1) b2
 obtain⟨x0,x1,x2⟩:=L13.cells3 q2
 have lx:=World.block_lt_of_cell? _ _ x0
 simp only at lx
 go_wp2_with (refine wpList_store_row rfl _ _ _ rfl w.heap.size nil3 rfl rfl 26 _ q1 (by kernel_rfl) rfl (by simp [Value.oneCell']) ?_)
 obtain⟨z0,z1,z2⟩:=L13.cells3 (setRow_heap _ _ _ nil3 _ _ q1)
 exact bodyPost_ret (v:=.tuple #[.agg nil3,.bool false]) (by simp [results,Tryz.results18,go_sem,z0,z1,z2]) rfl ⟨rfl,below_setRow B1 (Nat.le_refl _) _⟩
theorem rq_rels (ts:List (List UInt8)) (hk:s4.1=5) (hp:L14.prV s4.2=some ts) (hlen:s4.2.length≤100000) (heq:s1.2.length=16*ts.length) (hne:s3.2.length % 8≠0):Calls Tryz.prog 18 #[.slice a n c] w (RqN w):=by
 obtain⟨k1,k2,hB⟩:=two_facts w
 have HR:=Lib.hid (rread_is a n c 5 b _ _ (hv.below hB) (by omega) h h5 hl)
 have K1:=Lib.hid k1
 have K2:=Lib.hid k2
 have HB:=Lib.hid hB
 obtain⟨kk,d5⟩:=s4
 obtain⟨kk1,d2⟩:=s1
 obtain⟨kk3,d4⟩:=s3
 simp only at hk hp hlen hne
 subst hk
 obtain⟨D5,hD5⟩:∃ D,d5.length=D:=⟨_,rfl⟩
 obtain⟨D2,hD2⟩:∃ D,d2.length=D:=⟨_,rfl⟩
 obtain⟨D4,hD4⟩:∃ D,d4.length=D:=⟨_,rfl⟩
 obtain⟨T,hT⟩:∃ D,ts.length=D:=⟨_,rfl⟩
 have hTb:=(L14.prV_few hp).1
 simp only at heq
 rw [hD2,hT] at heq
 rw [hD4] at hne
 rw [hT] at hTb
 have hTb2:T≤100000:=by omega
 have heq':((D2:Int) != 16*(T:Int))=false:=by rw [bne_eq_false_iff_eq];omega
 have hne':((D4:Int) % 8 != 0)=true:=by rw [bne_iff_ne];omega
 have HP:=Lib.hid (fun (X:World) (v:Value) (hr:Rw eB X v d5)=>rparse_some v d5 ts T X hr (by omega) hp hT)
 have HL:=Lib.hid (And.intro hD5 (And.intro hD2 hD4))
 clear hv h k1 k2 hB h5 hp hD5 hD2 hD4 hlen hT hTb hne heq
 go_enter Tryz.func18,Tryz.ntmps18
 go_upto_region 9 with (first
  | (go_at_call 37;((with_reducible refine (HR.out).mono ?_);rintro e w1 ⟨⟨ra,rc,rfl,rs⟩,b1⟩;obtain⟨bb,o,rfl,hlb,y0,dv4,y4,r4⟩:=ss_at rs rfl 4 (by decide);obtain⟨bb1,o1,hq1,-,-,dv1,y1,r1⟩:=ss_at rs rfl 1 (by decide);obtain⟨bb3,o3,hq3,-,-,dv3,y3,r3⟩:=ss_at rs rfl 3 (by decide);cases hq1;cases hq3;simp only [List.getElem_cons_succ,List.getElem_cons_zero] at y0 r1 r3 r4;obtain⟨e4,g4,rfl,-⟩:=r4.form HL.out.1;obtain⟨e1,g1,rfl,-⟩:=r1.form HL.out.2.1;obtain⟨e3,g3,rfl,-⟩:=r3.form HL.out.2.2))
  | (go_at_call 38;((with_reducible refine (HP.out _ _ r4).mono ?_);rintro e w2 ⟨⟨pa,pc,rfl,-⟩,b2⟩)))
 have q1:=L8.row_up (L8.row_up K1.out b1) b2
 have q2:=L8.row_up (L8.row_up K2.out b1) b2
 have B1:=bch (bch HB.out b1) b2
 obtain⟨x0,x1,x2⟩:=L13.cells3 q2
 have lx:=World.block_lt_of_cell? _ _ x0
 simp only at lx
 go_wp2_with (refine wpList_store_row rfl _ _ _ rfl w.heap.size nil3 rfl rfl 26 _ q1 (by kernel_rfl) rfl (by simp [Value.oneCell']) ?_)
 obtain⟨z0,z1,z2⟩:=L13.cells3 (setRow_heap _ _ _ nil3 _ _ q1)
 exact bodyPost_ret (v:=.tuple #[.agg nil3,.bool false]) (by simp [results,Tryz.results18,go_sem,z0,z1,z2]) rfl ⟨rfl,below_setRow B1 (Nat.le_refl _) _⟩
end
end Go.Proofs.YtohkgdfkklfgmaaGreatDoor.L16
end
