/- What Assemble returns: what Check finds, or the object. Condition: memory holds the program, which has no more than 10000 statements; the tables read as laid. -/
import Derived.Test.YtdgnjhhieemcaaaGreatDoorM25
import Derived.Test.YtdgnjhhieemcaaaGreatDoorM22
set_option maxRecDepth 100000
set_option maxHeartbeats 8000000
namespace Go.Proofs.YtdgnjhhieemcaaaGreatDoor.L13
open Go.RowKit Go.Shelf L3 L4 L12
open L10 (Stm Pg jmI fmI lbK)
attribute [local go_sem] Oper.semAt_some
def obV (p:Pg):Ob:=⟨p.maps,cdB p,(rfT p p.stmts.length).map fun r=>((r.1:Int),r.2)⟩
theorem is_in {w:World} {v:Value} {l:List L9.Ins} (h:IsAt w v l):L5.InAt w v (l.map tI):=by
 rcases h with ⟨b,o,cap,rfl,_,hc⟩|⟨rfl,a,cap,rfl⟩
 ·refine⟨_,cap,by rw [List.length_map],.inr ⟨b,o,rfl,fun i hi m u hu=>?_⟩⟩
  rw [List.length_map] at hi
  rw [List.getElem_map] at hu
  exact hc i hi m u (by simpa [tI,L5.Ix.cs] using hu)
 ·exact⟨a,cap,rfl,.inl rfl⟩
theorem in_is {w:World} {v:Value} {l:List L9.Ins} (h:L5.InAt w v (l.map tI)):IsAt w v l:=by
 obtain⟨a,cap,rfl,hc⟩:=h
 rw [List.length_map]
 by_cases h0:l=[]
 ·subst h0
  exact .inr ⟨rfl,a,cap,rfl⟩
 ·obtain⟨k,o,rfl,hI⟩:=hc.resolve_left (by simpa using h0)
  have hp:0<l.length:=List.length_pos_iff.2 h0
  have hc0:=hI 0 (by rw [List.length_map];exact hp) 0 (.int .i64 l[0].op) (by simp [tI])
  refine .inl ⟨k,o,cap,rfl,World.block_lt_of_cell? _ _ hc0,fun j hj i u hu=>?_⟩
  refine hI j (by rw [List.length_map];exact hj) i u ?_
  rw [List.getElem_map]
  simpa [tI,L5.Ix.cs] using hu
theorem own_df {W:World} {B e:TypeId} {v:Value} {l:List L9.Df} {n:Nat} (hn:l.length=n) (h:W.ownsRow B e 4 v n (l.flatMap L10.dfL)):L10.DfAt W v l:=by
 subst hn
 rcases h.2 with ⟨rfl,h0⟩|⟨g,cap,cur,rfl,_,hh,_⟩
 ·exact .inr ⟨List.eq_nil_of_length_eq_zero h0,none,0,rfl⟩
 ·refine .inl ⟨g,0,cap,rfl,lt_of_block hh,fun j hj i u hu=>?_⟩
  have:=h.cells (g:=g) rfl (j*4+i) u (L10.flat_get L10.dfL 4 (fun _=>rfl) l j hj i u hu)
  rw [Nat.zero_add]
  rwa [L8.add0] at this
theorem join_own (v:Value) (xs:List L5.Ix) (w:World) (hw:L1.Wid w) (hm:xs.length≤100000) (hv:L5.InAt w v xs) (hf:∀ x∈xs,x.fits) (h0:∀ x∈xs,x.err=0) :
  Calls Tryz.prog 81 #[v] w fun e w'=>∃ u,e=.returned (.tuple #[u,.int .i64 0,.int .i64 0])∧w'.ownsRow w.heap.size 5 1 u (L5.joinB xs).length (L5.byL (L5.joinB xs))∧Below w.heap.size w w':=by
 refine (L5.join_at v xs w hw hm hv hf).mono fun e w' h=>?_
 obtain⟨h,hb⟩:=h
 rcases h with ⟨p,x,q,rfl,-,h,-⟩|⟨-,v',rfl,ho⟩
 ·exact absurd (h0 x (by simp)) h
 ·exact⟨v',rfl,ho,hb⟩
theorem gr_setRow (w:World) (g:Nat) (cs:Array Value):w.grownBy (w.setRow g cs) (some g):=by
 have h:=below_setRow (Below.refl 0 w) (Nat.zero_le g) cs
 exact⟨h.os,h.tape,h.output,h.size,fun k _ hk=>setRow_other _ _ _ _ (fun e=>hk (by rw [e]))⟩
theorem own_set {W:World} {B e:TypeId} {sz n kr:Nat} {v:Value} {xs:List Value} {cs cs':Array Value} {t:TypeId} (h:W.ownsRow B e sz v n xs) (hr:W.heap[kr]?=some (.cells cs t)) (ht:t≠e):(W.setRow kr cs').ownsRow B e sz v n xs :=
 L10.own_kept h (gr_setRow W kr cs') (fun g hg=>by
  obtain⟨cur,hc⟩:=L10.own_ty h hg
  exact L10.ty_ne hr hc ht)
structure ObOwn (B:Nat) (W:World) (vm vc vr:Value) (p:Pg):Prop where
 m:W.ownsRow B 83 4 vm p.maps.length (p.maps.flatMap L10.dfL)
 c:W.ownsRow B 5 1 vc (cdB p).length (L5.byL (cdB p))
 r:W.ownsRow B 76 2 vr (rfT p p.stmts.length).length (rlC (rfT p p.stmts.length))
theorem ObOwn.at {B:Nat} {W:World} {vm vc vr:Value} {p:Pg} (h:ObOwn B W vm vc vr p):ObAt W vm vc vr (obV p):=⟨own_df rfl h.m,L5.BsAt.v (L5.own_bytes h.c),rl_ro (own_rl h.r)⟩
theorem ObOwn.below {B:Nat} {W W':World} {vm vc vr:Value} {p:Pg} (h:ObOwn B W vm vc vr p) (hb:Below W.heap.size W W'):ObOwn B W' vm vc vr p:=⟨L8.own_below h.m hb,L8.own_below h.c hb,L8.own_below h.r hb⟩
theorem ObOwn.weak {B B':Nat} {W:World} {vm vc vr:Value} {p:Pg} (h:ObOwn B W vm vc vr p) (hb:B'≤B):ObOwn B' W vm vc vr p:=⟨own_weak h.m hb,own_weak h.c hb,own_weak h.r hb⟩
theorem ObOwn.set {B:Nat} {W:World} {vm vc vr:Value} {p:Pg} {kr:Nat} {cs cs':Array Value} (h:ObOwn B W vm vc vr p) (hr:W.heap[kr]?=some (.cells cs 26)):ObOwn B (W.setRow kr cs') vm vc vr p:=⟨own_set h.m hr (by decide),own_set h.c hr (by decide),own_set h.r hr (by decide)⟩
theorem ObOwn.form {B:Nat} {W:World} {vm vc vr:Value} {p:Pg} (h:ObOwn B W vm vc vr p):∃ a1 c1 a2 c2 a3 c3,vm=.slice a1 p.maps.length c1∧vc=.slice a2 (cdB p).length c2∧vr=.slice a3 (rfT p p.stmts.length).length c3:=by
 obtain⟨a1,c1,rfl⟩:=owns_slice h.m
 obtain⟨a2,c2,rfl⟩:=owns_slice h.c
 obtain⟨a3,c3,rfl⟩:=owns_slice h.r
 exact⟨_,_,_,_,_,_,rfl,rfl,rfl⟩
def AsP (w:World) (p:Pg) (k:Nat) (er:Int) (e:Ending) (w':World):Prop :=
 ((er≠0∧e=.returned (.tuple #[.agg #[.slice none 0 0,.slice none 0 0,.slice none 0 0],.int .i64 (k:Int),.int .i64 er])) ∨
  (er=0∧∃ vm vc vr,e=.returned (.tuple #[.agg #[vm,vc,vr],.int .i64 0,.int .i64 0])∧ObOwn w.heap.size w' vm vc vr p))∧Below w.heap.size w w'
def SA (w:World) (kp kr:Nat) (vm vs:Value) (X:World):Prop :=
 Below w.heap.size w X∧X.heap[kp]?=some (.cells #[vm,vs] 58)∧∃ cs:Array Value,cs.size=3∧X.heap[kr]?=some (.cells cs 26)
theorem SA.below {w X Y:World} {kp kr:Nat} {vm vs:Value} (h:SA w kp kr vm vs X) (hb:Below X.heap.size X Y):SA w kp kr vm vs Y:=by
 obtain⟨h1,h2,cs,h3,h4⟩:=h
 exact⟨L2.bch h1 hb,L8.row_up h2 hb,cs,h3,L8.row_up h4 hb⟩
theorem SA.set {w X:World} {kp kr:Nat} {vm vs:Value} (h:SA w kp kr vm vs X) (hlo:w.heap.size≤kr) (hne:kp≠kr) (cs:Array Value) (hcs:cs.size=3):SA w kp kr vm vs (X.setRow kr cs)∧(X.setRow kr cs).heap[kr]?=some (.cells cs 26):=by
 obtain⟨h1,h2,cs0,h3,h4⟩:=h
 have hs:=setRow_heap _ _ _ cs _ _ h4
 exact⟨⟨below_setRow h1 hlo _,(by rw [← h2];exact setRow_other _ _ _ _ hne),cs,hcs,hs⟩,hs⟩
theorem two_as (w:World) (vm vs:Value):(((w.alloc (.cells #[vm,vs] 58)).alloc (obC (.slice none 0 0) (.slice none 0 0) (.slice none 0 0)))).heap[w.heap.size]?=some (.cells #[vm,vs] 58)∧(((w.alloc (.cells #[vm,vs] 58)).alloc (obC (.slice none 0 0) (.slice none 0 0) (.slice none 0 0)))).heap[w.heap.size+1]?=some (obC (.slice none 0 0) (.slice none 0 0) (.slice none 0 0))∧Below w.heap.size w ((w.alloc (.cells #[vm,vs] 58)).alloc (obC (.slice none 0 0) (.slice none 0 0) (.slice none 0 0))):=two_ob w _ _
theorem assemble_at (vm vs:Value) (p:Pg) (n:Nat) (w:World) (hp:L10.PgAt w vm vs p) (hf:L10.Fits p) (hn:p.stmts.length=n) (hm:n≤6000) (hT:L1.Wid w∧L2.Regs w) (b:Bool) (k:Nat) (er:Int) (hr:L10.brV p=(b,k,er)) :
  Calls Tryz.prog 58 #[.agg #[vm,vs]] w fun e w'=>AsP w p k er e w':=by
 have HSml:L10.Sml p:=⟨hf.maps,hf.stmts,fun s hs=>by
  obtain⟨i,hi,rfl⟩:=List.mem_iff_getElem.1 hs
  exact hf.lab_le i hi⟩
 have HRs:=Lib.hid (fun (X:World) (hX:Below w.heap.size w X)=>resolve_at vm vs p n X (hp.below hX) hf hn (by omega) ⟨L4.wid_below hT.1 hX,hT.2.below hX⟩ b k er hr)
 have HJ:=Lib.hid (fun (he:er=0) (X:World) (hX:Below w.heap.size w X) (v:Value) (hv:IsAt X v (rsL p))=>show Calls Tryz.prog 81 #[v] X (fun e w'=>∃ u,e=.returned (.tuple #[u,.int .i64 0,.int .i64 0])∧w'.ownsRow X.heap.size 5 1 u (cdB p).length (L5.byL (cdB p))∧Below X.heap.size X w') from join_own v ((rsL p).map tI) X (L4.wid_below hT.1 hX) (by rw [List.length_map,rsL_len,hn];omega) (is_in hv) (rsL_fits (brV_ok hr he) (by omega)) (rsL_err (brV_ok hr he) (by omega)))
 obtain⟨n1,hn1⟩:∃ n,p.maps.length=n:=⟨_,rfl⟩
 have hfl:=hp.1.flat
 have hcl:=L10.flat_len L10.dfL 4 (fun _=>rfl) p.maps
 rw [hn1] at hfl hcl
 have hm1:=hf.maps
 rw [hn1] at hm1
 have HCl:=Lib.hid (fun (X:World) (hX:Below w.heap.size w X)=>L10.cloneD_at vm n1 (p.maps.flatMap L10.dfL) X hm1 hcl (L10.one_df p.maps) (hfl.below hX))
 have HRf:=Lib.hid (fun (X:World) (hX:Below w.heap.size w X)=>refs_at vm vs p X (hp.below hX) HSml)
 unfold RfP at HRf
 obtain⟨cl,hcL⟩:∃ c,(cdB p).length=c:=⟨_,rfl⟩
 rw [hcL] at HJ
 obtain⟨rl,hrL⟩:∃ c,(rfT p p.stmts.length).length=c:=⟨_,rfl⟩
 rw [hrL] at HRf
 obtain⟨a1,c1,rfl,-⟩:=L10.df_form hn1 hp.1
 obtain⟨a2,c2,rfl,-⟩:=L10.sm_form hn hp.2
 have HN1:=Lib.hid (And.intro hn1 hn)
 have HL:=Lib.hid (And.intro hcL hrL)
 obtain⟨K1,K2,hB⟩:=two_as w (.slice a1 n1 c1) (.slice a2 n c2)
 have HB:=Lib.hid hB
 have HK1:=Lib.hid K1
 have HK2:=Lib.hid K2
 clear hp hf hn hm hT hr hn1 hfl hcl hm1 HSml hcL hrL K1 K2 hB
 go_enter Tryz.func58,Tryz.ntmps58
 go_upto_region 1 with (fail)
 obtain⟨kp,hkp⟩:∃ k,w.heap.size=k:=⟨_,rfl⟩
 rw [hkp] at HK1 HK2 ⊢
 generalize (w.alloc (.cells _ 58)).alloc (.cells _ 26)=W at HK1 HK2 HB ⊢
 have HKP:=Lib.hid (show w.heap.size≤kp+1 by omega)
 clear hkp
 obtain⟨x0,x1⟩:=L10.cells2p HK1.out
 have l1:=World.block_lt_of_cell? _ _ x0
 simp only at l1
 by_cases h0:er=0
 case neg =>
  have h0':(er != 0)=true:=by simpa using h0
  have HRn:=Lib.hid ((HRs.out W HB.out).mono (fun e w' h=>show (e=.returned (.tuple #[.slice none 0 0,.int .i64 (k:Int),.int .i64 er]))∧Below W.heap.size W w' from ⟨by rcases h.1 with ⟨_,h⟩|⟨h,_⟩;exact h;exact absurd h h0,h.2⟩))
  clear HRs HJ HCl HRf
  go_upto_region 3 with (go_at_call 96;((with_reducible refine (HRn.out).mono ?_);rintro e w1 ⟨rfl,b1⟩))
  have q2:=L8.row_up HK2.out b1
  have B1:=L2.bch HB.out b1
  go_wp2_with (refine wpList_store_row rfl _ _ _ rfl (kp+1) #[.slice none 0 0,.slice none 0 0,.slice none 0 0] rfl rfl 26 _ q2 (by kernel_rfl) rfl (by simp [Value.oneCell']) ?_)
  obtain⟨z0,z1,z2⟩:=cells3 (setRow_heap _ _ _ #[.slice none 0 0,.slice none 0 0,.slice none 0 0] _ _ q2)
  exact bodyPost_ret (v:=.tuple #[.agg #[.slice none 0 0,.slice none 0 0,.slice none 0 0],.int .i64 (k:Int),.int .i64 er]) (by simp [results,Tryz.results58,go_sem,z0,z1,z2]) rfl ⟨.inl ⟨h0,rfl⟩,below_setRow B1 HKP.out _⟩
 subst h0
 have HJ1:=Lib.hid (HJ.out rfl)
 clear HJ
 have HRy:=Lib.hid ((HRs.out W HB.out).mono (fun e w' h=>show (∃ a c,e=.returned (.tuple #[.slice a n c,.int .i64 0,.int .i64 0])∧IsAt w' (.slice a n c) (rsL p))∧Below W.heap.size W w' from ⟨by rcases h.1 with ⟨h,_⟩|⟨_,h⟩;exact absurd rfl h;exact h,h.2⟩))
 clear HRs
 go_upto_region 4 with (go_at_call 96;((with_reducible refine (HRy.out).mono ?_);rintro e w1 ⟨⟨la,lc,rfl,hv1⟩,b1⟩))
 have B1:=L2.bch HB.out b1
 go_upto_region 5 with (go_at_call 81;((with_reducible refine (HJ1.out _ B1 _ hv1).mono ?_);rintro e w2 ⟨u2,rfl,hc2,b2⟩;obtain⟨ca,cc,rfl⟩:=owns_slice hc2))
 have B2:=L2.bch B1 b2
 have r1:=L8.row_up (L8.row_up HK1.out b1) b2
 have r2:=L8.row_up (L8.row_up HK2.out b1) b2
 have HSA:=Lib.hid (show SA w kp (kp+1) (.slice a1 n1 c1) (.slice a2 n c2) w2 from ⟨B2,r1,_,rfl,r2⟩)
 have HC2:=Lib.hid (own_weak hc2 B1.size)
 clear x0 x1 l1 b1 b2 B1 B2 r1 r2 hv1 hc2 HRy HJ1 HB HK1 HK2
 refine wp_region_held_drew (S:=SA w kp (kp+1) (.slice a1 n1 c1) (.slice a2 n c2)) (by kernel_rfl) (HSA.out.below (L8.bdN (Below.refl _ _) 1)) (fun hH=>?_)
 refine zT3 0 28 (.fieldAddr 58 (.tmp 1) 0) (.pointer (some ⟨kp,0,none⟩)) rfl hH ?_
 simp only [zz]
 refine zT1 1 29 (.load 22 (.tmp 28)) (.slice a1 n1 c1) rfl (fun wS hS=>by obtain⟨d0,d1⟩:=L10.cells2p hS.2.1;go_simp) hH ?_
 simp only [zz]
 refine zT0 3 31 (.move (.tmp 8)) (.slice ca cl cc) rfl hH ?_
 simp only [zz]
 refine zT1 4 32 (.load 58 (.tmp 1)) (.agg #[.slice a1 n1 c1,.slice a2 n c2]) rfl (fun wS hS=>by obtain⟨d0,d1⟩:=L10.cells2p hS.2.1;go_simp) hH ?_
 simp only [zz]
 refine wpAnyH_ready (rs:=[2]) (by kernel_rfl) (by simp) ?_
 refine AllReadyH.cons (o:=⟨some 30,.call ⟨.value (.func 31),#[.tmp 29],#[22]⟩,_,_,_,none⟩) rfl (fun K hK=>?_) AllReadyH.nil
 go_simp
 refine (HCl.out _ hH.1).mono ?_
 rintro e w3 ⟨v3,rfl,o3,b3⟩
 obtain⟨ma,mc,rfl⟩:=owns_slice o3
 refine hK.out _ _ (hH.below b3) (fun hH3=>?_)
 have HM3:=Lib.hid (own_weak o3 hH.1.size)
 have HC3:=Lib.hid (L8.own_below HC2.out (L2.bch (L8.bdN (Below.refl _ _) 1) b3))
 clear hK K hH o3 b3 HC2 HCl
 (try simp only [zz])
 refine wpAnyH_ready (rs:=[5]) (by kernel_rfl) (by simp) ?_
 refine AllReadyH.cons (o:=⟨some 33,.call ⟨.value (.func 97),#[.tmp 32],#[58]⟩,_,_,_,none⟩) rfl (fun K hK=>?_) AllReadyH.nil
 go_simp
 refine (HRf.out _ hH3.1).mono ?_
 rintro e w4 ⟨u4,rfl,hr4,b4⟩
 obtain⟨ra,rc,rfl⟩:=owns_slice hr4
 refine hK.out _ _ (hH3.below b4) (fun hH4=>?_)
 have HM4:=Lib.hid (L8.own_below HM3.out b4)
 have HC4:=Lib.hid (L8.own_below HC3.out b4)
 have HR4:=Lib.hid (own_weak hr4 hH3.1.size)
 clear hK K hH3 hr4 b4 HM3 HC3 HRf
 (try simp only [zz])
 refine zT3 6 34 (.build 26 #[(0,.tmp 30),(1,.tmp 31),(2,.tmp 33)]) (.agg #[.slice ma n1 mc,.slice ca cl cc,.slice ra rl rc]) rfl hH4 ?_
 simp only [zz]
 refine wpAnyH_ready (rs:=[7]) (by kernel_rfl) (by simp) ?_
 refine AllReadyH.cons (o:=⟨none,.store 26 (.tmp 2) (.tmp 34),_,_,_,none⟩) rfl (fun K hK=>?_) AllReadyH.nil
 rw [if_pos (by kernel_rfl)]
 obtain⟨cs0,hcs0,hrow⟩:=hH4.2.2
 refine wp_store_row 26 (.tmp 2) (.tmp 34) rfl (kp+1) #[.slice ma n1 mc,.slice ca cl cc,.slice ra rl rc] rfl rfl 26 cs0 hrow (by kernel_rfl) hcs0 (by simp [Value.oneCell']) ?_
 have hset:=hH4.set HKP.out (by omega) #[.slice ma n1 mc,.slice ca cl cc,.slice ra rl rc] rfl
 refine hK.out _ _ hset.1 (fun hH5=>?_)
 have hob:ObOwn w.heap.size (w4.setRow (kp+1) #[.slice ma n1 mc,.slice ca cl cc,.slice ra rl rc]) (.slice ma n1 mc) (.slice ca cl cc) (.slice ra rl rc) p:=by
  refine⟨?_,?_,?_⟩
  ·rw [HN1.out.1];exact own_set HM4.out hrow (by decide)
  ·rw [HL.out.1];exact own_set HC4.out hrow (by decide)
  ·rw [HL.out.2];exact own_set HR4.out hrow (by decide)
 have HOB:=Lib.hid hob
 have HSE:=Lib.hid hset.2
 clear hK K hrow hset hob
 (try simp only [Act.put])
 refine zT0 8 3 (.assign (.const (.int .i64 0))) (.int .i64 0) rfl hH5 ?_
 simp only [zz]
 refine zT0 9 4 (.assign (.const (.int .i64 0))) (.int .i64 0) rfl hH5 ?_
 simp only [zz]
 refine wpAnyH_done (by kernel_rfl) ?_ _
 go_wp2
 obtain⟨z0,z1,z2⟩:=cells3 HSE.out
 exact bodyPost_ret (v:=.tuple #[.agg #[.slice ma n1 mc,.slice ca cl cc,.slice ra rl rc],.int .i64 0,.int .i64 0]) (by simp [results,Tryz.results58,go_sem,z0,z1,z2]) rfl ⟨.inr ⟨rfl,_,_,_,rfl,HOB.out⟩,hH5.1⟩
end Go.Proofs.YtdgnjhhieemcaaaGreatDoor.L13
