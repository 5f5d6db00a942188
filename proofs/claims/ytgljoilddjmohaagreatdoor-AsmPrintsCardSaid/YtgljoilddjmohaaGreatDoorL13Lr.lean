/- The walk of the law on the text of a program: it is assembled alike from its text and from its other text. Conditions: the tables read as the program's text lays them; internal/bytealg.MaxLen holds some integer. -/
import Derived.Test.YtgljoilddjmohaaGreatDoorM33
import Derived.Test.YtgljoilddjmohaaGreatDoorM26
import Derived.Test.YtgljoilddjmohaaGreatDoorM22
import Derived.Test.YtgljoilddjmohaaGreatDoorShelq
set_option maxRecDepth 100000
set_option maxHeartbeats 8000000
namespace Go.Proofs.YtgljoilddjmohaaGreatDoor.L13
open Go.RowKit Go.Shelf L3 L4 L12
open L10 (Stm Pg)
open L11 (pgT liT lnT slT lfB)
attribute [local go_sem] Oper.semAt_some
theorem sl_lines:∀ l:List Stm,(l.flatMap slT).length=l.length+L10.lsum l
 | []=>rfl
 | s::r=>by
  rw [List.flatMap_cons,List.length_append,sl_lines r,L10.lsum,List.length_cons]
  simp only [slT,List.length_append,List.length_map,List.length_cons,List.length_nil]
  omega
theorem lf_liT:∀ l:List ByteArray,(∀ t∈l,(10:UInt8)∉t.data.toList)→Lib.countByte (liT l).data.toList 10=l.length
 | [],_=>rfl
 | t::r,h=>by
  have e:(liT (t::r)).data.toList=t.data.toList++10::(liT r).data.toList:=by simp [liT,lfB]
  have ih:=lf_liT r (fun x hx=>h x (by simp [hx]))
  have h0:t.data.toList.count (10:UInt8)=0:=List.count_eq_zero.2 (h t (by simp))
  unfold Lib.countByte at ih ⊢
  rw [e,List.count_append,List.count_cons_self,h0,ih,List.length_cons]
  omega
theorem pg_small {p:Pg} (h:(L10.brV p).2.2=0) (hf:p.maps.length≤300∧p.stmts.length≤60∧L10.lsum p.stmts≤200):(pgT p).size≤54840∧Lib.countByte (pgT p).data.toList 10≤560:=by
 have h1:=L11.pgT_size h
 have h2:=L11.sw_vd p.stmts (fun s hs=>(L11.stE_ok s ((L11.brV_parts h).2 s hs)).lb)
 have h3:=lf_liT (lnT p) (L11.lnT_lf h)
 have h4:=sl_lines p.stmts
 refine⟨by omega,?_⟩
 unfold pgT
 rw [h3]
 unfold lnT
 rw [List.length_append,List.length_map,h4]
 omega
def cmT (p:Pg):ByteArray:=⟨(cmF (pgT p).data.toList).toArray⟩
def otT (p:Pg):ByteArray:=⟨(L11.rpF nwR (cmF (pgT p).data.toList)).toArray⟩
theorem cm_size {p:Pg} (h:(L10.brV p).2.2=0) (hf:p.maps.length≤300∧p.stmts.length≤60∧L10.lsum p.stmts≤200):(cmT p).size≤82260:=by
 have h1:=(pg_small h hf).1
 have h2:=(cmF_len (pgT p).data.toList).2
 have h3:=L8.size_list (pgT p)
 have h4:=L8.size_list (cmT p)
 have e:(cmT p).data.toList=cmF (pgT p).data.toList:=rfl
 rw [e] at h4
 omega
theorem ot_size {p:Pg} (h:(L10.brV p).2.2=0) (hf:p.maps.length≤300∧p.stmts.length≤60∧L10.lsum p.stmts≤200):(otT p).size≤85060:=by
 have h1:=(pg_small h hf).2
 have h2:=cm_size h hf
 have h3:=L8.size_list (cmT p)
 have h4:=L8.size_list (otT p)
 have e1:(cmT p).data.toList=cmF (pgT p).data.toList:=rfl
 have e2:(otT p).data.toList=L11.rpF nwR (cmF (pgT p).data.toList):=rfl
 have h5:=rp_le nwR (by decide) (cmF (pgT p).data.toList)
 have h6:=cm_lf _ (pgT p).data.toList (Nat.le_refl _)
 rw [h6,show nwR.length-1=5 from rfl] at h5
 rw [e1] at h3
 rw [e2] at h4
 omega
theorem room_ra (s old new:ByteArray) (h1:1≤old.size) (hs:s.size≤1000000) (hn:new.size≤10):s.size+Lib.countB s old*new.size≤140737488355328:=by
 have h2:=Lib.countB_le old h1 s.size s (Nat.le_refl _)
 have h3:Lib.countB s old*new.size≤1000000*10:=Nat.mul_le_mul (by omega) hn
 omega
theorem repl_cm (T:ByteArray) (w:World) (ht:T.size≤1000000) (hM:∃ m,w.cell? ⟨2,0,none⟩=some (.int .i64 m)) :
  Calls Tryz.prog 18 #[.string T,.string ⟨#[44,32]⟩,.string ⟨#[9,32,44]⟩] w fun e w'=>e=.returned (.string ⟨(cmF T.data.toList).toArray⟩)∧Below w.heap.size w w':=by
 obtain⟨m,hm⟩:=hM
 have h:=Tryz.strings_ReplaceAll T ⟨#[44,32]⟩ ⟨#[9,32,44]⟩ m w (by omega) hm (by decide) (room_ra _ _ _ (by decide) ht (by decide))
 rw [show Lib.replaceAll T.data.toList (⟨#[44,32]⟩:ByteArray).data.toList (⟨#[9,32,44]⟩:ByteArray).data.toList=cmF T.data.toList from ra_cm _] at h
 exact h
theorem repl_rp (T:ByteArray) (w:World) (ht:T.size≤1000000) (hM:∃ m,w.cell? ⟨2,0,none⟩=some (.int .i64 m)) :
  Calls Tryz.prog 18 #[.string T,.string ⟨#[10]⟩,.string ⟨#[13,32,35,32,120,10]⟩] w fun e w'=>e=.returned (.string ⟨(L11.rpF nwR T.data.toList).toArray⟩)∧Below w.heap.size w w':=by
 obtain⟨m,hm⟩:=hM
 have h:=Tryz.strings_ReplaceAll T ⟨#[10]⟩ ⟨#[13,32,35,32,120,10]⟩ m w (by omega) hm (by decide) (room_ra _ _ _ (by decide) ht (by decide))
 rw [show Lib.replaceAll T.data.toList (⟨#[10]⟩:ByteArray).data.toList (⟨#[13,32,35,32,120,10]⟩:ByteArray).data.toList=L11.rpF nwR T.data.toList from ra_rp _] at h
 exact h
theorem max_below {w w':World} (hM:∃ m,w.cell? ⟨2,0,none⟩=some (.int .i64 m)) (hb:Below w.heap.size w w'):∃ m,w'.cell? ⟨2,0,none⟩=some (.int .i64 m):=by
 obtain⟨m,hm⟩:=hM
 exact⟨m,(hb.cell (World.block_lt_of_cell? _ _ hm)).trans hm⟩
theorem te_one {w w':World} {p:Pg} {e:Ending} (h:TeP w p e w'):∃ a1 c1 a2 c2 a3 c3,e=.returned (.tuple #[.agg #[.slice a1 (obV p).maps.length c1,.slice a2 (obV p).code.length c2,.slice a3 (obV p).rels.length c3],.int .i64 0,.int .i64 0])∧ObAt w' (.slice a1 (obV p).maps.length c1) (.slice a2 (obV p).code.length c2) (.slice a3 (obV p).rels.length c3) (obV p)∧Below w.heap.size w w':=by
 obtain⟨vm,vc,vr,rfl,h3,h2⟩:=h
 have h4:=h3.at
 obtain⟨a1,c1,a2,c2,a3,c3,rfl,rfl,rfl⟩:=ob_form h4
 exact⟨_,_,_,_,_,_,rfl,h4,h2⟩
theorem text_is (T:ByteArray) (p:Pg) (sl:List Int) (ln:Int) (w:World) (hT:T13 w) (hs:T.size≤99990) (hz:(L10.brV p).2.2=0) (hf:L10.Fits p) (hm:p.stmts.length≤6000) (hpa:L10.paV T=(p,sl,ln,0)) :
  Calls Tryz.prog 17 #[.string T] w fun e w'=>TeP w p e w' :=
 text_ok T w p sl ln hz hf hm hT.two (fun X hX=>L10.parse_at T X hs (hT.below hX).two (hT.below hX).big _ hpa)
theorem pa_ot (p:Pg) (h:(L10.brV p).2.2=0):∃ sl ln,L10.paV (⟨#[10]⟩++otT p)=(p,sl,ln,0):=pa_other p h _ (by simp [otT])
theorem prints_walk (vm vs:Value) (p:Pg) (w:World) (hT:L11.Tb w) (hM:∃ m,w.cell? ⟨2,0,none⟩=some (.int .i64 m)) (hp:L10.PgAt w vm vs p) (hf:L10.PgFit p) (hr:∀ s∈p.stmts,L10.TxRoom s.labs) :
  Calls Tryz.prog 5 #[.agg #[vm,vs]] w fun e w'=>e=.returned (.bool true)∧Below w.heap.size w w':=by
 obtain⟨f1,hf1,F1⟩:=L10.few_ex vm vs p w hp hr
 have hT13:T13 w:=⟨hT.two,by have:=hT.big;omega⟩
 have HA:=Lib.hid (fun W hb=>alive13 W (hT13.below hb))
 have HTB:=Lib.hid (fun W hb=>hT.below (w':=W) hb)
 have HT3:=Lib.hid (fun W hb=>hT13.below (w':=W) hb)
 have HMX:=Lib.hid (fun W hb=>max_below (w':=W) hM hb)
 have HP:=Lib.hid hp
 have HFT:=Lib.hid hf
 obtain⟨n1,hn1⟩:∃ n,p.maps.length=n:=⟨_,rfl⟩
 obtain⟨n2,hn2⟩:∃ n,p.stmts.length=n:=⟨_,rfl⟩
 obtain⟨a1,c1,rfl,-⟩:=L10.df_form hn1 hp.1
 obtain⟨a2,c2,rfl,-⟩:=L10.sm_form hn2 hp.2
 have HB:=Lib.hid (L8.bnew w (.cells #[.slice a1 n1 c1,.slice a2 n2 c2] 25))
 have K0:=Lib.hid (heap_alloc_last w (.cells #[.slice a1 n1 c1,.slice a2 n2 c2] 25))
 have HF1:=Lib.hid F1
 have HM:=Lib.hid hf1
 have HN:=Lib.hid hn2
 clear hT hT13 hM F1 hp hf hr hn1 hn2 hf1
 cases f1
 ·go_enter Tryz.func5,Tryz.ntmps5
  go_wp2_with (first
   | (go_at_call 8;((with_reducible refine (HF1.out _ HB.out).mono ?_);rintro e w1 ⟨rfl,b1⟩))
   | (go_at_call 9;((with_reducible refine (HA.out _ (L2.bch HB.out b1)).mono ?_);rintro e w2 ⟨rfl,b2⟩)))
  go_ret
  exact⟨rfl,L2.bch (L2.bch HB.out b1) b2⟩
 have hfew:=HM.out rfl
 have hft:=L10.fits_few HFT.out hfew
 have hm:=hfew.2.1
 rw [HN.out] at hm
 obtain⟨b,k,er,hbr⟩:∃ b k er,L10.brV p=(b,k,er):=⟨_,_,_,rfl⟩
 have HRr:=Lib.hid (fun (X:World) (hX:Below w.heap.size w X)=>(rassemble_at (.slice a1 n1 c1) (.slice a2 n2 c2) p n2 X (HP.out.below hX) HFT.out hfew HN.out b k er hbr).mono fun _ _ h=>ra_one h)
 by_cases hz:er=0
 ·rw [hz] at hbr HRr
  have hz0:(L10.brV p).2.2=0:=by rw [hbr]
  simp only [if_true] at HRr
  have hl:ObS (obV p):=obV_s hft (by rw [HN.out];omega)
  have hsz:=L11.few_size hz0 hfew
  have hsz2:=cm_size hz0 hfew
  have hsz3:=ot_size hz0 hfew
  have HPR:=Lib.hid (fun W (hb:Below w.heap.size w W)=>L11.program_ok (.slice a1 n1 c1) (.slice a2 n2 c2) p W (HP.out.below hb) hft (HTB.out W hb) (L11.few_room hz0 hfew) hz0)
  obtain⟨sl,hpa⟩:=L11.pa_text p hz0
  obtain⟨sl2,ln2,hpa2⟩:=pa_ot p hz0
  have h6:p.stmts.length≤6000:=by rw [HN.out];omega
  have HT1:=Lib.hid (fun W (hb:Below w.heap.size w W)=>(text_is (pgT p) p sl 0 W (HT3.out W hb) hsz hz0 hft h6 hpa).mono fun _ _ h=>te_one h)
  obtain⟨T2,hT2⟩:∃ T2,(⟨#[10]⟩++otT p:ByteArray)=T2:=⟨_,rfl⟩
  have hsz4:T2.size≤99990:=by rw [← hT2,ByteArray.size_append,show (⟨#[10]⟩:ByteArray).size=1 from rfl];omega
  rw [hT2] at hpa2
  have HT2:=Lib.hid (fun W (hb:Below w.heap.size w W)=>(text_is T2 p sl2 ln2 W (HT3.out W hb) hsz4 hz0 hft h6 hpa2).mono fun _ _ h=>te_one h)
  have HC1:=Lib.hid (fun W (hb:Below w.heap.size w W)=>repl_cm (pgT p) W (by omega) (HMX.out W hb))
  have HC2:=Lib.hid (fun W (hb:Below w.heap.size w W)=>repl_rp (cmT p) W (by omega) (HMX.out W hb))
  have ec:(⟨(cmF (pgT p).data.toList).toArray⟩:ByteArray)=cmT p:=rfl
  have eo:(⟨(L11.rpF nwR (cmT p).data.toList).toArray⟩:ByteArray)=otT p:=rfl
  rw [ec] at HC1
  rw [eo] at HC2
  generalize obV p=O at HRr HT1 HT2 hl
  generalize pgT p=T at HPR HT1 HC1
  generalize cmT p=C at HC1 HC2
  have hro:(otT p).size≤85060:=hsz3
  generalize otT p=R at HC2 hT2 hro
  rw [← hT2] at HT2
  have HSm:=Lib.hid (fun (v1 v2 v3 u1 u2 u3:Value) W h h'=>rsame13_at v1 v2 v3 u1 u2 u3 O O true W h h' hl hl (by simp))
  generalize O.maps.length=m1 at HRr HT1 HT2
  generalize O.code.length=m2 at HRr HT1 HT2
  generalize O.rels.length=m3 at HRr HT1 HT2
  clear hT2 h6 hz0 hfew hft hpa hpa2 hsz hsz2 hsz3 hsz4 hbr hz hm hl ec eo
  have hro':((R.size:Nat):Int)≤85060:=by omega
  go_enter Tryz.func5,Tryz.ntmps5
  go_upto_region 3 with (go_at_call 8;((with_reducible refine (HF1.out _ HB.out).mono ?_);rintro e w1 ⟨rfl,b1⟩;have B1:=L2.bch HB.out b1;have r1:=L8.row_up K0.out b1;obtain⟨x0,x1⟩:=L10.cells2p r1;have lx:=lt_of_block r1))
  go_upto_region 4 with (go_at_call 14;((with_reducible refine (HRr.out _ B1).mono ?_);rintro e w2 ⟨d1,e1,d2,e2,d3,e3,rfl,ho,b2⟩))
  have hk1:=heap_alloc_last w2 (obC (.slice d1 m1 e1) (.slice d2 m2 e2) (.slice d3 m3 e3))
  have n1':=L8.bnew w2 (obC (.slice d1 m1 e1) (.slice d2 m2 e2) (.slice d3 m3 e3))
  have ho1:=ho.below n1'
  have B2:=L2.bch B1 (L2.bch b2 n1')
  have r2:=L8.row_up r1 (L2.bch b2 n1')
  obtain⟨q1,hq1⟩:∃ q,w2.heap.size=q:=⟨_,rfl⟩
  rw [hq1] at hk1 ⊢
  clear hq1 n1' ho b2 x0 x1 lx r1 B1 b1
  generalize w2.alloc (.cells _ 38)=W2 at hk1 ho1 B2 r2 ⊢
  obtain⟨x0,x1⟩:=L10.cells2p r2
  have lx:=lt_of_block r2
  go_upto_region 7 with (go_at_call 16;((with_reducible refine (HPR.out _ B2).mono ?_);rintro e w3 ⟨rfl,b3⟩;have B3:=L2.bch B2 b3))
  go_upto_region 8 with (go_at_call 17;((with_reducible refine (HT1.out _ B3).mono ?_);rintro e w4 ⟨g1,f1,g2,f2,g3,f3,rfl,hq,b4⟩))
  have hk2:=heap_alloc_last w4 (obC (.slice g1 m1 f1) (.slice g2 m2 f2) (.slice g3 m3 f3))
  have n2':=L8.bnew w4 (obC (.slice g1 m1 f1) (.slice g2 m2 f2) (.slice g3 m3 f3))
  have hq1:=hq.below n2'
  have c4:=L2.bch b3 (L2.bch b4 n2')
  have ho2:=ho1.below c4
  have B4:=L2.bch B2 c4
  have hk1':=L8.row_up hk1 c4
  obtain⟨q2,hq2⟩:∃ q,w4.heap.size=q:=⟨_,rfl⟩
  rw [hq2] at hk2 ⊢
  clear hq2 n2' hq b3 b4 c4 x0 x1 lx r2 B2 B3 hk1 ho1
  generalize w4.alloc (.cells _ 38)=W4 at hq1 ho2 B4 hk1' hk2 ⊢
  go_upto_region 9 with (first
   | (go_at_call 18;((with_reducible refine (HC1.out _ B4).mono ?_);rintro e w5 ⟨rfl,b5⟩;have B5:=L2.bch B4 b5))
   | (go_at_call 18;((with_reducible refine (HC2.out _ B5).mono ?_);rintro e w6 ⟨rfl,b6⟩;have B6:=L2.bch B5 b6))
   | (go_at_call 17;((with_reducible refine (HT2.out _ B6).mono ?_);rintro e w7 ⟨h1,i1,h2,i2,h3,i3,rfl,hs,b7⟩)))
  have hk3:=heap_alloc_last w7 (obC (.slice h1 m1 i1) (.slice h2 m2 i2) (.slice h3 m3 i3))
  have n3':=L8.bnew w7 (obC (.slice h1 m1 i1) (.slice h2 m2 i2) (.slice h3 m3 i3))
  have c7:=L2.bch (L2.bch b5 b6) (L2.bch b7 n3')
  have HS:=Lib.hid (hs.below n3')
  have HQ:=Lib.hid (hq1.below c7)
  have HO:=Lib.hid (ho2.below c7)
  have HB7:=Lib.hid (L2.bch B4 c7)
  have HK1:=Lib.hid (L8.row_up hk1' c7)
  have HK2:=Lib.hid (L8.row_up hk2 c7)
  have HK3:=Lib.hid hk3
  obtain⟨q3,hq3⟩:∃ q,w7.heap.size=q:=⟨_,rfl⟩
  rw [hq3] at HK3 ⊢
  clear hq3 n3' hs b5 b6 b7 c7 B4 B5 B6 hk1' hk2 hk3 hq1 ho2
  generalize w7.alloc (.cells _ 38)=W7 at HS HQ HO HB7 HK1 HK2 HK3 ⊢
  go_wp2_with (first
   | (go_at_call 9;((with_reducible refine (HA.out _ HB7.out).mono ?_);rintro e w8 ⟨rfl,b8⟩;have B8:=L2.bch HB7.out b8;have s1:=L8.row_up HK1.out b8;have s2:=L8.row_up HK2.out b8;have s3:=L8.row_up HK3.out b8;obtain⟨x0,x1,x2⟩:=cells3 s1;obtain⟨y0,y1,y2⟩:=cells3 s2;obtain⟨z0,z1,z2⟩:=cells3 s3;have lx:=lt_of_block s1;have ly:=lt_of_block s2;have lz:=lt_of_block s3;have o4:=HO.out.below b8;have q4:=HQ.out.below b8;have t4:=HS.out.below b8))
   | (go_at_call 15;((with_reducible refine (HSm.out _ _ _ _ _ _ _ q4 o4).mono ?_);rintro e w9 ⟨rfl,b9⟩;have B9:=L2.bch B8 b9;have s1':=L8.row_up s1 b9;have s3':=L8.row_up s3 b9;clear x0 x1 x2 y0 y1 y2 z0 z1 z2 lx ly lz;obtain⟨x0,x1,x2⟩:=cells3 s1';obtain⟨z0,z1,z2⟩:=cells3 s3';have lx:=lt_of_block s1';have lz:=lt_of_block s3';have o5:=o4.below b9;have t5:=t4.below b9))
   | (go_at_call 15;((with_reducible refine (HSm.out _ _ _ _ _ _ _ t5 o5).mono ?_);rintro e w10 ⟨rfl,b10⟩)))
  go_ret
  exact⟨rfl,L2.bch B9 b10⟩
 ·rw [if_neg hz,if_neg hz] at HRr
  have hne:(er != 0)=true:=by simpa using hz
  clear hfew hft hm hbr
  go_enter Tryz.func5,Tryz.ntmps5
  go_upto_region 3 with (go_at_call 8;((with_reducible refine (HF1.out _ HB.out).mono ?_);rintro e w1 ⟨rfl,b1⟩;have B1:=L2.bch HB.out b1;have r1:=L8.row_up K0.out b1;obtain⟨x0,x1⟩:=L10.cells2p r1;have lx:=lt_of_block r1))
  go_upto_region 4 with (go_at_call 14;((with_reducible refine (HRr.out _ B1).mono ?_);rintro e w2 ⟨d1,e1,d2,e2,d3,e3,rfl,ho,b2⟩))
  have n1':=L8.bnew w2 (obC (.slice d1 oZ.maps.length e1) (.slice d2 oZ.code.length e2) (.slice d3 oZ.rels.length e3))
  have B2:=L2.bch B1 (L2.bch b2 n1')
  clear n1' ho b2 x0 x1 lx r1 B1 b1
  generalize w2.alloc (.cells _ 38)=W2 at B2 ⊢
  go_wp2_with (go_at_call 9;((with_reducible refine (HA.out _ B2).mono ?_);rintro e w3 ⟨rfl,b3⟩))
  go_ret
  exact⟨rfl,L2.bch B2 b3⟩
end Go.Proofs.YtgljoilddjmohaaGreatDoor.L13
