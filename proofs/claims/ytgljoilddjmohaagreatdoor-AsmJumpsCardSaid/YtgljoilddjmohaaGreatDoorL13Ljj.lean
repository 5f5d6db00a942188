/- The walk of the law on jumps. Condition: the tables read as the program's text lays them. -/
import Derived.Test.YtgljoilddjmohaaGreatDoorL13Lj
import Derived.Test.YtgljoilddjmohaaGreatDoorJ3
import Derived.Test.YtgljoilddjmohaaGreatDoorJ1
import Derived.Test.YtgljoilddjmohaaGreatDoorJ2
set_option maxRecDepth 100000
set_option maxHeartbeats 8000000
namespace Go.Proofs.YtgljoilddjmohaaGreatDoor.L13
open Go.RowKit Go.Shelf L3 L4 L12
open L10 (Stm Pg jmI fmI lbK)
attribute [local go_sem] Oper.semAt_some
theorem smN_op:∀ l m:List L9.Ins,l.map (·.op)=m.map (·.op)→smN l=smN m
 | [],[],_=>rfl
 | [],y::m,h=>by simp at h
 | x::l,[],h=>by simp at h
 | x::l,y::m,h=>by
  simp only [List.map_cons,List.cons.injEq] at h
  rw [smN,smN,smN_op l m h.2]
  unfold slN
  rw [h.1]
theorem stN_op (l m:List L9.Ins) (h:l.map (·.op)=m.map (·.op)) (i:Nat):stN l i=stN m i:=by
 unfold stN
 refine smN_op _ _ ?_
 rw [List.map_take,List.map_take,h]
theorem rsL_ops (p:Pg):(rsL p).map (·.op)=(cdL p.stmts).map (·.op):=by
 apply List.ext_getElem
 ·rw [List.length_map,List.length_map,rsL_len,cdL_len]
 ·intro i h1 h2
  rw [List.length_map,rsL_len] at h1
  rw [List.getElem_map,List.getElem_map,rsL_get p i h1,cdL_get p.stmts i h1,rsI_op]
theorem slo_pos {f:Int} (hf:IsF f) (h:f≠-1):1≤slo f:=by
 rcases hf with rfl|rfl|rfl|rfl|rfl|rfl|rfl|rfl|rfl|rfl|rfl|rfl|rfl
 ·exact absurd rfl h
 all_goals decide
theorem slN_ne {x:L9.Ins} (h:(tI x).err=0):slN x≠0:=by
 have h1:=(L11.chk_all h).1
 have h2:frm (ix x.op)≠-1:=h1
 have h3:=slo_pos (frm_isF x.op) h2
 have h4:=slN_int x
 omega
theorem ta_lab (p:Pg) (hz:(L10.brV p).2.2=0) (hm:p.stmts.length≤10000) (k:Nat) (hk:k<p.stmts.length) (hj:jmI p.stmts[k].x=true):taV (rsL p) (k:Int) (dsI p k p.stmts[k])=(lbK p.stmts p.stmts[k].tg p.stmts.length,true):=by
 have hg:=good_of hz _ (List.getElem_mem hk)
 have h0:=hg.lab hj
 have h1:=(L10.lbK_lt p.stmts p.stmts[k].tg p.stmts.length).2
 obtain⟨R,hR⟩:∃ R:Nat,lbK p.stmts p.stmts[k].tg p.stmts.length=(R:Int):=⟨(lbK p.stmts p.stmts[k].tg p.stmts.length).toNat,by omega⟩
 have hRn:R<p.stmts.length:=by omega
 have hd:dsI p k p.stmts[k]=(diV (rsL p) (k:Int) (R:Int)).1:=by
  unfold dsI diV
  have b1:inB (rsL p).length (k:Int)=true:=by rw [rsL_len];unfold inB;simp;omega
  have b2:inB (rsL p).length (R:Int)=true:=by rw [rsL_len];unfold inB;simp;omega
  rw [b1,b2,hR]
  simp only [Bool.and_self,if_true,Int.toNat_natCast]
  rw [stN_op _ _ (rsL_ops p),stN_op _ _ (rsL_ops p)]
 rw [hd,hR]
 exact ta_di (rsL p) k R (by rw [rsL_len];exact hk) (by rw [rsL_len];exact hRn) (by rw [rsL_len];omega) (fun x hx=>slN_ne (rsL_err hz hm _ (List.mem_map.2 ⟨x,hx,rfl⟩)))
theorem all_code (v:Value) (p:Pg) (n:Nat) (hn:p.stmts.length=n) (hz:(L10.brV p).2.2=0) (hm:n≤6000) (w:World) (hw:L1.Wid w) (hv:L5.BsAt w v (cdB p)) :
  Calls Tryz.prog 19 #[v] w fun e w'=>∃ a c,e=.returned (.tuple #[.slice a n c,.int .i64 0,.int .i64 0])∧IsAt w' (.slice a n c) (rsL p)∧Below w.heap.size w w':=by
 obtain⟨h1,h2⟩:=L5.rds_enc ((rsL p).map tI) (cdB p).length 0 (Nat.le_refl _) (rsL_err hz (by omega)) (rsL_fits hz (by omega))
 have hl:=cdB_le p n hn
 have hlen:(L5.rds (cdB p).length 0 (cdB p)).length=n:=by
  have:=congrArg List.length h1
  rw [List.length_map,List.length_map,rsL_len,hn] at this
  exact this
 refine (L5.all_ok v (cdB p) (L5.rds (cdB p).length 0 (cdB p)) n w hw (by omega) hv rfl h2 hlen).mono fun e w' h=>?_
 obtain⟨a,c,rfl,hi,hb⟩:=h
 refine⟨a,c,rfl,?_,hb⟩
 have h3:(L5.rds (cdB p).length 0 (cdB p)).map (fun r=>r.x)=(rsL p).map tI:=h1
 rw [h3] at hi
 exact in_is hi
theorem jumps_walk (vm vs:Value) (p:Pg) (w:World) (hT:T13 w) (hp:L10.PgAt w vm vs p) (hf:L10.PgFit p) (hr:∀ s∈p.stmts,L10.TxRoom s.labs) :
  Calls Tryz.prog 6 #[.agg #[vm,vs]] w fun e w'=>e=.returned (.bool true)∧Below w.heap.size w w':=by
 obtain⟨f1,hf1,F1⟩:=L10.few_ex vm vs p w hp hr
 have HA:=Lib.hid (fun W hb=>alive13 W (hT.below hb))
 have HTB:=Lib.hid (fun W hb=>hT.below (w':=W) hb)
 have HP:=Lib.hid hp
 have HFT:=Lib.hid hf
 obtain⟨n1,hn1⟩:∃ n,p.maps.length=n:=⟨_,rfl⟩
 obtain⟨n2,hn2⟩:∃ n,p.stmts.length=n:=⟨_,rfl⟩
 obtain⟨a1,c1,rfl,-⟩:=L10.df_form hn1 hp.1
 obtain⟨a2,c2,rfl,hc⟩:=L10.sm_form hn2 hp.2
 have HB:=Lib.hid (L8.bnew w (.cells #[.slice a1 n1 c1,.slice a2 n2 c2] 25))
 have K0:=Lib.hid (heap_alloc_last w (.cells #[.slice a1 n1 c1,.slice a2 n2 c2] 25))
 have HF1:=Lib.hid F1
 have HM:=Lib.hid hf1
 have HN:=Lib.hid hn2
 have HC:=Lib.hid hc
 clear hT F1 hp hf hr hn1 hn2 hf1 hc
 cases f1
 ·go_enter Tryz.func6,Tryz.ntmps6
  go_wp2_with (first
   | (go_at_call 8;((with_reducible refine (HF1.out _ HB.out).mono ?_);rintro e w1 ⟨rfl,b1⟩))
   | (go_at_call 9;((with_reducible refine (HA.out _ (L2.bch HB.out b1)).mono ?_);rintro e w2 ⟨rfl,b2⟩)))
  go_ret
  exact⟨rfl,L2.bch (L2.bch HB.out b1) b2⟩
 have hfew:=HM.out rfl
 have hft:=L10.fits_few HFT.out hfew
 have hm:=hfew.2.1
 rw [HN.out] at hm
 have HSml:=L10.sml_few hfew
 obtain⟨b,k,er,hbr⟩:∃ b k er,L10.brV p=(b,k,er):=⟨_,_,_,rfl⟩
 have HRa:=Lib.hid (fun (X:World) (hX:Below w.heap.size w X)=>(rassemble_at (.slice a1 n1 c1) (.slice a2 n2 c2) p n2 X (HP.out.below hX) HFT.out hfew HN.out b k er hbr).mono fun _ _ h=>ra_one h)
 by_cases h0:er=0
 case neg =>
  have h0':(er != 0)=true:=by simpa using h0
  generalize (if er=0 then obV p else oZ)=O at HRa
  generalize (if er=0 then 0 else (k:Int))=K at HRa
  clear hfew hft hm hbr HSml
  go_enter Tryz.func6,Tryz.ntmps6
  go_upto_region 3 with (go_at_call 8;((with_reducible refine (HF1.out _ HB.out).mono ?_);rintro e w1 ⟨rfl,b1⟩;have B1:=L2.bch HB.out b1;have r1:=L8.row_up K0.out b1;obtain⟨x0,x1⟩:=L10.cells2p r1;have lx:=lt_of_block r1))
  go_wp2_with (first
   | (go_at_call 14;((with_reducible refine (HRa.out _ B1).mono ?_);rintro e w2 ⟨d1,e1,d2,e2,d3,e3,rfl,ho,b2⟩;have B2:=L2.bch B1 (L2.bch b2 (L8.bnew w2 (obC (.slice d1 O.maps.length e1) (.slice d2 O.code.length e2) (.slice d3 O.rels.length e3))))))
   | (go_at_call 9;((with_reducible refine (HA.out _ B2).mono ?_);rintro e w3 ⟨rfl,b3⟩)))
  go_ret
  exact⟨rfl,L2.bch B2 b3⟩
 subst h0
 have hz:(L10.brV p).2.2=0:=by rw [hbr]
 have HAs:=Lib.hid (fun (X:World) (hX:Below w.heap.size w X)=>(assemble_at (.slice a1 n1 c1) (.slice a2 n2 c2) p n2 X (HP.out.below hX) hft HN.out (by omega) (HTB.out X hX).two b k 0 hbr).mono (fun e w' h=>show TeP X p e w' from by
  obtain⟨h1,h2⟩:=h
  rcases h1 with ⟨h1,-⟩|⟨-,vm,vc,vr,h1,h3⟩
  ·exact absurd rfl h1
  ·exact⟨vm,vc,vr,h1,h3,h2⟩))
 have HAl:=Lib.hid (fun (X:World) (hX:Below w.heap.size w X) (v:Value) (hv:L5.BsAt X v (cdB p))=>all_code v p n2 HN.out hz (by omega) X (HTB.out X hX).two.1 hv)
 have HTa:=Lib.hid (fun (X:World) (v:Value) (hv:IsAt X v (rsL p)) (q:Nat) (hq:q<p.stmts.length) (hj:jmI p.stmts[q].x=true)=>target_at v (rsL p) (q:Int) (dsI p q p.stmts[q]) (lbK p.stmts p.stmts[q].tg p.stmts.length) true X hv (by rw [rsL_len,HN.out];omega) (ta_lab p hz (by rw [HN.out];omega) q hq hj))
 have HLb:=Lib.hid (fun (X:World) (hX:Below w.heap.size w X) (t:ByteArray)=>L10.rlabel_at (.slice a1 n1 c1) (.slice a2 n2 c2) p t X (HP.out.below hX) HSml)
 have HG:=Lib.hid (good_of hz)
 obtain⟨g1,hg1⟩:∃ n,(obV p).maps.length=n:=⟨_,rfl⟩
 obtain⟨g2,hg2⟩:∃ n,(obV p).code.length=n:=⟨_,rfl⟩
 obtain⟨g3,hg3⟩:∃ n,(obV p).rels.length=n:=⟨_,rfl⟩
 have HRb:=Lib.hid (fun (X:World) (hX:Below w.heap.size w X)=>(HRa.out X hX).mono fun e w' h=>show ∃ a1 c1 a2 c2 a3 c3,e=.returned (.tuple #[.agg #[.slice a1 g1 c1,.slice a2 g2 c2,.slice a3 g3 c3],.int .i64 0,.int .i64 0])∧Below X.heap.size X w' from by
  obtain⟨u1,u2,u3,u4,u5,u6,h1,h2,h3⟩:=h
  subst hg1 hg2 hg3
  exact⟨u1,u2,u3,u4,u5,u6,h1,h3⟩)
 clear hfew hft hbr HSml hz HRa hg1 hg2 hg3
 go_enter Tryz.func6,Tryz.ntmps6
 go_upto_region 3 with (go_at_call 8;((with_reducible refine (HF1.out _ HB.out).mono ?_);rintro e w1 ⟨rfl,b1⟩;have B1:=L2.bch HB.out b1;have r1:=L8.row_up K0.out b1;obtain⟨x0,x1⟩:=L10.cells2p r1;have lx:=lt_of_block r1))
 go_upto_region 6 with (go_at_call 14;((with_reducible refine (HRb.out _ B1).mono ?_);rintro e w2 ⟨d1,e1,d2,e2,d3,e3,rfl,b2⟩))
 have n2':=L2.bch b2 (L8.bnew w2 (obC (.slice d1 g1 e1) (.slice d2 g2 e2) (.slice d3 g3 e3)))
 have B2:=L2.bch B1 n2'
 have r2:=L8.row_up r1 n2'
 clear n2' b2 x0 x1 lx r1 B1 b1
 generalize w2.alloc (.cells _ 38)=W2 at B2 r2 ⊢
 obtain⟨x0,x1⟩:=L10.cells2p r2
 have lx:=lt_of_block r2
 go_upto_region 7 with (go_at_call 13;((with_reducible refine (HAs.out _ B2).mono ?_);rintro e w3 ⟨vm3,vc3,vr3,rfl,ho,b3⟩;obtain⟨s1,t1,s2,t2,s3,t3,rfl,rfl,rfl⟩:=ho.form))
 have hbs:=L5.own_bytes ho.c
 obtain⟨u1,hu1⟩:∃ m,p.maps.length=m:=⟨_,rfl⟩
 obtain⟨u2,hu2⟩:∃ m,(cdB p).length=m:=⟨_,rfl⟩
 obtain⟨u3,hu3⟩:∃ m,(rfT p p.stmts.length).length=m:=⟨_,rfl⟩
 rw [hu2] at hbs
 rw [hu1,hu2,hu3]
 have hk3:=heap_alloc_last w3 (obC (.slice s1 u1 t1) (.slice s2 u2 t2) (.slice s3 u3 t3))
 have n3':=L8.bnew w3 (obC (.slice s1 u1 t1) (.slice s2 u2 t2) (.slice s3 u3 t3))
 have hbs1:=L5.BsAt.below hbs n3'
 have B3:=L2.bch B2 (L2.bch b3 n3')
 have r3:=L8.row_up r2 (L2.bch b3 n3')
 obtain⟨q3,hq3⟩:∃ q,w3.heap.size=q:=⟨_,rfl⟩
 rw [hq3] at hk3 ⊢
 clear hu1 hu2 hu3 n3' b3 x0 x1 lx r2 B2 ho hbs hq3
 generalize w3.alloc (.cells _ 38)=W3 at hk3 hbs1 B3 r3 ⊢
 obtain⟨y0,y1,y2⟩:=cells3 hk3
 have ly:=lt_of_block hk3
 go_upto_region 8 with (go_at_call 19;((with_reducible refine (HAl.out _ B3 _ hbs1).mono ?_);rintro e w4 ⟨la,lc,rfl,hli,b4⟩))
 have HLI:=Lib.hid hli
 have HB4:=Lib.hid (L2.bch B3 b4)
 have K4:=Lib.hid (L8.row_up r3 b4)
 obtain⟨la',lc',hlv,hlx⟩:=is_form (n:=n2) (by rw [rsL_len];exact HN.out) hli
 cases hlv
 have HLX:=Lib.hid hlx
 clear y0 y1 y2 ly hk3 hbs1 B3 r3 b4 hli hlx HRb HAs HAl
 obtain⟨x0,x1⟩:=L10.cells2p K4.out
 have lx:=lt_of_block K4.out
 have HI:=Lib.hid (Below.refl w4.heap.size w4)
 go_wp2
 go_loopw [59] (fun i wr=>∃ q:Nat,q≤n2∧i=.int .i64 (q:Int)∧Hid (Below w4.heap.size w4 wr)) (fun i _=>n2-(intOf i).toNat)
 case atStart=>exact⟨0,Nat.zero_le _,rfl,HI⟩
 case round =>
  obtain⟨q,hq,rfl,hI⟩:=hrel
  clear HI x0 x1 lx
  by_cases hlt:q<n2
  ·have hql:q<p.stmts.length:=by rw [HN.out];exact hlt
   obtain⟨sb,so,rfl,hsb,hc⟩:=HC.out (by omega)
   obtain⟨lv,hst,hx⟩:=hc q hql
   have up:∀ i u,(L10.smL lv p.stmts[q])[i]?=some u→wr.cell? ⟨sb,so+q*9+i,none⟩=some u:=fun i u hu=>((L2.bch HB4.out hI.out).cell (by exact hsb)).trans (hx i u hu)
   obtain⟨lb,lo,rfl,hlb,hcx⟩:=HLX.out (by omega)
   obtain⟨-,-,-,-,v4,-⟩:=hcx q (by rw [rsL_len];exact hql)
   rw [rsL_get p q hql] at v4
   have v4:=cell_up hI.out v4
   have HGq:=Lib.hid (HG.out _ (List.getElem_mem hql))
   have HTq:=Lib.hid (fun (X:World) (hX:Below wr.heap.size wr X) (hj:jmI p.stmts[q].x=true)=>HTa.out X _ (HLI.out.below (L2.bch hI.out hX)) q hql hj)
   have HRI:Hid (jmI p.stmts[q].x=true→(rsI p q p.stmts[q]).off=dsI p q p.stmts[q]):=Lib.hid (fun hj=>by unfold rsI;rw [if_pos hj])
   obtain⟨xo,hxo⟩:∃ xo,(rsI p q p.stmts[q]).off=xo:=⟨_,rfl⟩
   obtain⟨d,hd⟩:∃ d,dsI p q p.stmts[q]=d:=⟨_,rfl⟩
   rw [hd] at HTq HRI
   rw [hxo] at v4 HRI
   obtain⟨s,hs⟩:∃ s,p.stmts[q]=s:=⟨_,rfl⟩
   rw [hs] at hst up HGq HTq HRI
   obtain⟨ln,hln⟩:∃ ln,s.labs.length=ln:=⟨_,rfl⟩
   obtain⟨sla,slc,rfl,-⟩:=L10.st_form hln hst
   obtain⟨labs,⟨op,reg,dst,src,off,imm⟩,tg,mp⟩:=s
   have y0:=up 0 _ rfl
   have y1:=up 1 _ rfl
   have y2:=up 2 _ rfl
   have y3:=up 3 _ rfl
   have y4:=up 4 _ rfl
   have y5:=up 5 _ rfl
   have y6:=up 6 _ rfl
   have y7:=up 7 _ rfl
   have y8:=up 8 _ rfl
   rw [Nat.add_zero] at y0
   have hw1:=World.block_lt_of_cell? _ _ y0
   simp only at hw1
   have hqI:(q:Int)<(n2:Int):=by omega
   clear hx hc hst hs hln up hcx hxo hd
   simp only at HTq HRI
   go_upto_region 13 with (fail)
   have hX:=heap_alloc_last wr (.cells #[.slice sla ln slc,.int .i64 op,.bool reg,.int .i64 dst,.int .i64 src,.int .i64 off,.int .i64 imm,.string tg,.string mp] 52)
   have bn:=L8.bnew wr (.cells #[.slice sla ln slc,.int .i64 op,.bool reg,.int .i64 dst,.int .i64 src,.int .i64 off,.int .i64 imm,.string tg,.string mp] 52)
   have v4:=cell_up bn v4
   have HBq:=Lib.hid (L2.bch hI.out bn)
   have HBN:=Lib.hid bn
   obtain⟨kx,hkx⟩:∃ k,k=wr.heap.size:=⟨_,rfl⟩
   rw [← hkx] at hX ⊢
   clear y0 y1 y2 y3 y4 y5 y6 y7 y8 hw1 hkx bn
   generalize wr.alloc (.cells _ 52)=W5 at hX v4 HBq HBN ⊢
   obtain⟨z0,z1,z2,z3,z4,z5,z6,z7,z8⟩:=cl9 hX
   have lz:=lt_of_block hX
   have lv4:=World.block_lt_of_cell? _ _ v4
   simp only at lv4
   have hte:=HGq.out.jmp
   simp only at hte
   obtain⟨jb,hjb⟩:∃ jb,jmI (⟨op,reg,dst,src,off,imm⟩:L9.Ins)=jb:=⟨_,rfl⟩
   rw [hjb] at hte HTq HRI
   cases jb
   ·have hte2:tg.toList.isEmpty=true:=by simpa using hte.symm
    clear hte hX hjb
    go_wp2
    go_roundw
    case rel=>exact⟨q+1,by omega,by go_num,HBq⟩
    case measure=>simp [intOf];omega
   ·have hte2:tg.toList.isEmpty=false:=by simpa using hte.symm
    have hxo:=HRI.out rfl
    subst hxo
    have HT5:=Lib.hid (HTq.out W5 HBN.out rfl)
    have HX:=Lib.hid hX
    obtain⟨R,hR⟩:∃ R,lbK p.stmts tg p.stmts.length=R:=⟨_,rfl⟩
    rw [hR] at HT5
    have HL5:=Lib.hid (fun (X:World) (hX:Below w.heap.size w X)=>by have:=HLb.out X hX tg;rw [hR] at this;exact this)
    clear hte hX hjb hR
    go_upto_region 15 with (go_at_call 20;((with_reducible refine (HT5.out).mono ?_);rintro e w6 ⟨rfl,b6⟩))
    have B6:=Lib.hid (L2.bch HBq.out b6)
    obtain⟨p0,p1⟩:=L10.cells2p (L8.row_up K4.out B6.out)
    have lp:=World.block_lt_of_cell? _ _ p0
    have zt:=cl9 (L8.row_up HX.out b6)
    have t7:=zt.2.2.2.2.2.2.2.1
    have l7:=World.block_lt_of_cell? _ _ t7
    simp only at lp l7
    clear zt z0 z1 z2 z3 z4 z5 z6 z7 z8 v4 lv4 lz b6
    go_wp2_with (go_at_call 21;((with_reducible refine (HL5.out _ (L2.bch HB4.out B6.out)).mono ?_);rintro e w7 ⟨rfl,b7⟩))
    go_roundw
    case rel=>exact⟨q+1,by omega,by go_num,Lib.hid (L2.bch B6.out b7)⟩
    case measure=>simp [intOf];omega
  ·obtain rfl:q=n2:=by omega
   have HB9:=Lib.hid (L2.bch HB4.out hI.out)
   go_wp2_with (go_at_call 9;((with_reducible refine (HA.out _ HB9.out).mono ?_);rintro e w9 ⟨rfl,b9⟩))
   go_ret
   exact⟨rfl,L2.bch HB9.out b9⟩
end Go.Proofs.YtgljoilddjmohaaGreatDoor.L13
