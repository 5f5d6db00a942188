/- Lemmas and walks of L9Lab, L9Beh, L9Lin: what each theorem states; conditions stand in each theorem. -/
import Derived.Test.YtdgnjhhieemcaaaGreatDoorL9Run
import Derived.Test.YtdgnjhhieemcaaaGreatDoorL9Dcl
set_option maxHeartbeats 4000000
set_option maxRecDepth 100000
section
namespace Go.Proofs.YtdgnjhhieemcaaaGreatDoor.L9
open Go.RowKit
attribute [local go_sem] Oper.semAt_some
def lbV (t:ByteArray):Value:=.iface 205 (.agg #[.string t])
theorem Tryz.info203:(Tryz.prog.info? 203).map (fun i=>(i.zero,i.size,i.bytes))=some (some .nilIface,1,16):=by kernel_rfl
theorem two_shape {x y:ByteArray × Int} (hx:L8.TokT x.1.data.toList) (hy:L8.TokT y.1.data.toList):(((L8.shB [x,y]).toList==([119,58]:List UInt8)))=(wdB x.1 && decide (y.1=tCol)):=by
 have e:(L8.shB [x,y]).toList=[L8.shl1 x.1.data.toList,L8.shl1 y.1.data.toList]:=by rw [Lib.toList_data];rfl
 rw [e]
 have h1:=L8.shl1_w hx
 have h2:(L8.shl1 y.1.data.toList==58)=decide (y.1=tCol):=by
  rw [Bool.eq_iff_iff]
  constructor
  ·intro h
   have h58:L8.shl1 y.1.data.toList=58:=by simpa using h
   have hw:L8.isW y.1.data.toList=false:=by
    rw [← L8.shl1_w hy,h58];rfl
   have:=mark_of hw
   rw [h58] at this
   rw [this];rfl
  ·intro h
   have h':y.1=tCol:=by simpa using h
   rw [h'];rfl
 show (L8.shl1 x.1.data.toList==119 && (L8.shl1 y.1.data.toList==58 && true))=_
 rw [h1,h2,Bool.and_true];rfl
theorem sub_two (k o n cap:Nat) (h:2≤n) (hc:n≤cap) (w:World) :
  (Instr.slice 267 (.slice (some ⟨k,o,none⟩) n cap) none (some (.int .i64 2)) none).run Tryz.prog w=.ok (.slice (some ⟨k,o,none⟩) 2 cap) w:=by
 have h3:¬ cap=0:=by omega
 simp [go_sem,Tryz.underlying267,h3]
 intro hh;omega
def lenOf:Value→Nat
 | .slice _ n _=>n
 | _=>0
def LabP (xs:L8.Tks) (R:Int × List ByteArray × List ByteArray) (w:World) (e:Ending) (w':World):Prop:=Below w.heap.size w w'∧((R.1=0∧∃ v1 v2 ys,e=.returned (.tuple #[v1,v2,.int .i64 0])∧w'.ownsRow w.heap.size 203 1 v1 R.2.1.length (R.2.1.map lbV)∧L8.TksAt w' v2 ys∧txs ys=R.2.2∧∃ k,ys=xs.drop k)∨(R.1=7∧e=.returned (.tuple #[.slice none 0 0,.slice none 0 0,.int .i64 7])))
theorem lab_end {acc:List ByteArray} {ts:List ByteArray} (h:ts.length<2):lab acc ts=(0,acc,ts):=by
 match ts,h with
 | [],_=>rfl
 | [a],_=>rfl
 | _::_::_,h=>simp only [List.length_cons] at h;omega
theorem tok_head {x:ByteArray × Int} {r:L8.Tks} (h:∀ t∈L8.txt (x::r),L8.TokT t):L8.TokT x.1.data.toList∧∀ t∈L8.txt r,L8.TokT t:=⟨h _ (by simp [L8.txt]),fun t ht=>h t (by unfold L8.txt at ht ⊢;rw [List.map_cons];exact List.mem_cons_of_mem _ ht)⟩
theorem labels_at (v:Value) (xs:L8.Tks) (hm:xs.length≤100000) (hxt:∀ t∈L8.txt xs,L8.TokT t) (w:World) (hT:Tab w) (hv:L8.TksAt w v xs) (R:Int × List ByteArray × List ByteArray) (hR:lab [] (txs xs)=R) :
  Calls Tryz.prog 189 #[v] w fun e w'=>LabP xs R w e w':=by
 obtain⟨i0,hi,hz0,hz1,hz2⟩:=info_parts Tryz.info203
 have HT:=Lib.hid hT
 have h2:=hT.lt
 have HR:=Lib.hid hR
 have HX:=Lib.hid hxt
 have HV:=Lib.hid hv
 clear hT hR hxt hv
 go_enter Tryz.func189,Tryz.ntmps189
 go_wp2
 go_loopw [0,5] (fun lv iv wr=>∃ (m k:Nat) (ys:L8.Tks) (acc:List ByteArray),Hid (L8.TksAt w lv ys)∧Hid (ys=xs.drop k)∧ys.length+2*m≤100000∧Hid (lab acc (txs ys)=R)∧Hid (∀ t∈L8.txt ys,L8.TokT t)∧wr.ownsRow w.heap.size 203 1 iv m (acc.map lbV)∧Hid (acc.length=m)∧Below w.heap.size w wr∧Hid (∃ a n c,lv=.slice a n c∧n=ys.length)) (fun lv _ _=>lenOf lv)
 case atStart =>
  obtain⟨a,c,hf⟩:=HV.out.form
  exact⟨0,0,xs,[],HV,Lib.hid rfl,by omega,HR,HX,World.ownsRow_nil _ _ _ _,Lib.hid rfl,Below.refl _ _,Lib.hid ⟨a,_,c,hf,rfl⟩⟩
 case round =>
  obtain⟨m,k,ys,acc,hV,hK,hM,hL,hX,hown,hA,hB,hF⟩:=hrel
  obtain⟨a,n,c,rfl,hn⟩:=hF.out
  clear hF
  have HN:=Lib.hid hn
  clear hn
  by_cases hlt:2≤n
  ·obtain⟨b,o,rfl,hnc,hbw,hyl,hcw⟩:=hV.out.get (by omega)
   have hbl:b<wr.heap.size:=Nat.lt_of_lt_of_le hbw hB.size
   obtain⟨x0,x1,r,rfl⟩:∃ x0 x1 r,ys=x0::x1::r:=by
    match ys,hyl with
    | [],h=>simp at h;omega
    | [_],h=>simp at h;omega
    | x0::x1::r,_=>exact⟨x0,x1,r,rfl⟩
   obtain⟨T0,hT0⟩:∃ T,x0.1=T:=⟨_,rfl⟩
   have hcr:=hcw.below hbw hB
   have c0:wr.cell? ⟨b,o,none⟩=some (.string T0):=by
    have:=(hcr 0 (by simp)).1
    rw [← hT0];simpa using this
   have tk0:=tok_head hX.out
   have tk1:=tok_head tk0.2
   have hsub:=sub_two b o n c hlt hnc
   have hsl:∀ W,(Instr.slice 267 (.slice (some ⟨b,o,none⟩) n c) (some (.int .i64 2)) none none).run Tryz.prog W=.ok (.slice (some ⟨b,if c=2 then o else o+2*2,none⟩) (n-2) (c-2)) W:=sub_from b o n c 2 hlt hnc
   obtain⟨o2,ho2⟩:∃ o2,(if c=2 then o else o+2*2)=o2:=⟨_,rfl⟩
   rw [ho2] at hsl
   have HO:=Lib.hid ho2
   clear ho2
   have HSH0:=L8.shape8 [x0,x1] (.slice (some ⟨b,o,none⟩) 2 c) wr (by simp) (fun t ht=>by simp only [L8.txt,List.map_cons,List.map_nil,List.mem_cons,List.not_mem_nil,or_false] at ht;rcases ht with h|h;(rw [h];exact tk0.1);(rw [h];exact tk1.1)) (.inl ⟨b,o,c,rfl,by simp;omega,hbl,fun j hj=>by match j,hj with|0,_=>(have:=hcr 0 (by simp);simpa using this)|1,_=>(have:=hcr 1 (by simp);simpa using this)⟩)
   obtain⟨S,hS⟩:∃ S,L8.shB [x0,x1]=S:=⟨_,rfl⟩
   have t1:=two_shape tk0.1 tk1.1
   rw [hS] at t1 HSH0
   have HSH:=Lib.hid HSH0
   have hL1:=hL.out
   have etx:txs (x0::x1::r)=x0.1::x1.1::txs r:=rfl
   rw [etx,lab,hT0] at hL1
   rw [hT0] at t1
   cases hbb:(wdB T0 && decide (x1.1=tCol))
   ·rw [hbb] at t1
    have hcond:¬ (wdB T0=true∧x1.1=tCol):=fun h=>by rw [h.1,h.2] at hbb;cases hbb
    rw [if_neg hcond] at hL1
    have HL1:=Lib.hid hL1
    have HT0:=Lib.hid hT0
    clear hL1 hcond hbb hT0 hS HSH0 etx tk0 tk1 hcr hL
    go_wp2_with (go_at_call 226;((with_reducible refine (HSH.out).mono ?_);rintro e w1 ⟨rfl,b1⟩;have c1:=(b1.cell (p:=⟨b,o,none⟩) hbl).trans c0;clear c0;have hown1:=L8.own_below hown b1;have B1:=L2.bch hB b1))
    refine bodyPost_ret (v:=.tuple #[u5,.slice (some ⟨b,o,none⟩) n c,.int .i64 0]) (by simp [results,Tryz.results189,go_sem]) rfl ?_
    rw [← HL1.out]
    exact⟨B1,.inl ⟨rfl,u5,_,x0::x1::r,rfl,by rw [hA.out];exact hown1,(hV.out.below hB).below b1,by rw [← HT0.out];rfl,k,hK.out⟩⟩
   ·rw [hbb] at t1
    have hcond:wdB T0=true∧x1.1=tCol:=by simpa using hbb
    rw [if_pos hcond] at hL1
    cases hvd:L2.vd T0
    ·rw [hvd,if_neg Bool.false_ne_true] at hL1
     have HL1:=Lib.hid hL1
     have HID:=Lib.hid (fun W (hR:L2.Regs W)=>identifier_at T0 W hR eB 7 (by rw [hvd];rfl) (by unfold naV;rw [hvd];rfl))
     clear hL1 hcond hbb hT0 hS HSH0 etx tk0 tk1 hcr hL hvd
     go_wp2_with (first|(go_at_call 226;((with_reducible refine (HSH.out).mono ?_);rintro e w1 ⟨rfl,b1⟩;have c1:=(b1.cell (p:=⟨b,o,none⟩) hbl).trans c0;clear c0;have hown1:=L8.own_below hown b1;have B1:=L2.bch hB b1))|(go_at_call 227;((with_reducible refine (HID.out _ (HT.out.below B1 h2).reg).mono ?_);rintro e w2 ⟨rfl,b2⟩)))
     refine bodyPost_ret (v:=.tuple #[.slice none 0 0,.slice none 0 0,.int .i64 7]) (by simp [results,Tryz.results189,go_sem]) rfl ?_
     rw [← HL1.out]
     exact⟨L2.bch B1 b2,.inr ⟨rfl,rfl⟩⟩
    ·rw [hvd,if_pos rfl] at hL1
     have HL1:=Lib.hid hL1
     have HID:=Lib.hid (fun W (hR:L2.Regs W)=>identifier_at T0 W hR T0 0 (by rw [hvd];rfl) (by unfold naV;rw [hvd];rfl))
     have hKd:r=xs.drop (k+2):=by rw [← List.drop_drop,← hK.out];rfl
     have HKD:=Lib.hid hKd
     have HTK:=Lib.hid tk1.2
     have hln:r.length+2*(m+1)≤100000:=by have:=hM;simp only [List.length_cons] at this;omega
     clear hL1 hcond hbb hT0 hS HSH0 etx tk0 tk1 hcr hL hvd hKd hM
     go_wp2_with (first|(go_at_call 226;((with_reducible refine (HSH.out).mono ?_);rintro e w1 ⟨rfl,b1⟩;have c1:=(b1.cell (p:=⟨b,o,none⟩) hbl).trans c0;clear c0;have hown1:=L8.own_below hown b1;have B1:=L2.bch hB b1))|(go_at_call 227;((with_reducible refine (HID.out _ (HT.out.below B1 h2).reg).mono ?_);rintro e w2 ⟨rfl,b2⟩;have hown2:=L8.own_below hown1 b2;have B2:=L2.bch B1 b2;have B2s:=B2.size;clear c1))|(at_builtin;refine wpList_append_own _ rfl _ _ 199 rfl w.heap.size 203 i0 .nilIface 1 16 Tryz.underlying199 hi hz0 hz1 hz2 rfl (by decide) _ m _ rfl (hown2.alloc _) ⟨w2.heap.size,0,none⟩ 1 1 [.iface 205 (.agg #[.string T0])] rfl rfl (World.news_of_block (cs:=#[.iface 205 (.agg #[.string T0])]) (t:=203) (fr:=(0,0)) (heap_alloc_last w2 _)) (by simp [Value.oneCell']) (by unfold maxLen;omega) (by omega) (by simp;omega) ?_;intro v' w3 hown3 hgrow3 _))
     go_roundw
     case rel =>
      refine⟨m+1,k+2,r,acc++[T0],Lib.hid ?_,HKD,hln,HL1,HTK,?_,Lib.hid (by rw [List.length_append,hA.out];rfl),(L2.bch B2 (L8.bnew _ _)).grown hgrow3 (by simp;omega) (L8.own_base hown),Lib.hid ⟨_,_,_,rfl,by rw [HN.out];rfl⟩⟩
      ·rw [← HO.out]
       refine .inl ⟨b,_,c-2,by rw [HN.out];rfl,by simp only [List.length_cons] at hyl;omega,hbw,?_⟩
       exact tks_from hcw hyl hnc hlt
      ·rw [List.map_append];exact hown3
     case measure=>simp [lenOf];omega
  ·have hL1:=hL.out
   rw [lab_end (by rw [txs,List.length_map,← HN.out];omega)] at hL1
   have HL1:=Lib.hid hL1
   clear hL1 hL
   go_wp2
   refine bodyPost_ret (v:=.tuple #[u5,.slice a n c,.int .i64 0]) (by simp [results,Tryz.results189,go_sem]) rfl ?_
   rw [← HL1.out]
   exact⟨hB,.inl ⟨rfl,u5,_,ys,rfl,by rw [hA.out];exact hown,hV.out.below hB,rfl,k,hK.out⟩⟩
theorem inst_at (t:ByteArray) (b o n cap:Nat) (xs:L8.Tks) (w:World) (hT:Tab w) (hs:t.size≤maxLen) (hb:b<w.heap.size) (hc:L8.Tksat w b o xs) (hn:xs.length=n) (hcp:n≤cap) (hm:n≤100000) (hz:∀ t∈txs xs,t.size≤100000) (hxt:∀ t∈L8.txt xs,L8.TokT t) (c:Cod) (er:Int) (h:inV t (txs xs)=(c,er)) :
  Calls Tryz.prog 229 #[.string t,.slice (some ⟨b,o,none⟩) n cap] w fun e w'=>e=.returned (.tuple #[.agg (codA c.x c.tg c.mp),.int .i64 er])∧Below w.heap.size w w':=by
 unfold inV at h
 by_cases h1:fiV t<0
 ·rw [if_pos h1] at h
  cases h
  exact inst_no t _ w hs h1
 rw [if_neg h1] at h
 cases hk:(shV (L3.frm (L3.ix (fiV t)))).any (fun x=>decide (x=shpB (txs xs)))
 ·rw [if_pos hk] at h
  cases h
  exact inst_bad t b o n cap xs w hs hb hc hn hcp hm hz hxt h1 hk
 ·rw [if_neg (by rw [hk];simp)] at h
  obtain⟨k,hk86,e,f1,f2,hf⟩:=kin_f h1
  have ht:∀ t∈txs xs,L8.TokT t.data.toList:=fun t h=>hxt _ (by unfold L8.txt;unfold txs at h;rw [List.mem_map] at h ⊢;obtain⟨x,hx,rfl⟩:=h;exact⟨x,hx,rfl⟩)
  have hmem:shpB (txs xs)∈shV (L3.frm (L3.ix (fiV t))):=by
   rw [List.any_eq_true] at hk
   obtain⟨x,hx,hx2⟩:=hk
   rw [← (by simpa using hx2:x=shpB (txs xs))];exact hx
  have hO:=ops_of hf ht hmem
  exact inst_run t b o n cap xs w hT hs hb hc hn hcp hm hz hxt h1 hk (runs_ops (op:=fiV t) hO).1 c er h
def itB (t:ByteArray) (q:List ByteArray):Value × Int :=
 if t=mapT then (.iface 208 (.agg (dfA (dcV q).1)),(dcV q).2)
 else (.iface 211 (.agg (codA (inV t q).1.x (inV t q).1.tg (inV t q).1.mp)),(inV t q).2)
theorem one_shape {x:ByteArray × Int} (hx:L8.TokT x.1.data.toList):((L8.shB [x]).toList==([119]:List UInt8))=wdB x.1:=by
 have e:(L8.shB [x]).toList=[L8.shl1 x.1.data.toList]:=by rw [Lib.toList_data];rfl
 rw [e]
 have h1:=L8.shl1_w hx
 show (L8.shl1 x.1.data.toList==119 && true)=_
 rw [h1,Bool.and_true];rfl
theorem sub_one (k o n cap:Nat) (h:1≤n) (hc:n≤cap) (w:World) :
  (Instr.slice 267 (.slice (some ⟨k,o,none⟩) n cap) none (some (.int .i64 1)) none).run Tryz.prog w=.ok (.slice (some ⟨k,o,none⟩) 1 cap) w:=by
 have h3:¬ cap=0:=by omega
 simp [go_sem,Tryz.underlying267,h3]
 intro hh;omega
theorem behind_no (b o n cap:Nat) (x:ByteArray × Int) (r:L8.Tks) (hn:r.length+1=n) (hcp:n≤cap) (w:World) (hb:b<w.heap.size) (hc:L8.Tksat w b o (x::r)) (hx:L8.TokT x.1.data.toList) (hw:wdB x.1=false) :
  Calls Tryz.prog 190 #[.slice (some ⟨b,o,none⟩) n cap] w fun e w'=>e=.returned (.tuple #[.nilIface,.int .i64 2])∧Below w.heap.size w w':=by
 have hsub:=sub_one b o n cap (by omega) hcp
 have HSH0:=L8.shape8 [x] (.slice (some ⟨b,o,none⟩) 1 cap) w (by simp) (fun t ht=>by simp only [L8.txt,List.map_cons,List.map_nil,List.mem_cons,List.not_mem_nil,or_false] at ht;rw [ht];exact hx) (.inl ⟨b,o,cap,rfl,by simp;omega,hb,fun j hj=>by match j,hj with|0,_=>(have:=hc 0 (by simp);simpa using this)⟩)
 obtain⟨S,hS⟩:∃ S,L8.shB [x]=S:=⟨_,rfl⟩
 have t1:=one_shape hx
 rw [hS,hw] at t1
 rw [hS] at HSH0
 have HSH:=Lib.hid HSH0
 clear HSH0 hS hc hn hx hw
 go_enter Tryz.func190,Tryz.ntmps190
 go_wp2_with (go_at_call 226;((with_reducible refine (HSH.out).mono ?_);rintro e w1 ⟨rfl,b1⟩))
 go_ret2
 exact⟨rfl,b1⟩
theorem behind_yes (b o n cap:Nat) (x:ByteArray × Int) (r:L8.Tks) (hn:r.length+1=n) (hm:n≤100000) (hcp:n≤cap) (w:World) (hT:Tab w) (hb:b<w.heap.size) (hc:L8.Tksat w b o (x::r)) (hz:∀ t∈txs (x::r),t.size≤100000) (hxt:∀ t∈L8.txt (x::r),L8.TokT t) (hw:wdB x.1=true) (v:Value) (er:Int) (hR:itB x.1 (txs r)=(v,er)) :
  Calls Tryz.prog 190 #[.slice (some ⟨b,o,none⟩) n cap] w fun e w'=>e=.returned (.tuple #[v,.int .i64 er])∧Below w.heap.size w w':=by
 have tk0:=tok_head hxt
 have h2:=hT.lt
 obtain⟨T,hTe⟩:∃ T,x.1=T:=⟨_,rfl⟩
 have hsub:=sub_one b o n cap (by omega) hcp
 have hsl:∀ W,(Instr.slice 267 (.slice (some ⟨b,o,none⟩) n cap) (some (.int .i64 1)) none none).run Tryz.prog W=.ok (.slice (some ⟨b,if cap=1 then o else o+1*2,none⟩) (n-1) (cap-1)) W:=sub_from b o n cap 1 (by omega) hcp
 obtain⟨o2,ho2⟩:∃ o2,(if cap=1 then o else o+1*2)=o2:=⟨_,rfl⟩
 have hc2:L8.Tksat w b o2 r:=by rw [← ho2];exact tks_from (a:=1) hc (by simpa using hn) hcp (by omega)
 rw [ho2] at hsl
 have c0:w.cell? ⟨b,o,none⟩=some (.string T):=by
  have:=(hc 0 (by simp)).1
  rw [← hTe];simpa using this
 have HSH0:=L8.shape8 [x] (.slice (some ⟨b,o,none⟩) 1 cap) w (by simp) (fun t ht=>by simp only [L8.txt,List.map_cons,List.map_nil,List.mem_cons,List.not_mem_nil,or_false] at ht;rw [ht];exact tk0.1) (.inl ⟨b,o,cap,rfl,by simp;omega,hb,fun j hj=>by match j,hj with|0,_=>(have:=hc 0 (by simp);simpa using this)⟩)
 obtain⟨S,hS⟩:∃ S,L8.shB [x]=S:=⟨_,rfl⟩
 have t1:=one_shape tk0.1
 rw [hS,hw] at t1
 rw [hS] at HSH0
 have HSH:=Lib.hid HSH0
 have hTs:T.size≤maxLen:=by have:=hz x.1 (by simp [txs]);rw [hTe] at this;unfold maxLen;omega
 have hzr:∀ t∈txs r,t.size≤100000:=fun t ht=>hz t (by unfold txs at ht ⊢;rw [List.map_cons];exact List.mem_cons_of_mem _ ht)
 unfold itB at hR
 rw [hTe] at hR
 by_cases hM:T=mapT
 ·rw [if_pos hM] at hR
  obtain⟨d,hd⟩:∃ d,(dcV (txs r)).1=d:=⟨_,rfl⟩
  rw [hd] at hR
  obtain⟨rfl,he⟩:v=.iface 208 (.agg (dfA d))∧(dcV (txs r)).2=er:=by cases hR;exact⟨rfl,rfl⟩
  have HD:=Lib.hid (fun (W:World) (hB:Below w.heap.size w W)=>decl_at b o2 (n-1) (cap-1) r (by omega) (by omega) tk0.2 W (hT.below hB h2) (Nat.lt_of_lt_of_le hb hB.size) (by omega) (hc2.below hb hB) d er (by rw [← hd,← he]))
  have t2:(T.toList==([109,97,112]:List UInt8))=true:=eqb hM
  have hn0:0<n:=by omega
  clear HSH0 hS hc hn hw hR hd he hM hzr hz hxt tk0 hTe ho2 hc2 hT
  go_enter Tryz.func190,Tryz.ntmps190
  go_wp2_with (first|(go_at_call 226;((with_reducible refine (HSH.out).mono ?_);rintro e w1 ⟨rfl,b1⟩;have c1:=(b1.cell (p:=⟨b,o,none⟩) hb).trans c0;clear c0))|(go_at_call 228;((with_reducible refine (HD.out _ b1).mono ?_);rintro e w2 ⟨rfl,b2⟩)))
  go_ret2
  exact⟨rfl,L2.bch b1 b2⟩
 ·rw [if_neg hM] at hR
  obtain⟨c,hc'⟩:∃ c,(inV T (txs r)).1=c:=⟨_,rfl⟩
  rw [hc'] at hR
  obtain⟨rfl,he⟩:v=.iface 211 (.agg (codA c.x c.tg c.mp))∧(inV T (txs r)).2=er:=by cases hR;exact⟨rfl,rfl⟩
  have HI:=Lib.hid (fun (W:World) (hB:Below w.heap.size w W)=>inst_at T b o2 (n-1) (cap-1) r W (hT.below hB h2) hTs (Nat.lt_of_lt_of_le hb hB.size) (hc2.below hb hB) (by omega) (by omega) (by omega) hzr tk0.2 c er (by rw [← hc',← he]))
  have t2:(T.toList==([109,97,112]:List UInt8))=false:=beqt_ne hM
  have hn0:0<n:=by omega
  clear HSH0 hS hc hn hw hR hc' he hM hzr hz hxt tk0 hTe ho2 hc2 hT
  go_enter Tryz.func190,Tryz.ntmps190
  go_upto_region 5 with (go_at_call 226;((with_reducible refine (HSH.out).mono ?_);rintro e w1 ⟨rfl,b1⟩;have c1:=(b1.cell (p:=⟨b,o,none⟩) hb).trans c0;clear c0))
  have hb1:b<w1.heap.size:=Nat.lt_of_lt_of_le hb b1.size
  go_region_with (go_at_call 229;((with_reducible refine (HI.out _ b1.drew).mono ?_);rintro e w2 ⟨rfl,b2⟩))
  go_wp2
  go_ret2
  exact⟨rfl,L2.bch b1.drew b2⟩
end Go.Proofs.YtdgnjhhieemcaaaGreatDoor.L9
end
section
namespace Go.Proofs.YtdgnjhhieemcaaaGreatDoor.L9
open Go.RowKit
attribute [local go_sem] Oper.semAt_some
theorem txt_tkX (s:ByteArray):L8.txt (L8.tkX s (L8.tks s))=L8.txts s:=by
 unfold L8.txt L8.tkX L8.txts
 rw [List.map_map]
 exact List.map_congr_left fun p _=>L8.ext_list s p.1 p.2
theorem toks_ok (s:ByteArray):(L8.tkX s (L8.tks s)).length≤s.size∧(∀ t∈L8.txt (L8.tkX s (L8.tks s)),L8.TokT t)∧∀ t∈txs (L8.tkX s (L8.tks s)),t.size≤s.size:=by
 refine⟨by rw [L8.tkX_len];exact L8.tks_len s,by rw [txt_tkX];exact L8.txts_tok s,fun x hx=>?_⟩
 unfold txs L8.tkX at hx
 rw [List.map_map,List.mem_map] at hx
 obtain⟨p,_,rfl⟩:=hx
 show (s.extract p.1 p.2).size≤s.size
 rw [← L8.size_list,L8.ext_list,← L8.size_list s,List.length_take,List.length_drop];omega
def ItAt (w:World) (v:Value) (l:List Value):Prop :=
 (∃ b o cap,v=.slice (some ⟨b,o,none⟩) l.length cap∧b<w.heap.size∧∀ j,(h:j<l.length)→w.cell? ⟨b,o+j,none⟩=some l[j])∨(l=[]∧∃ a cap,v=.slice a 0 cap)
theorem own_it {w:World} {base e:TypeId} {v:Value} {n:Nat} {l:List Value} (h:w.ownsRow base e 1 v n l) (hn:l.length=n):ItAt w v l:=by
 subst hn
 rcases h.2 with ⟨rfl,h0⟩|⟨g,cap,cur,rfl,_,hh,hcp,_,_,_⟩
 ·exact .inr ⟨List.eq_nil_of_length_eq_zero h0,_,_,rfl⟩
 ·refine .inl ⟨g,0,cap,rfl,lt_of_block hh,fun j hj=>?_⟩
  have k1:=h.cells (g:=g) rfl j l[j] (by simp [List.getElem?_eq_getElem hj])
  rw [Nat.zero_add];rwa [L8.add0] at k1
def prV (ts:List ByteArray):List Value × Int :=
 let p:=lab [] ts
 if p.1≠0 then ([],7) else
 match p.2.2 with
 | []=>(p.2.1.map lbV,0)
 | t::q=>if wdB t=false then ([],2) else if (itB t q).2≠0 then ([],(itB t q).2) else (p.2.1.map lbV++[(itB t q).1],0)
def prL (s:ByteArray):List Value × Int:=if 0≤L8.bad s then ([],2) else prV (txB s)
def LinP (l:List Value) (er:Int) (w:World) (e:Ending) (w':World):Prop:=∃ v,e=.returned (.tuple #[v,.int .i64 er])∧ItAt w' v l∧Below w.heap.size w w'∧∀ b,v.ownBlock=some b→∃ cs,w'.heap[b]?=some (.cells cs 203)
theorem own_ty9 {w:World} {base e:TypeId} {size:Nat} {v:Value} {n:Nat} {xs:List Value} (h:w.ownsRow base e size v n xs):∀ g,v.ownBlock=some g→∃ cur,w.heap[g]?=some (.cells cur e):=by
 intro g hg
 rcases h.2 with ⟨rfl,_⟩|⟨g',cap,cur,rfl,_,hh,_⟩
 ·cases hg
 ·obtain rfl:g'=g:=by simpa [Value.ownBlock] using hg
  exact⟨cur,hh⟩
theorem labels_err (v:Value) (xs:L8.Tks) (hm:xs.length≤100000) (hxt:∀ t∈L8.txt xs,L8.TokT t) (w:World) (hT:Tab w) (hv:L8.TksAt w v xs) (h:(lab [] (txs xs)).1≠0) :
  Calls Tryz.prog 189 #[v] w fun e w'=>e=.returned (.tuple #[.slice none 0 0,.slice none 0 0,.int .i64 7])∧Below w.heap.size w w' :=
 (labels_at v xs hm hxt w hT hv _ rfl).mono fun _ _ ⟨hB,hP⟩=>by
  rcases hP with ⟨h0,_⟩|⟨_,he⟩
  ·exact absurd h0 h
  ·exact⟨he,hB⟩
def LabO (xs:L8.Tks) (p:List ByteArray × List ByteArray) (w:World) (e:Ending) (w':World):Prop:=∃ v1 a n cap ys,e=.returned (.tuple #[v1,.slice a n cap,.int .i64 0])∧w'.ownsRow w.heap.size 203 1 v1 p.1.length (p.1.map lbV)∧L8.TksAt w' (.slice a n cap) ys∧txs ys=p.2∧ys.length=n∧(∃ k,ys=xs.drop k)∧Below w.heap.size w w'
theorem labels_ok (v:Value) (xs:L8.Tks) (hm:xs.length≤100000) (hxt:∀ t∈L8.txt xs,L8.TokT t) (w:World) (hT:Tab w) (hv:L8.TksAt w v xs) (h:(lab [] (txs xs)).1=0) :
  Calls Tryz.prog 189 #[v] w fun e w'=>LabO xs (lab [] (txs xs)).2 w e w' :=
 (labels_at v xs hm hxt w hT hv _ rfl).mono fun _ _ ⟨hB,hP⟩=>by
  rcases hP with ⟨_,v1,v2,ys,rfl,hown,hv2,hy,hk⟩|⟨h7,_⟩
  ·obtain⟨a,cap,rfl⟩:=hv2.form
   exact⟨v1,a,_,cap,ys,rfl,hown,hv2,hy,rfl,hk,hB⟩
  ·rw [h] at h7;cases h7
theorem line_bad (s:ByteArray) (hs:s.size≤100000) (w:World) (hb:0≤L8.bad s):Calls Tryz.prog 128 #[.string s] w fun e w'=>e=.returned (.tuple #[.slice none 0 0,.int .i64 2])∧Below w.heap.size w w':=by
 have HT:=Lib.hid (L8.tokens_any s w hs)
 go_enter Tryz.func128,Tryz.ntmps128
 go_wp2_with (go_at_call 188;((with_reducible refine (HT.out).mono ?_);intro e w1 hp;obtain⟨a,cap,rfl,b1⟩:=L8.PT_bad hb hp;clear hp))
 go_ret2
 exact⟨rfl,b1⟩
theorem line_label (s:ByteArray) (hs:s.size≤100000) (w:World) (hT:Tab w) (hb:L8.bad s=-1) (h:(lab [] (txB s)).1≠0):Calls Tryz.prog 128 #[.string s] w fun e w'=>e=.returned (.tuple #[.slice none 0 0,.int .i64 7])∧Below w.heap.size w w':=by
 have h2:=hT.lt
 obtain⟨hl,hxt,hz⟩:=toks_ok s
 have HK:=Lib.hid (L8.tokens_any s w hs)
 have HL:=Lib.hid (fun (W:World) (hB:Below w.heap.size w W) (a:Option Addr) (cap:Nat) (hv:L8.TksAt W (.slice a (L8.tks s).length cap) (L8.tkX s (L8.tks s)))=>labels_err _ _ (by omega) hxt W (hT.below hB h2) hv h)
 have HB:=Lib.hid hb
 clear hT h hl hxt hz hb
 go_enter Tryz.func128,Tryz.ntmps128
 go_wp2_with (first|(go_at_call 188;((with_reducible refine (HK.out).mono ?_);intro e w1 hp;obtain⟨a,cap,rfl,hv,b1⟩:=L8.PT_ok HB.out hp;clear hp))|(go_at_call 189;((with_reducible refine (HL.out _ b1 _ _ hv).mono ?_);rintro e w2 ⟨rfl,b2⟩)))
 go_ret2
 exact⟨rfl,L2.bch b1 b2⟩
theorem line_none (s:ByteArray) (hs:s.size≤100000) (w:World) (hT:Tab w) (hb:L8.bad s=-1) (h:(lab [] (txB s)).1=0) (h0:(lab [] (txB s)).2.2=[]):Calls Tryz.prog 128 #[.string s] w fun e w'=>LinP ((lab [] (txB s)).2.1.map lbV) 0 w e w':=by
 have h2:=hT.lt
 obtain⟨hl,hxt,hz⟩:=toks_ok s
 have HK:=Lib.hid (L8.tokens_any s w hs)
 have HL:=Lib.hid (fun (W:World) (hB:Below w.heap.size w W) (a:Option Addr) (cap:Nat) (hv:L8.TksAt W (.slice a (L8.tks s).length cap) (L8.tkX s (L8.tks s)))=>labels_ok _ _ (by omega) hxt W (hT.below hB h2) hv h)
 have HB:=Lib.hid hb
 have H0:=Lib.hid h0
 clear hT h hl hxt hz hb h0
 go_enter Tryz.func128,Tryz.ntmps128
 go_wp2_with (first|(go_at_call 188;((with_reducible refine (HK.out).mono ?_);intro e w1 hp;obtain⟨a,cap,rfl,hv,b1⟩:=L8.PT_ok HB.out hp;clear hp))|(go_at_call 189;((with_reducible refine (HL.out _ b1 _ _ hv).mono ?_);rintro e w2 ⟨v1,a2,n2,cap2,ys,rfl,hown,hv2,hy,hn2,hk,b2⟩;obtain rfl:n2=0:=(by have e1:=hy.trans H0.out;have e2:ys=[]:=(by unfold txs at e1;exact List.map_eq_nil_iff.1 e1);rw [← hn2,e2];rfl);clear hv2 hy hn2 hk)))
 refine bodyPost_ret (v:=.tuple #[v1,.int .i64 0]) (by simp [results,Tryz.results128,go_sem]) rfl ?_
 exact⟨v1,rfl,own_it hown (by rw [List.length_map];rfl),L2.bch b1 b2,own_ty9 hown⟩
theorem ys_cons {ys:L8.Tks} {t:ByteArray} {q:List ByteArray} (h:txs ys=t::q):∃ x r,ys=x::r∧x.1=t∧txs r=q:=by
 cases ys with
 | nil=>cases h
 | cons x r=>unfold txs at h ⊢;rw [List.map_cons] at h;injection h with h1 h2;exact⟨x,r,rfl,h1,h2⟩
theorem drop_facts {xs:L8.Tks} {x:ByteArray × Int} {r:L8.Tks} (hk:∃ k,x::r=xs.drop k) (hxt:∀ t∈L8.txt xs,L8.TokT t) {m:Nat} (hz:∀ t∈txs xs,t.size≤m):(∀ t∈L8.txt (x::r),L8.TokT t)∧(∀ t∈txs (x::r),t.size≤m)∧r.length+1≤xs.length:=by
 obtain⟨k,hk⟩:=hk
 rw [show r.length+1=(x::r).length from rfl,hk]
 refine⟨fun t ht=>hxt t ?_,fun t ht=>hz t ?_,by rw [List.length_drop];omega⟩
 ·unfold L8.txt at ht ⊢
  rw [List.map_drop] at ht
  exact List.mem_of_mem_drop ht
 ·unfold txs at ht ⊢
  rw [List.map_drop] at ht
  exact List.mem_of_mem_drop ht
section
variable (s:ByteArray) (hs:s.size≤100000) (w:World) (hT:Tab w) (hb:L8.bad s=-1) (h:(lab [] (txB s)).1=0) (t:ByteArray) (q:List ByteArray) (h0:(lab [] (txB s)).2.2=t::q)
include s hs w hT hb h t q h0
theorem line_no (hw:wdB t=false):Calls Tryz.prog 128 #[.string s] w fun e w'=>e=.returned (.tuple #[.slice none 0 0,.int .i64 2])∧Below w.heap.size w w':=by
 have h2:=hT.lt
 obtain⟨hl,hxt,hz⟩:=toks_ok s
 have HK:=Lib.hid (L8.tokens_any s w hs)
 have HL:=Lib.hid (fun (W:World) (hB:Below w.heap.size w W) (a:Option Addr) (cap:Nat) (hv:L8.TksAt W (.slice a (L8.tks s).length cap) (L8.tkX s (L8.tks s)))=>labels_ok _ _ (by omega) hxt W (hT.below hB h2) hv h)
 have HB:=Lib.hid hb
 have H0:=Lib.hid h0
 have HBH:=Lib.hid (fun (W:World) (hB:Below w.heap.size w W) (b o n cap:Nat) (x:ByteArray × Int) (r:L8.Tks) (hk:∃ k,x::r=(L8.tkX s (L8.tks s)).drop k) (hx:x.1=t) (hr:txs r=q) (hn:r.length+1=n) (hcp:n≤cap) (hbl:b<W.heap.size) (hc:L8.Tksat W b o (x::r))=>behind_no b o n cap x r hn hcp W hbl hc (tok_head (drop_facts hk hxt hz).1).1 (by rw [hx];exact hw))
 clear hT h hl hxt hz hb h0 hw
 go_enter Tryz.func128,Tryz.ntmps128
 go_wp2_with (first|(go_at_call 188;((with_reducible refine (HK.out).mono ?_);intro e w1 hp;obtain⟨a,cap,rfl,hv,b1⟩:=L8.PT_ok HB.out hp;clear hp))|(go_at_call 189;((with_reducible refine (HL.out _ b1 _ _ hv).mono ?_);rintro e w2 ⟨v1,a2,n2,cap2,ys,rfl,hown,hv2,hy,hn2,hk,b2⟩;obtain⟨x,r,hyr,hx,hr⟩:=ys_cons (hy.trans H0.out);obtain⟨bb,oo,rfl,hnc,hbl,hyl,hcs⟩:=hv2.get (by rw [← hn2,hyr];simp);have hn0:0<n2:=(by rw [← hn2,hyr];simp);have B2:=L2.bch b1 b2;have HC:=Lib.hid (HBH.out w2 B2 bb oo n2 cap2 x r (hyr ▸ hk) hx hr (by rw [← hn2,hyr];rfl) hnc hbl (hyr ▸ hcs));clear hv hv2 hy hn2 hk hyr hx hr hyl hcs hnc hbl))|(go_at_call 190;((with_reducible refine (HC.out).mono ?_);rintro e w3 ⟨rfl,b3⟩)))
 go_ret2
 exact⟨rfl,L2.bch B2 b3⟩
theorem line_err (hw:wdB t=true) (iv:Value) (er:Int) (hI:itB t q=(iv,er)) (hne:¬ er=0):Calls Tryz.prog 128 #[.string s] w fun e w'=>e=.returned (.tuple #[.slice none 0 0,.int .i64 er])∧Below w.heap.size w w':=by
 have h2:=hT.lt
 obtain⟨hl,hxt,hz⟩:=toks_ok s
 have HK:=Lib.hid (L8.tokens_any s w hs)
 have HL:=Lib.hid (fun (W:World) (hB:Below w.heap.size w W) (a:Option Addr) (cap:Nat) (hv:L8.TksAt W (.slice a (L8.tks s).length cap) (L8.tkX s (L8.tks s)))=>labels_ok _ _ (by omega) hxt W (hT.below hB h2) hv h)
 have HB:=Lib.hid hb
 have H0:=Lib.hid h0
 have HBH:=Lib.hid (fun (W:World) (hB:Below w.heap.size w W) (b o n cap:Nat) (x:ByteArray × Int) (r:L8.Tks) (hk:∃ k,x::r=(L8.tkX s (L8.tks s)).drop k) (hx:x.1=t) (hr:txs r=q) (hn:r.length+1=n) (hcp:n≤cap) (hbl:b<W.heap.size) (hc:L8.Tksat W b o (x::r))=>behind_yes b o n cap x r hn (by have:=(drop_facts hk hxt hz).2.2;omega) hcp W (hT.below hB h2) hbl hc (fun t ht=>by have:=(drop_facts hk hxt hz).2.1 t ht;omega) (drop_facts hk hxt hz).1 (by rw [hx];exact hw) iv er (by rw [hx,hr];exact hI))
 clear hT h hl hxt hz hb h0 hw hI
 go_enter Tryz.func128,Tryz.ntmps128
 go_wp2_with (first|(go_at_call 188;((with_reducible refine (HK.out).mono ?_);intro e w1 hp;obtain⟨a,cap,rfl,hv,b1⟩:=L8.PT_ok HB.out hp;clear hp))|(go_at_call 189;((with_reducible refine (HL.out _ b1 _ _ hv).mono ?_);rintro e w2 ⟨v1,a2,n2,cap2,ys,rfl,hown,hv2,hy,hn2,hk,b2⟩;obtain⟨x,r,hyr,hx,hr⟩:=ys_cons (hy.trans H0.out);obtain⟨bb,oo,rfl,hnc,hbl,hyl,hcs⟩:=hv2.get (by rw [← hn2,hyr];simp);have hn0:0<n2:=(by rw [← hn2,hyr];simp);have B2:=L2.bch b1 b2;have HC:=Lib.hid (HBH.out w2 B2 bb oo n2 cap2 x r (hyr ▸ hk) hx hr (by rw [← hn2,hyr];rfl) hnc hbl (hyr ▸ hcs));clear hv hv2 hy hn2 hk hyr hx hr hyl hcs hnc hbl))|(go_at_call 190;((with_reducible refine (HC.out).mono ?_);rintro e w3 ⟨rfl,b3⟩)))
 go_ret2
 exact⟨rfl,L2.bch B2 b3⟩
theorem line_yes (hw:wdB t=true) (ty:TypeId) (iu:Value) (hI:itB t q=(.iface ty iu,0)) (labs:List ByteArray) (hlb:(lab [] (txB s)).2.1=labs) (hll:labs.length≤100000):Calls Tryz.prog 128 #[.string s] w fun e w'=>LinP (labs.map lbV++[.iface ty iu]) 0 w e w':=by
 obtain⟨i0,hi,hz0,hz1,hz2⟩:=info_parts Tryz.info203
 have h2:=hT.lt
 obtain⟨hl,hxt,hz⟩:=toks_ok s
 have HK:=Lib.hid (L8.tokens_any s w hs)
 have HL:=Lib.hid (fun (W:World) (hB:Below w.heap.size w W) (a:Option Addr) (cap:Nat) (hv:L8.TksAt W (.slice a (L8.tks s).length cap) (L8.tkX s (L8.tks s)))=>labels_ok _ _ (by omega) hxt W (hT.below hB h2) hv h)
 have HB:=Lib.hid hb
 have H0:=Lib.hid h0
 have HBH:=Lib.hid (fun (W:World) (hB:Below w.heap.size w W) (b o n cap:Nat) (x:ByteArray × Int) (r:L8.Tks) (hk:∃ k,x::r=(L8.tkX s (L8.tks s)).drop k) (hx:x.1=t) (hr:txs r=q) (hn:r.length+1=n) (hcp:n≤cap) (hbl:b<W.heap.size) (hc:L8.Tksat W b o (x::r))=>behind_yes b o n cap x r hn (by have:=(drop_facts hk hxt hz).2.2;omega) hcp W (hT.below hB h2) hbl hc (fun t ht=>by have:=(drop_facts hk hxt hz).2.1 t ht;omega) (drop_facts hk hxt hz).1 (by rw [hx];exact hw) (.iface ty iu) 0 (by rw [hx,hr];exact hI))
 obtain⟨m,hm⟩:∃ m,labs.length=m:=⟨_,rfl⟩
 rw [hm] at hll
 have HM:=Lib.hid hm
 have HLB:=Lib.hid hlb
 clear hT h hl hxt hz hb h0 hw hI hm hlb
 go_enter Tryz.func128,Tryz.ntmps128
 go_wp2_with (first|(go_at_call 188;((with_reducible refine (HK.out).mono ?_);intro e w1 hp;obtain⟨a,cap,rfl,hv,b1⟩:=L8.PT_ok HB.out hp;clear hp))|(go_at_call 189;((with_reducible refine (HL.out _ b1 _ _ hv).mono ?_);rintro e w2 ⟨v1,a2,n2,cap2,ys,rfl,hown,hv2,hy,hn2,hk,b2⟩;obtain⟨x,r,hyr,hx,hr⟩:=ys_cons (hy.trans H0.out);obtain⟨bb,oo,rfl,hnc,hbl,hyl,hcs⟩:=hv2.get (by rw [← hn2,hyr];simp);have hn0:0<n2:=(by rw [← hn2,hyr];simp);have B2:=L2.bch b1 b2;have HC:=Lib.hid (HBH.out w2 B2 bb oo n2 cap2 x r (hyr ▸ hk) hx hr (by rw [← hn2,hyr];rfl) hnc hbl (hyr ▸ hcs));clear hv hv2 hy hn2 hk hyr hx hr hyl hcs hnc hbl))|(go_at_call 190;((with_reducible refine (HC.out).mono ?_);rintro e w3 ⟨rfl,b3⟩;have hown3:=L8.own_below hown b3;rw [show (lab [] (txs (L8.tkX s (L8.tks s)))).2.1=labs from HLB.out,HM.out] at hown3;have B3:=L2.bch B2 b3;have b1s:=b1.size;have b2s:=b2.size;have b3s:=b3.size;clear hown))|(at_builtin;refine wpList_append_own _ rfl _ _ 199 rfl w1.heap.size 203 i0 .nilIface 1 16 Tryz.underlying199 hi hz0 hz1 hz2 rfl (by decide) _ m _ rfl (hown3.alloc _) ⟨w3.heap.size,0,none⟩ 1 1 [.iface ty iu] rfl rfl (World.news_of_block (cs:=#[.iface ty iu]) (t:=203) (fr:=(0,0)) (heap_alloc_last w3 _)) (by simp [Value.oneCell']) (by unfold maxLen;omega) (by omega) (by simp;omega) ?_;intro v' w4 hown4 hgrow4 _))
 refine bodyPost_ret (v:=.tuple #[v',.int .i64 0]) (by simp [results,Tryz.results128,go_sem]) rfl ?_
 refine⟨v',rfl,own_it hown4 (by rw [List.length_append,List.length_map,HM.out];rfl),(L2.bch B3 (L8.bnew _ _)).grown hgrow4 (by simp;omega) (fun k hk=>?_),own_ty9 hown4⟩
 have:=L8.own_base hown3 k hk
 omega
end
end Go.Proofs.YtdgnjhhieemcaaaGreatDoor.L9
end
