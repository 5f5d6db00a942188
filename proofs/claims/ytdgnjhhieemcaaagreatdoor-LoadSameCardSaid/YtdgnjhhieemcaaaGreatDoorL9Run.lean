/- What the program's instruction returns where the operands have a shape of the form: they are read one after the other up to the first error. Condition: memory holds the tokens, and the tables read as the program's text lays them. -/
import Derived.Test.YtdgnjhhieemcaaaGreatDoorM16
set_option maxRecDepth 100000
set_option maxHeartbeats 8000000
namespace Go.Proofs.YtdgnjhhieemcaaaGreatDoor.L9
open Go.RowKit
attribute [local go_sem] Oper.semAt_some
theorem stp_at (k:Rk) (B g:Nat) (s s':St) (x:Int) (w:World) (h:RdAt B g w s) (hk:okS k s=true) (hT:Tab w) (h2:3≤B) (hs:stp k s=(s',x)):Calls Tryz.prog (fnK k) #[.pointer (some ⟨g,0,none⟩)] w fun e w'=>e=.returned (.int .i64 x)∧RdAt B g w' s'∧w.grownBy w' (some g):=by
 have e1:(stp k s).2=x:=by rw [hs]
 have e2:(stp k s).1=s':=by rw [hs]
 have H:Calls Tryz.prog (fnK k) #[.pointer (some ⟨g,0,none⟩)] w fun e w'=>StpP B g k s w e w':=by
  cases k
  ·exact dst_at B g s w h hk hT h2
  ·exact sec_at B g s w h hk hT h2
  ·exact src_at B g s w h hk hT h2
  ·exact tgt_at B g s w h hk hT h2
  ·exact hlp_at B g s w h hk
  ·exact off_at B g s w h hk hT h2
  ·exact i32_at B g s w h hk hT h2
  ·exact i64_at B g s w h hk hT h2
  ·exact mpn_at B g s w h hk hT h2
 unfold StpP at H
 rw [e1,e2] at H
 exact H
def fin (p:St × Int):Cod × Int:=if p.2≠0 then (Cod.z,p.2) else (⟨p.1.x,p.1.tg,p.1.mp⟩,0)
theorem inR_fin (op:Int) (q:List ByteArray):inR op q=fin (runs (ksV (L3.frm (L3.ix op))) (st0 op q)):=rfl
theorem ks_le (f:Int):(ksV f).length≤3:=by
 unfold ksV
 split <;> (try split) <;> (try split) <;> (try split) <;> (try split) <;> (try split) <;> (try split) <;> (try split) <;> (try split) <;> (try split) <;> (try split) <;> decide
theorem fn_cell {w:World} {k0 g:Nat} {ks:List Rk} (h:w.heap[k0]?=some (.cells (ks.map (fnV g)).toArray 332)) (j:Nat) (hj:j<ks.length):w.cell? ⟨k0,j,none⟩=some (fnV g ks[j]):=by
 simp [World.cell?,h,hj]
theorem fn_form {w:World} {v:Value} {ks:List Rk} {g m:Nat} (h:FnAt w v ks g) (hm:ks.length=m):∃ a,v=.slice a m m∧(0<m→∃ k0,a=some ⟨k0,0,none⟩∧w.heap[k0]?=some (.cells (ks.map (fnV g)).toArray 332)):=by
 rcases h with ⟨k0,rfl,hh⟩|⟨rfl,rfl⟩
 ·exact⟨_,by rw [hm],fun _=>⟨k0,rfl,hh⟩⟩
 ·subst hm
  exact⟨none,rfl,fun h=>absurd h (by decide)⟩
theorem fn_ne {w:World} {k0 g:Nat} {a b:Array Value} (h1:w.heap[k0]?=some (.cells a 332)) (h2:w.heap[g]?=some (.cells b 327)):k0≠g:=by
 rintro rfl
 rw [h1] at h2
 injection h2 with h2
 injection h2 with _ h2
 exact absurd h2 (by decide)
theorem fin_err {ks:List Rk} {k:Rk} {s s':St} {x:Int} {R:Cod × Int} (hs:stp k s=(s',x)) (hx:¬ x=0) (h:fin (runs (k::ks) s)=R):R=(Cod.z,x):=by
 rw [← h,runs,hs,if_pos hx,fin,if_pos hx]
theorem fin_go {ks:List Rk} {k:Rk} {s s':St} {R:Cod × Int} (hs:stp k s=(s',0)) (h:fin (runs (k::ks) s)=R):fin (runs ks s')=R:=by
 rw [← h,runs,hs,if_neg (by simp)]
theorem ok_go {ks:List Rk} {k:Rk} {s s':St} (hs:stp k s=(s',0)) (h:OkR (k::ks) s):OkR ks s':=by
 have:=h.2
 rw [hs] at this
 exact this rfl
theorem inst_run (t:ByteArray) (b o n cap:Nat) (xs:L8.Tks) (w:World) (hT:Tab w) (hs:t.size≤maxLen) (hb:b<w.heap.size) (hc:L8.Tksat w b o xs) (hn:xs.length=n) (hcp:n≤cap) (hm:n≤100000) (hz:∀ t∈txs xs,t.size≤100000) (hxt:∀ t∈L8.txt xs,L8.TokT t) (h:¬ fiV t<0) (hk:(shV (L3.frm (L3.ix (fiV t)))).any (fun x=>decide (x=shpB (txs xs)))=true) (hok:OkR (ksV (L3.frm (L3.ix (fiV t)))) (st0 (fiV t) (txs xs))) (c:Cod) (er:Int) (hR:inR (fiV t) (txs xs)=(c,er)) :
  Calls Tryz.prog 229 #[.string t,.slice (some ⟨b,o,none⟩) n cap] w fun e w'=>e=.returned (.tuple #[.agg (codA c.x c.tg c.mp),.int .i64 er])∧Below w.heap.size w w':=by
 obtain⟨k,hk86,e,f1,f2,hf⟩:=kin_f h
 rw [inR_fin] at hR
 rw [e] at hk hf hok hR
 obtain⟨f,hfe⟩:∃ f,L3.frm (L3.ix (k:Int))=f:=⟨_,rfl⟩
 rw [hfe] at hk hf hok hR
 have hkl:=ks_le f
 have HF:=Lib.hid (fun w=>L3.find_at t hs (k:Int) true w f1 f2)
 have HROW:=Lib.hid (fun (W:World) (g:Nat) (hr:RdAt w.heap.size g W (st0 (k:Int) (txs xs)))=>row_at w.heap.size g _ W hr f hfe hf)
 have HNEW:=Lib.hid (fun (w1:World) (h1:Below w.heap.size w w1)=>rd_new (k:Int) hb hc hn hcp hm hz h1)
 have HSH:=Lib.hid (fun (W:World) (hB:Below w.heap.size w W)=>L8.shape8 xs (.slice (some ⟨b,o,none⟩) n cap) W (by omega) hxt (.inl ⟨b,o,cap,by rw [hn],by omega,Nat.lt_of_lt_of_le hb hB.size,hc.below hb hB⟩))
 rw [shp_txs] at HSH
 have HCO:=Lib.hid (fun (W:World) (v:Value) (hv:L8.StAt W v (shV f))=>contains_at v (shV f) (sh_le f) (shpB (txs xs)) true W hv hk)
 obtain⟨ks,hks⟩:∃ ks,ksV f=ks:=⟨_,rfl⟩
 rw [hks] at hok hR hkl
 obtain⟨m,hml⟩:∃ m,ks.length=m:=⟨_,rfl⟩
 rw [hml] at hkl
 have HM:=Lib.hid hml
 have HKS:=Lib.hid hks
 have HOK:=Lib.hid hok
 have HR:=Lib.hid hR
 have HT:=Lib.hid hT
 have h2:=hT.lt
 clear hk hf hfe f1 f2 e h hxt hz hm hcp hn hc hks hok hR hT hml
 go_enter Tryz.func229,Tryz.ntmps229
 go_wp2_with (first
  | (go_at_call 259;((with_reducible refine (HF.out _).mono ?_);rintro e w1 ⟨rfl,b1⟩;have hS:=row_up (heap_alloc_last w (.cells codZ 211)) b1;have B1:=L2.bch (L8.bnew w _) b1;have hlt1:w.heap.size<w1.heap.size:=Nat.lt_of_lt_of_le (by simp) b1.size))
  | (go_at_call 260;((with_reducible refine (HROW.out _ _ (HNEW.out _ B1)).mono ?_);rintro e w3 ⟨v1,v2,rfl,hst,hfn,b3⟩;rw [HKS.out] at hfn;obtain⟨a0,rfl,hfa⟩:=fn_form hfn HM.out;have HFA:=Lib.hid hfa;clear hfa hfn;have hS3:=row_up (row_up hS (L8.bnew w1 _)) b3;have B3:=L2.bch (L2.bch B1 (L8.bnew w1 _)) b3;have R3:=rd_gr (HNEW.out _ B1) b3;clear hS))
  | (go_at_call 226;((with_reducible refine (HSH.out _ B3).mono ?_);rintro e w4 ⟨rfl,b4⟩;have hS4:=row_up hS3 b4;have B4:=L2.bch B3 b4;have hst4:=hst.below b4;have R4:=rd_gr R3 b4;clear hst hS3 R3))
  | (go_at_call 261;((with_reducible refine (HCO.out _ _ hst4).mono ?_);rintro e w5 ⟨rfl,rfl⟩)))
 have HFB:=Lib.hid (fun h0:0<m=>(HFA.out h0).elim fun k0 hk=>(⟨k0,hk.1,row_up hk.2 b4⟩:∃ k0,a0=some ⟨k0,0,none⟩∧w4.heap[k0]?=some (.cells (ks.map (fnV w1.heap.size)).toArray 332)))
 have T4:=HT.out.below B4 h2
 clear HFA HROW HNEW HSH HCO HF hst4 b4 b3 b1 B1 B3
 generalize w1.heap.size=g at R4 hlt1 HFB ⊢
 go_loopw [41] (fun a wr=>∃ (j:Nat) (s:St),a=.int .i64 (j:Int)∧j≤m∧RdAt w.heap.size g wr s∧Hid (OkR (ks.drop j) s)∧Hid (fin (runs (ks.drop j) s)=(c,er))∧wr.heap[w.heap.size]?=some (.cells codZ 211)∧Hid (0<m→∃ k0,a0=some ⟨k0,0,none⟩∧wr.heap[k0]?=some (.cells (ks.map (fnV g)).toArray 332))∧Tab wr∧Below w.heap.size w wr) (fun a _=>m-(intOf a).toNat)
 case atStart=>exact⟨0,_,rfl,Nat.zero_le _,R4,HOK,HR,hS4,HFB,T4,B4⟩
 case round =>
  clear R4 HOK HR hS4 HFB T4 B4
  obtain⟨j,s,rfl,hj,hrd,hOk,hFin,hS,hFB,hTb,hB⟩:=hrel
  have hTT:=Lib.hid hTb
  clear hTb
  by_cases hlt:j<m
  ·obtain⟨k0,rfl,hfn⟩:=hFB.out (by omega)
   have hjx:j<ks.length:=by rw [HM.out];exact hlt
   have cf':=fn_cell hfn j hjx
   obtain⟨kd,hkd⟩:∃ kd,ks[j]=kd:=⟨_,rfl⟩
   have hd:ks.drop j=kd::ks.drop (j+1):=by rw [List.drop_eq_getElem_cons hjx,hkd]
   rw [hkd] at cf'
   have hok1:=hOk.out
   have hfin1:=hFin.out
   rw [hd] at hok1 hfin1
   obtain⟨s',x,hst⟩:∃ s' x,stp kd s=(s',x):=⟨_,_,rfl⟩
   have hC':=stp_at kd w.heap.size g s s' x wr hrd hok1.1 hTT.out h2 hst
   have hne:w.heap.size≠g:=by omega
   obtain⟨vv,hrow⟩:=rd_row hrd
   have hkg:=fn_ne hfn hrow
   by_cases hx0:x=0
   ·subst hx0
    have HOK2:=Lib.hid (ok_go hst hok1)
    have HFIN2:=Lib.hid (fin_go hst hfin1)
    have HFN:=Lib.hid hfn
    clear hst hok1 hfin1 hd hkd hrow hOk hFin hFB hfn
    cases kd
    ·have HC:Hid (Calls Tryz.prog 278 #[.pointer (some ⟨g,0,none⟩)] wr fun e w'=>e=.returned (.int .i64 0)∧RdAt w.heap.size g w' s'∧wr.grownBy w' (some g)):=Lib.hid hC'
     have cf:wr.cell? ⟨k0,j,none⟩=some (.func (.func 278) #[.pointer (some ⟨g,0,none⟩)] #[]):=cf'
     clear cf' hC'
     go_wp2_with (go_at_call 278;((with_reducible refine (HC.out).mono ?_);rintro e w5 ⟨rfl,hr5,hg5⟩;clear cf))
     go_roundw
     case rel=>exact⟨j+1,s',by go_num,by omega,hr5,HOK2,HFIN2,row_gr hS hg5 hne,Lib.hid (fun _=>⟨k0,rfl,row_gr HFN.out hg5 hkg⟩),hTT.out.gr hg5 (by omega),hB.grown hg5 hB.size (fun k hk=>by cases hk;omega)⟩
     case measure=>simp [intOf];omega
    ·have HC:Hid (Calls Tryz.prog 279 #[.pointer (some ⟨g,0,none⟩)] wr fun e w'=>e=.returned (.int .i64 0)∧RdAt w.heap.size g w' s'∧wr.grownBy w' (some g)):=Lib.hid hC'
     have cf:wr.cell? ⟨k0,j,none⟩=some (.func (.func 279) #[.pointer (some ⟨g,0,none⟩)] #[]):=cf'
     clear cf' hC'
     go_wp2_with (go_at_call 279;((with_reducible refine (HC.out).mono ?_);rintro e w5 ⟨rfl,hr5,hg5⟩;clear cf))
     go_roundw
     case rel=>exact⟨j+1,s',by go_num,by omega,hr5,HOK2,HFIN2,row_gr hS hg5 hne,Lib.hid (fun _=>⟨k0,rfl,row_gr HFN.out hg5 hkg⟩),hTT.out.gr hg5 (by omega),hB.grown hg5 hB.size (fun k hk=>by cases hk;omega)⟩
     case measure=>simp [intOf];omega
    ·have HC:Hid (Calls Tryz.prog 280 #[.pointer (some ⟨g,0,none⟩)] wr fun e w'=>e=.returned (.int .i64 0)∧RdAt w.heap.size g w' s'∧wr.grownBy w' (some g)):=Lib.hid hC'
     have cf:wr.cell? ⟨k0,j,none⟩=some (.func (.func 280) #[.pointer (some ⟨g,0,none⟩)] #[]):=cf'
     clear cf' hC'
     go_wp2_with (go_at_call 280;((with_reducible refine (HC.out).mono ?_);rintro e w5 ⟨rfl,hr5,hg5⟩;clear cf))
     go_roundw
     case rel=>exact⟨j+1,s',by go_num,by omega,hr5,HOK2,HFIN2,row_gr hS hg5 hne,Lib.hid (fun _=>⟨k0,rfl,row_gr HFN.out hg5 hkg⟩),hTT.out.gr hg5 (by omega),hB.grown hg5 hB.size (fun k hk=>by cases hk;omega)⟩
     case measure=>simp [intOf];omega
    ·have HC:Hid (Calls Tryz.prog 281 #[.pointer (some ⟨g,0,none⟩)] wr fun e w'=>e=.returned (.int .i64 0)∧RdAt w.heap.size g w' s'∧wr.grownBy w' (some g)):=Lib.hid hC'
     have cf:wr.cell? ⟨k0,j,none⟩=some (.func (.func 281) #[.pointer (some ⟨g,0,none⟩)] #[]):=cf'
     clear cf' hC'
     go_wp2_with (go_at_call 281;((with_reducible refine (HC.out).mono ?_);rintro e w5 ⟨rfl,hr5,hg5⟩;clear cf))
     go_roundw
     case rel=>exact⟨j+1,s',by go_num,by omega,hr5,HOK2,HFIN2,row_gr hS hg5 hne,Lib.hid (fun _=>⟨k0,rfl,row_gr HFN.out hg5 hkg⟩),hTT.out.gr hg5 (by omega),hB.grown hg5 hB.size (fun k hk=>by cases hk;omega)⟩
     case measure=>simp [intOf];omega
    ·have HC:Hid (Calls Tryz.prog 282 #[.pointer (some ⟨g,0,none⟩)] wr fun e w'=>e=.returned (.int .i64 0)∧RdAt w.heap.size g w' s'∧wr.grownBy w' (some g)):=Lib.hid hC'
     have cf:wr.cell? ⟨k0,j,none⟩=some (.func (.func 282) #[.pointer (some ⟨g,0,none⟩)] #[]):=cf'
     clear cf' hC'
     go_wp2_with (go_at_call 282;((with_reducible refine (HC.out).mono ?_);rintro e w5 ⟨rfl,hr5,hg5⟩;clear cf))
     go_roundw
     case rel=>exact⟨j+1,s',by go_num,by omega,hr5,HOK2,HFIN2,row_gr hS hg5 hne,Lib.hid (fun _=>⟨k0,rfl,row_gr HFN.out hg5 hkg⟩),hTT.out.gr hg5 (by omega),hB.grown hg5 hB.size (fun k hk=>by cases hk;omega)⟩
     case measure=>simp [intOf];omega
    ·have HC:Hid (Calls Tryz.prog 283 #[.pointer (some ⟨g,0,none⟩)] wr fun e w'=>e=.returned (.int .i64 0)∧RdAt w.heap.size g w' s'∧wr.grownBy w' (some g)):=Lib.hid hC'
     have cf:wr.cell? ⟨k0,j,none⟩=some (.func (.func 283) #[.pointer (some ⟨g,0,none⟩)] #[]):=cf'
     clear cf' hC'
     go_wp2_with (go_at_call 283;((with_reducible refine (HC.out).mono ?_);rintro e w5 ⟨rfl,hr5,hg5⟩;clear cf))
     go_roundw
     case rel=>exact⟨j+1,s',by go_num,by omega,hr5,HOK2,HFIN2,row_gr hS hg5 hne,Lib.hid (fun _=>⟨k0,rfl,row_gr HFN.out hg5 hkg⟩),hTT.out.gr hg5 (by omega),hB.grown hg5 hB.size (fun k hk=>by cases hk;omega)⟩
     case measure=>simp [intOf];omega
    ·have HC:Hid (Calls Tryz.prog 284 #[.pointer (some ⟨g,0,none⟩)] wr fun e w'=>e=.returned (.int .i64 0)∧RdAt w.heap.size g w' s'∧wr.grownBy w' (some g)):=Lib.hid hC'
     have cf:wr.cell? ⟨k0,j,none⟩=some (.func (.func 284) #[.pointer (some ⟨g,0,none⟩)] #[]):=cf'
     clear cf' hC'
     go_wp2_with (go_at_call 284;((with_reducible refine (HC.out).mono ?_);rintro e w5 ⟨rfl,hr5,hg5⟩;clear cf))
     go_roundw
     case rel=>exact⟨j+1,s',by go_num,by omega,hr5,HOK2,HFIN2,row_gr hS hg5 hne,Lib.hid (fun _=>⟨k0,rfl,row_gr HFN.out hg5 hkg⟩),hTT.out.gr hg5 (by omega),hB.grown hg5 hB.size (fun k hk=>by cases hk;omega)⟩
     case measure=>simp [intOf];omega
    ·have HC:Hid (Calls Tryz.prog 285 #[.pointer (some ⟨g,0,none⟩)] wr fun e w'=>e=.returned (.int .i64 0)∧RdAt w.heap.size g w' s'∧wr.grownBy w' (some g)):=Lib.hid hC'
     have cf:wr.cell? ⟨k0,j,none⟩=some (.func (.func 285) #[.pointer (some ⟨g,0,none⟩)] #[]):=cf'
     clear cf' hC'
     go_wp2_with (go_at_call 285;((with_reducible refine (HC.out).mono ?_);rintro e w5 ⟨rfl,hr5,hg5⟩;clear cf))
     go_roundw
     case rel=>exact⟨j+1,s',by go_num,by omega,hr5,HOK2,HFIN2,row_gr hS hg5 hne,Lib.hid (fun _=>⟨k0,rfl,row_gr HFN.out hg5 hkg⟩),hTT.out.gr hg5 (by omega),hB.grown hg5 hB.size (fun k hk=>by cases hk;omega)⟩
     case measure=>simp [intOf];omega
    ·have HC:Hid (Calls Tryz.prog 286 #[.pointer (some ⟨g,0,none⟩)] wr fun e w'=>e=.returned (.int .i64 0)∧RdAt w.heap.size g w' s'∧wr.grownBy w' (some g)):=Lib.hid hC'
     have cf:wr.cell? ⟨k0,j,none⟩=some (.func (.func 286) #[.pointer (some ⟨g,0,none⟩)] #[]):=cf'
     clear cf' hC'
     go_wp2_with (go_at_call 286;((with_reducible refine (HC.out).mono ?_);rintro e w5 ⟨rfl,hr5,hg5⟩;clear cf))
     go_roundw
     case rel=>exact⟨j+1,s',by go_num,by omega,hr5,HOK2,HFIN2,row_gr hS hg5 hne,Lib.hid (fun _=>⟨k0,rfl,row_gr HFN.out hg5 hkg⟩),hTT.out.gr hg5 (by omega),hB.grown hg5 hB.size (fun k hk=>by cases hk;omega)⟩
     case measure=>simp [intOf];omega
   ·obtain⟨rfl,rfl⟩:c=Cod.z∧er=x:=by
     have:=fin_err hst hx0 hfin1
     cases this;exact⟨rfl,rfl⟩
    clear hst hok1 hfin1 hd hkd hrow hOk hFin hFB hfn
    cases kd
    ·have HC:Hid (Calls Tryz.prog 278 #[.pointer (some ⟨g,0,none⟩)] wr fun e w'=>e=.returned (.int .i64 er)∧RdAt w.heap.size g w' s'∧wr.grownBy w' (some g)):=Lib.hid hC'
     have cf:wr.cell? ⟨k0,j,none⟩=some (.func (.func 278) #[.pointer (some ⟨g,0,none⟩)] #[]):=cf'
     clear cf' hC'
     go_wp2_with (first|(go_at_call 278;((with_reducible refine (HC.out).mono ?_);rintro e w5 ⟨rfl,hr5,hg5⟩;clear cf;have hS5:=row_gr hS hg5 hne))|(refine wpList_store_row rfl _ _ _ rfl w.heap.size codZ rfl rfl 211 _ hS5 (by kernel_rfl) rfl (by simp [Value.oneCell']) ?_))
     have hR:=setRow_heap _ _ _ codZ _ _ hS5
     obtain⟨q0,q1,q2,q3,q4,q5,q6,q7⟩:=cells8 hR
     exact bodyPost_ret (v:=.tuple #[.agg codZ,.int .i64 er]) (by simp [results,Tryz.results229,go_sem,q0,q1,q2,q3,q4,q5,q6,q7]) rfl ⟨rfl,below_setRow (hB.grown hg5 hB.size (fun k hk=>by cases hk;omega)) (Nat.le_refl _) _⟩
    ·have HC:Hid (Calls Tryz.prog 279 #[.pointer (some ⟨g,0,none⟩)] wr fun e w'=>e=.returned (.int .i64 er)∧RdAt w.heap.size g w' s'∧wr.grownBy w' (some g)):=Lib.hid hC'
     have cf:wr.cell? ⟨k0,j,none⟩=some (.func (.func 279) #[.pointer (some ⟨g,0,none⟩)] #[]):=cf'
     clear cf' hC'
     go_wp2_with (first|(go_at_call 279;((with_reducible refine (HC.out).mono ?_);rintro e w5 ⟨rfl,hr5,hg5⟩;clear cf;have hS5:=row_gr hS hg5 hne))|(refine wpList_store_row rfl _ _ _ rfl w.heap.size codZ rfl rfl 211 _ hS5 (by kernel_rfl) rfl (by simp [Value.oneCell']) ?_))
     have hR:=setRow_heap _ _ _ codZ _ _ hS5
     obtain⟨q0,q1,q2,q3,q4,q5,q6,q7⟩:=cells8 hR
     exact bodyPost_ret (v:=.tuple #[.agg codZ,.int .i64 er]) (by simp [results,Tryz.results229,go_sem,q0,q1,q2,q3,q4,q5,q6,q7]) rfl ⟨rfl,below_setRow (hB.grown hg5 hB.size (fun k hk=>by cases hk;omega)) (Nat.le_refl _) _⟩
    ·have HC:Hid (Calls Tryz.prog 280 #[.pointer (some ⟨g,0,none⟩)] wr fun e w'=>e=.returned (.int .i64 er)∧RdAt w.heap.size g w' s'∧wr.grownBy w' (some g)):=Lib.hid hC'
     have cf:wr.cell? ⟨k0,j,none⟩=some (.func (.func 280) #[.pointer (some ⟨g,0,none⟩)] #[]):=cf'
     clear cf' hC'
     go_wp2_with (first|(go_at_call 280;((with_reducible refine (HC.out).mono ?_);rintro e w5 ⟨rfl,hr5,hg5⟩;clear cf;have hS5:=row_gr hS hg5 hne))|(refine wpList_store_row rfl _ _ _ rfl w.heap.size codZ rfl rfl 211 _ hS5 (by kernel_rfl) rfl (by simp [Value.oneCell']) ?_))
     have hR:=setRow_heap _ _ _ codZ _ _ hS5
     obtain⟨q0,q1,q2,q3,q4,q5,q6,q7⟩:=cells8 hR
     exact bodyPost_ret (v:=.tuple #[.agg codZ,.int .i64 er]) (by simp [results,Tryz.results229,go_sem,q0,q1,q2,q3,q4,q5,q6,q7]) rfl ⟨rfl,below_setRow (hB.grown hg5 hB.size (fun k hk=>by cases hk;omega)) (Nat.le_refl _) _⟩
    ·have HC:Hid (Calls Tryz.prog 281 #[.pointer (some ⟨g,0,none⟩)] wr fun e w'=>e=.returned (.int .i64 er)∧RdAt w.heap.size g w' s'∧wr.grownBy w' (some g)):=Lib.hid hC'
     have cf:wr.cell? ⟨k0,j,none⟩=some (.func (.func 281) #[.pointer (some ⟨g,0,none⟩)] #[]):=cf'
     clear cf' hC'
     go_wp2_with (first|(go_at_call 281;((with_reducible refine (HC.out).mono ?_);rintro e w5 ⟨rfl,hr5,hg5⟩;clear cf;have hS5:=row_gr hS hg5 hne))|(refine wpList_store_row rfl _ _ _ rfl w.heap.size codZ rfl rfl 211 _ hS5 (by kernel_rfl) rfl (by simp [Value.oneCell']) ?_))
     have hR:=setRow_heap _ _ _ codZ _ _ hS5
     obtain⟨q0,q1,q2,q3,q4,q5,q6,q7⟩:=cells8 hR
     exact bodyPost_ret (v:=.tuple #[.agg codZ,.int .i64 er]) (by simp [results,Tryz.results229,go_sem,q0,q1,q2,q3,q4,q5,q6,q7]) rfl ⟨rfl,below_setRow (hB.grown hg5 hB.size (fun k hk=>by cases hk;omega)) (Nat.le_refl _) _⟩
    ·have HC:Hid (Calls Tryz.prog 282 #[.pointer (some ⟨g,0,none⟩)] wr fun e w'=>e=.returned (.int .i64 er)∧RdAt w.heap.size g w' s'∧wr.grownBy w' (some g)):=Lib.hid hC'
     have cf:wr.cell? ⟨k0,j,none⟩=some (.func (.func 282) #[.pointer (some ⟨g,0,none⟩)] #[]):=cf'
     clear cf' hC'
     go_wp2_with (first|(go_at_call 282;((with_reducible refine (HC.out).mono ?_);rintro e w5 ⟨rfl,hr5,hg5⟩;clear cf;have hS5:=row_gr hS hg5 hne))|(refine wpList_store_row rfl _ _ _ rfl w.heap.size codZ rfl rfl 211 _ hS5 (by kernel_rfl) rfl (by simp [Value.oneCell']) ?_))
     have hR:=setRow_heap _ _ _ codZ _ _ hS5
     obtain⟨q0,q1,q2,q3,q4,q5,q6,q7⟩:=cells8 hR
     exact bodyPost_ret (v:=.tuple #[.agg codZ,.int .i64 er]) (by simp [results,Tryz.results229,go_sem,q0,q1,q2,q3,q4,q5,q6,q7]) rfl ⟨rfl,below_setRow (hB.grown hg5 hB.size (fun k hk=>by cases hk;omega)) (Nat.le_refl _) _⟩
    ·have HC:Hid (Calls Tryz.prog 283 #[.pointer (some ⟨g,0,none⟩)] wr fun e w'=>e=.returned (.int .i64 er)∧RdAt w.heap.size g w' s'∧wr.grownBy w' (some g)):=Lib.hid hC'
     have cf:wr.cell? ⟨k0,j,none⟩=some (.func (.func 283) #[.pointer (some ⟨g,0,none⟩)] #[]):=cf'
     clear cf' hC'
     go_wp2_with (first|(go_at_call 283;((with_reducible refine (HC.out).mono ?_);rintro e w5 ⟨rfl,hr5,hg5⟩;clear cf;have hS5:=row_gr hS hg5 hne))|(refine wpList_store_row rfl _ _ _ rfl w.heap.size codZ rfl rfl 211 _ hS5 (by kernel_rfl) rfl (by simp [Value.oneCell']) ?_))
     have hR:=setRow_heap _ _ _ codZ _ _ hS5
     obtain⟨q0,q1,q2,q3,q4,q5,q6,q7⟩:=cells8 hR
     exact bodyPost_ret (v:=.tuple #[.agg codZ,.int .i64 er]) (by simp [results,Tryz.results229,go_sem,q0,q1,q2,q3,q4,q5,q6,q7]) rfl ⟨rfl,below_setRow (hB.grown hg5 hB.size (fun k hk=>by cases hk;omega)) (Nat.le_refl _) _⟩
    ·have HC:Hid (Calls Tryz.prog 284 #[.pointer (some ⟨g,0,none⟩)] wr fun e w'=>e=.returned (.int .i64 er)∧RdAt w.heap.size g w' s'∧wr.grownBy w' (some g)):=Lib.hid hC'
     have cf:wr.cell? ⟨k0,j,none⟩=some (.func (.func 284) #[.pointer (some ⟨g,0,none⟩)] #[]):=cf'
     clear cf' hC'
     go_wp2_with (first|(go_at_call 284;((with_reducible refine (HC.out).mono ?_);rintro e w5 ⟨rfl,hr5,hg5⟩;clear cf;have hS5:=row_gr hS hg5 hne))|(refine wpList_store_row rfl _ _ _ rfl w.heap.size codZ rfl rfl 211 _ hS5 (by kernel_rfl) rfl (by simp [Value.oneCell']) ?_))
     have hR:=setRow_heap _ _ _ codZ _ _ hS5
     obtain⟨q0,q1,q2,q3,q4,q5,q6,q7⟩:=cells8 hR
     exact bodyPost_ret (v:=.tuple #[.agg codZ,.int .i64 er]) (by simp [results,Tryz.results229,go_sem,q0,q1,q2,q3,q4,q5,q6,q7]) rfl ⟨rfl,below_setRow (hB.grown hg5 hB.size (fun k hk=>by cases hk;omega)) (Nat.le_refl _) _⟩
    ·have HC:Hid (Calls Tryz.prog 285 #[.pointer (some ⟨g,0,none⟩)] wr fun e w'=>e=.returned (.int .i64 er)∧RdAt w.heap.size g w' s'∧wr.grownBy w' (some g)):=Lib.hid hC'
     have cf:wr.cell? ⟨k0,j,none⟩=some (.func (.func 285) #[.pointer (some ⟨g,0,none⟩)] #[]):=cf'
     clear cf' hC'
     go_wp2_with (first|(go_at_call 285;((with_reducible refine (HC.out).mono ?_);rintro e w5 ⟨rfl,hr5,hg5⟩;clear cf;have hS5:=row_gr hS hg5 hne))|(refine wpList_store_row rfl _ _ _ rfl w.heap.size codZ rfl rfl 211 _ hS5 (by kernel_rfl) rfl (by simp [Value.oneCell']) ?_))
     have hR:=setRow_heap _ _ _ codZ _ _ hS5
     obtain⟨q0,q1,q2,q3,q4,q5,q6,q7⟩:=cells8 hR
     exact bodyPost_ret (v:=.tuple #[.agg codZ,.int .i64 er]) (by simp [results,Tryz.results229,go_sem,q0,q1,q2,q3,q4,q5,q6,q7]) rfl ⟨rfl,below_setRow (hB.grown hg5 hB.size (fun k hk=>by cases hk;omega)) (Nat.le_refl _) _⟩
    ·have HC:Hid (Calls Tryz.prog 286 #[.pointer (some ⟨g,0,none⟩)] wr fun e w'=>e=.returned (.int .i64 er)∧RdAt w.heap.size g w' s'∧wr.grownBy w' (some g)):=Lib.hid hC'
     have cf:wr.cell? ⟨k0,j,none⟩=some (.func (.func 286) #[.pointer (some ⟨g,0,none⟩)] #[]):=cf'
     clear cf' hC'
     go_wp2_with (first|(go_at_call 286;((with_reducible refine (HC.out).mono ?_);rintro e w5 ⟨rfl,hr5,hg5⟩;clear cf;have hS5:=row_gr hS hg5 hne))|(refine wpList_store_row rfl _ _ _ rfl w.heap.size codZ rfl rfl 211 _ hS5 (by kernel_rfl) rfl (by simp [Value.oneCell']) ?_))
     have hR:=setRow_heap _ _ _ codZ _ _ hS5
     obtain⟨q0,q1,q2,q3,q4,q5,q6,q7⟩:=cells8 hR
     exact bodyPost_ret (v:=.tuple #[.agg codZ,.int .i64 er]) (by simp [results,Tryz.results229,go_sem,q0,q1,q2,q3,q4,q5,q6,q7]) rfl ⟨rfl,below_setRow (hB.grown hg5 hB.size (fun k hk=>by cases hk;omega)) (Nat.le_refl _) _⟩
  ·obtain rfl:j=m:=by omega
   have hfin1:=hFin.out
   rw [List.drop_eq_nil_of_le (by rw [HM.out];exact Nat.le_refl _)] at hfin1
   obtain⟨rfl,rfl⟩:c=⟨s.x,s.tg,s.mp⟩∧er=0:=by
    have e:fin (runs [] s)=(⟨s.x,s.tg,s.mp⟩,0):=rfl
    rw [e] at hfin1
    cases hfin1;exact⟨rfl,rfl⟩
   clear hfin1 hOk hFin hFB
   obtain⟨vv,hrow⟩:=rd_row hrd
   obtain⟨r0,r1,r2,r3,r4,r5,r6,r7,r8⟩:=cells9 hrow
   clear hrow r0
   go_wp2_with (refine wpList_store_row rfl _ _ _ rfl w.heap.size (codA s.x s.tg s.mp) rfl rfl 211 _ hS (by kernel_rfl) rfl (by simp [Value.oneCell']) ?_)
   have hR:=setRow_heap _ _ _ (codA s.x s.tg s.mp) _ _ hS
   obtain⟨q0,q1,q2,q3,q4,q5,q6,q7⟩:=cells8 hR
   exact bodyPost_ret (v:=.tuple #[.agg (codA s.x s.tg s.mp),.int .i64 0]) (by simp [results,Tryz.results229,go_sem,q0,q1,q2,q3,q4,q5,q6,q7]) rfl ⟨rfl,below_setRow hB (Nat.le_refl _) _⟩
end Go.Proofs.YtdgnjhhieemcaaaGreatDoor.L9
