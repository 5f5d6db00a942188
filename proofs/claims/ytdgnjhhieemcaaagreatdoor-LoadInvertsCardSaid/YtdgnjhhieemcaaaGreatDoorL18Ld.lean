/- What Load returns: the image of a valid object, or the slot and the error. Condition: memory holds the object, whose lists are no longer than 100000, and the tables read as laid. -/
import Derived.Test.YtdgnjhhieemcaaaGreatDoorM29
import Derived.Test.YtdgnjhhieemcaaaGreatDoorM31
import Derived.Maps.OwnIn
set_option maxHeartbeats 16000000
namespace Go.Proofs.YtdgnjhhieemcaaaGreatDoor.L18
set_option maxRecDepth 100000
open Go.RowKit Go.Maps Go.Shelf L3 L4 L12 L14 L17
open L13 (Ob)
open L16 (chE OA OS Tb tb_below)
attribute [local go_sem] Oper.semAt_some
abbrev OwnI (W:World) (g n:Nat) (D:DataW Unit):Prop:=W.ownsMap Tryz.prog 3 (plainElem Tryz.prog 3) g n D
def MpI (D:DataW Unit) (f:Int→Int):Prop:=∀ s,wfI s→D.atKey (.int .i64 s) (.lit (.int .i64 0))=.lit (.int .i64 (f s))
theorem MpI.put {D:DataW Unit} {f f':Int→Int} {k v:Int} (h:MpI D f) (hD:IsMap D) (hf:∀ s,f' s=if k=s then v else f s):MpI (D.put (.int .i64 k) (.lit (.int .i64 v))) f':=fun s hs=>by
 rw [hf]
 by_cases e:k=s
 ·subst e
  rw [if_pos rfl,atKey_put_same hD (klit k)]
 ·rw [if_neg e,atKey_put_other (lit_ne (fun h=>e h.symm)),h s hs]
theorem owni_below {w w':World} {g n:Nat} {D:DataW Unit} (h:OwnI w g n D) (hb:Below w.heap.size w w'):OwnI w' g n D:=h.kept (row:=none) ⟨hb.os,hb.tape,hb.output,hb.size,fun k hk _=>hb.block k hk⟩ (by simp)
theorem insL_in (l:List L9.Ins):L5.insL (l.map L13.tI)=inC l:=by
 simp only [L5.insL,inC,List.flatMap_map]
 rfl
theorem inC_imm:∀ (l:List L9.Ins) (j:Nat) (hj:j<l.length) (d:Int),inC (l.set j (wI l[j] d))=(inC l).set (j*6+5) (.int .i64 d)
 | [],j,hj,_=>absurd hj (by simp)
 | x::r,0,_,d=>by simp [inC,wI]
 | x::r,j+1,hj,d=>by
  have ih:=inC_imm r j (by simpa using hj) d
  simp only [inC,List.set_cons_succ,List.flatMap_cons,List.getElem_cons_succ] at ih ⊢
  rw [ih,show (j+1)*6+5=j*6+5+6 by omega]
  rfl
theorem inC_at {l:List L9.Ins} {j:Nat} (h:j<l.length) (i:Nat) (u:Value) (hu:(L10.inL l[j])[i]?=some u):(inC l)[j*6+i]?=some u:=inC_get l j h i u hu
def WrI (W0:World) (B b c:Nat) (l:List L9.Ins) (g:Nat→Int) (pre:List (Fin l.length)) (W:World):Prop :=
 W0.grownBy W (some b)∧W.ownsRow B 45 6 (.slice (some ⟨b,0,none⟩) l.length c) l.length (inC (wS l g pre))
theorem wrI_own (W0:World) (B b c:Nat) (l:List L9.Ins) (g:Nat→Int) (hb:b<W0.heap.size):OwnFrom W0.heap.size (WrI W0 B b c l g):=by
 intro pre X Y row hs hg hr
 have hne:∀ k,k<W0.heap.size→some k≠row:=fun k hk e=>by have:=(hr k e.symm).1;omega
 refine⟨⟨hg.os.trans hs.1.os,hg.tape.trans hs.1.tape,hg.output.trans hs.1.output,Nat.le_trans hs.1.size hg.size,fun k hk h=>(hg.block k (Nat.lt_of_lt_of_le hk hs.1.size) (hne k hk)).trans (hs.1.block k hk h)⟩,hs.2.kept hg (.inr (hne b hb))⟩
theorem WrI.put {W0:World} {B b c:Nat} {l:List L9.Ins} {g:Nat→Int} {pre:List (Fin l.length)} {A:World} (h:WrI W0 B b c l g pre A) (x:Fin l.length):WrI W0 B b c l g (pre++[x]) (A.setCell ⟨b,x.1*6+5,none⟩ (.int .i64 (g x.1))):=by
 obtain⟨h1,h2⟩:=h.2.stored (x.1*6+5) (.int .i64 (g x.1))
 have hx:x.1<(wS l g pre).length:=by rw [wS_len];exact x.2
 rw [← inC_imm _ _ hx,← atI_is hx,← wS_snoc] at h1
 exact⟨⟨h2.os.trans h.1.os,h2.tape.trans h.1.tape,h2.output.trans h.1.output,Nat.le_trans h.1.size h2.size,fun k hk e=>(h2.block k (Nat.lt_of_lt_of_le hk h.1.size) e).trans (h.1.block k hk e)⟩,h1⟩
theorem WrI.block {W0:World} {B b c:Nat} {l:List L9.Ins} {g:Nat→Int} {pre:List (Fin l.length)} {A:World} (h:WrI W0 B b c l g pre A) {k:Nat} {u:Obj} (hk:W0.heap[k]?=some u) (hne:k≠b):A.heap[k]?=some u:=(h.1.block k (lt_of_block hk) (by simpa using hne)).trans hk
theorem WrI.low {W0 w:World} {B b c:Nat} {l:List L9.Ins} {g:Nat→Int} {pre:List (Fin l.length)} {A:World} (h:WrI W0 B b c l g pre A) (hb:Below w.heap.size w W0) (hn:w.heap.size≤b):Below w.heap.size w A:=hb.grown h.1 hb.size (fun q e=>by cases e;exact hn)
theorem WrI.cur {W0:World} {B b c:Nat} {l:List L9.Ins} {g:Nat→Int} {pre:List (Fin l.length)} {A:World} (h:WrI W0 B b c l g pre A) (hp:0<l.length):∃ cs,A.heap[b]?=some (.cells cs 45):=by
 rcases h.2.2 with ⟨-,h0⟩|⟨q,cap,cur,hv,hg,hh,r⟩
 ·omega
 ·cases hv
  exact⟨_,hh⟩
theorem wrI_zero {W0:World} {B b c n:Nat} {l:List L9.Ins} {g:Nat→Int} (hn:l.length=n) (h:W0.ownsRow B 45 6 (.slice (some ⟨b,0,none⟩) n c) n (inC l)):WrI W0 B b c l g [] W0:=by
 subst hn
 exact⟨World.grownBy.refl _ _,h⟩
theorem kr_put {A:World} {b o N i:Nat} {v:Value} {cs:Array Value} (hb:A.heap[b]?=some (.cells cs 45)) (ho:o=0):KR b o N A (A.setCell ⟨b,i*6+5,none⟩ v):=by
 subst ho
 have hoth:∀ (k:Nat) (ds:Array Value) (t:TypeId) (fr:Nat × Nat),t≠45→A.heap[k]?=some (.cells ds t fr)→(A.setCell ⟨b,i*6+5,none⟩ v).heap[k]?=some (.cells ds t fr):=fun k ds t fr ht e=>by
  have hne:k≠b:=fun h=>by
   subst h
   rw [hb] at e
   simp only [Option.some.injEq,Obj.cells.injEq] at e
   exact ht e.2.1.symm
  exact (Below.heap_setCell _ _ _ _ hne).trans e
 refine⟨by simp,fun k ds fr e=>hoth k ds _ fr (by decide) e,fun k ds fr e=>hoth k ds _ fr (by decide) e,fun j hj u e=>?_⟩
 have h2:=cells_set (k:=i*6+5) (v:=v) hb
 unfold World.cell? at e ⊢
 simp only [hb] at e
 simp only [h2]
 rw [Array.getElem?_setIfInBounds_ne (by omega)]
 exact e
theorem cells2 {w:World} {k:Nat} {a b:Value} {t:TypeId} (h:w.heap[k]?=some (.cells #[a,b] t)):w.cell? ⟨k,0,none⟩=some a∧w.cell? ⟨k,1,none⟩=some b:=⟨by simp [World.cell?,h],by simp [World.cell?,h]⟩
theorem frozen_all {w:World} {k:Nat} {cs:Array Value} {t:TypeId} (h:w.heap[k]?=some (.cells cs t)) (i:Nat):w.frozen? ⟨k,i,none⟩=false:=by simp [World.frozen?,h]
theorem gen_act {F:Fence} {n:Nat} {P:Program} {C:Code} {Q:Exit→Act→World→Prop} {a:Act} {w:World} (h:∀ T,T=a→C.wpIn F n P Q T w):C.wpIn F n P Q a w:=h a rfl
theorem load_no (vm vc vr:Value) (o:Ob) (S E:Int) (w:World) (ho:OA w vm vc vr o) (hs:OS o) (hT:Tb w) (hR:vE o=(S,E)) (h0:E≠0) :
  Calls Tryz.prog 11 #[.agg #[vm,vc,vr]] w fun e w'=>e=.returned (.tuple #[.agg #[.slice none 0 0,.slice none 0 0],.int .i64 S,.int .i64 E])∧Below w.heap.size w w':=by
 have HC:=Lib.hid (fun (W:World) (h:Below w.heap.size w W)=>vcode_no vm vc vr o S E W (ho.below h) hs (tb_below hT h) hR h0)
 have HK:=Lib.hid (fun (W:World) (h:Below w.heap.size w W)=>vcheck_at vm vc vr o S E W (ho.below h) hs (tb_below hT h) hR)
 have hzb:(E != 0)=true:=by simpa using h0
 obtain⟨a1,c1,a2,c2,a3,c3,rfl,rfl,rfl⟩:=oa_form ho
 clear ho hs hT hR h0
 generalize o.maps.length=d at *
 generalize o.rels.length=m at *
 generalize o.code.length=cl at *
 refine (callsIn_wide (n:=6)).1 ?_
 refine callsIn_of_wp_marks Tryz.func11 rfl trivial ?_ rfl
 simp only [Tryz.ntmps11,List.size_toArray,List.length_cons,List.length_nil,Nat.reduceAdd,Nat.reduceSub,Array.replicate_succ,Array.replicate_zero,List.push_toArray,List.append_toArray,List.nil_append,List.cons_append]
 have HB0:=Lib.hid (bch (bnew w (.cells #[.slice a1 d c1,.slice a2 cl c2,.slice a3 m c3] 26)) (bnew _ (.cells #[.slice none 0 0,.slice none 0 0] 31)))
 have K0:=Lib.hid (And.intro (L8.row_up (heap_alloc_last w (.cells #[.slice a1 d c1,.slice a2 cl c2,.slice a3 m c3] 26)) (bnew _ (.cells #[.slice none 0 0,.slice none 0 0] 31))) (heap_alloc_last (w.alloc (.cells #[.slice a1 d c1,.slice a2 cl c2,.slice a3 m c3] 26)) (.cells #[.slice none 0 0,.slice none 0 0] 31)))
 gi_wp2_with (first
  | (refine⟨trivial,?_⟩;gi_at_call 28;refine (callsIn_wide.2 (HC.out _ HB0.out)).mono ?_;rintro e w1 ⟨rfl,b1⟩;have B1:=bch HB0.out b1;have k1:=L8.row_up K0.out.1 b1;have j1:=L8.row_up K0.out.2 b1;obtain⟨x0,x1,x2⟩:=L13.cells3 k1;have lx:=lt_of_block k1)
  | (refine⟨trivial,?_⟩;gi_at_call 29;refine (callsIn_wide.2 (HK.out _ B1)).mono ?_;rintro e w2 ⟨rfl,b2⟩;have j2:=L8.row_up j1 b2;rw [World.size_alloc] at j2;obtain⟨z0,z1⟩:=cells2 j2;have hz0:=lt_of_block j2;have fz:=frozen_all j2))
 have hS:=cells_set (k:=1) (v:=.slice none 0 0) (cells_set (k:=0) (v:=.slice none 0 0) j2)
 obtain⟨w0,w1'⟩:=cells2 hS
 refine⟨.tuple #[.agg #[.slice none 0 0,.slice none 0 0],.int .i64 S,.int .i64 E],by simp [results,Tryz.results11,go_sem,w0,w1'],rfl,?_⟩
 exact L10.bel_set (L10.bel_set (bch B1 b2) (by show w.heap.size≤w.heap.size+1;omega) 0 (.slice none 0 0)) (by show w.heap.size≤w.heap.size+1;omega) 1 (.slice none 0 0)
structure ImO (B:Nat) (W:World) (vm vc:Value) (d n:Nat) (ms:List L9.Df) (m:List L9.Ins):Prop where
 hd:ms.length=d
 hn:m.length=n
 om:W.ownsRow B 83 4 vm d (ms.flatMap L10.dfL)
 oc:W.ownsRow B 45 6 vc n (inC m)
theorem ImO.df {B:Nat} {W:World} {vm vc:Value} {d n:Nat} {ms:List L9.Df} {m:List L9.Ins} (h:ImO B W vm vc d n ms m):L10.DfAt W vm ms:=L13.own_df h.hd h.om
theorem ImO.is {B:Nat} {W:World} {vm vc:Value} {d n:Nat} {ms:List L9.Df} {m:List L9.Ins} (h:ImO B W vm vc d n ms m):IsAt W vc m:=own_ins h.hn h.oc
theorem ImO.below {B:Nat} {W W':World} {vm vc:Value} {d n:Nat} {ms:List L9.Df} {m:List L9.Ins} (h:ImO B W vm vc d n ms m) (hb:Below W.heap.size W W'):ImO B W' vm vc d n ms m:=⟨h.hd,h.hn,L8.own_below h.om hb,L8.own_below h.oc hb⟩
def LdP (o:Ob) (n:Nat) (w:World) (e:Ending) (w':World):Prop :=
 (∃ am cm ac cc,e=.returned (.tuple #[.agg #[.slice am o.maps.length cm,.slice ac n cc],.int .i64 0,.int .i64 0])∧ImO w.heap.size w' (.slice am o.maps.length cm) (.slice ac n cc) o.maps.length n o.maps (ldL o))∧Below w.heap.size w w'
theorem load_yes (vm vc vr:Value) (o:Ob) (S:Int) (n:Nat) (w:World) (ho:OA w vm vc vr o) (hs:OS o) (hT:Tb w) (hR:vE o=(S,0)) (hn:(inL o.code).length=n) :
  Calls Tryz.prog 11 #[.agg #[vm,vc,vr]] w fun e w'=>LdP o n w e w':=by
 have hV:=vd_of (o:=o) (by rw [hR])
 have hg:=L16.gd_of hV.ch
 have hpos:=inL_pos hg hV.la
 rw [hn] at hpos
 have hlen:=inL_len hV.la
 have hll:=len_le (inL o.code) (inL_sl hV.la)
 have hcm:=hs.c
 have hnm:n≤100000:=by omega
 obtain⟨m,hm⟩:∃ m,o.rels.length=m:=⟨_,rfl⟩
 obtain⟨d,hd⟩:∃ d,o.maps.length=d:=⟨_,rfl⟩
 have hmm:=hs.r
 rw [hm] at hmm
 have HRL:=Lib.hid hg.rl
 have HCL:=Lib.hid (And.intro hs.c hs.m)
 have HO:=Lib.hid (fun (W:World) (h:Below w.heap.size w W)=>And.intro (ho.below h) (tb_below hT h))
 have HC:=Lib.hid (fun (W:World) (h:Below w.heap.size w W)=>vcode_own vm vc vr o S n W (ho.below h) hs (tb_below hT h) hR hn)
 obtain⟨a1,c1,a2,c2,a3,c3,rfl,rfl,rfl⟩:=oa_form ho
 rw [hm,hd] at HO HC
 have HN:=Lib.hid (And.intro hn (And.intro hm hd))
 have hmk:∀ W,(Instr.makeMap 74 (some (.int .i64 (m:Int)))).run Tryz.prog W=.ok (.map (some W.heap.size)) (W.alloc (.map #[] 0)):=fun W=>by simp [Instr.makeMap,go_sem]
 unfold LdP
 rw [hd]
 rw [hm]
 clear ho hs hT hR hV hg hlen hll hcm hn hm hd
 obtain⟨cl,hcl⟩:∃ cl,o.code.length=cl:=⟨_,rfl⟩
 rw [hcl] at HO HC ⊢
 clear hcl
 refine (callsIn_wide (n:=6)).1 ?_
 refine callsIn_of_wp_marks Tryz.func11 rfl trivial ?_ rfl
 simp only [Tryz.ntmps11,List.size_toArray,List.length_cons,List.length_nil,Nat.reduceAdd,Nat.reduceSub,Array.replicate_succ,Array.replicate_zero,List.push_toArray,List.append_toArray,List.nil_append,List.cons_append]
 have HB0:=Lib.hid (bch (bnew w (.cells #[.slice a1 d c1,.slice a2 cl c2,.slice a3 m c3] 26)) (bnew _ (.cells #[.slice none 0 0,.slice none 0 0] 31)))
 have K0:=Lib.hid (And.intro (L8.row_up (heap_alloc_last w (.cells #[.slice a1 d c1,.slice a2 cl c2,.slice a3 m c3] 26)) (bnew _ (.cells #[.slice none 0 0,.slice none 0 0] 31))) (heap_alloc_last (w.alloc (.cells #[.slice a1 d c1,.slice a2 cl c2,.slice a3 m c3] 26)) (.cells #[.slice none 0 0,.slice none 0 0] 31)))
 gi_wp2_with (refine⟨trivial,?_⟩;gi_at_call 28;refine (callsIn_wide.2 (HC.out _ HB0.out)).mono ?_;rintro e w1 ⟨⟨a,c,rfl,hi,hown⟩,b1⟩;obtain⟨b,cc,hbe,-,-⟩:=hown.form hpos;cases hbe;rw [insL_in] at hown;have HI:=Lib.hid (And.intro hi hown);have B1:=bch HB0.out b1;have k1:=L8.row_up K0.out.1 b1;have j1:=L8.row_up K0.out.2 b1;obtain⟨x0,x1,x2⟩:=L13.cells3 k1;have lx:=lt_of_block k1)
 have KB:=Lib.hid (And.intro B1 (And.intro k1 j1))
 have ks0:=heap_alloc_last (w1.alloc (.map #[] 0)) (.cells #[.map (some w1.heap.size)] 74)
 rw [World.size_alloc] at ks0
 have HS0:Hid (MpI (.map []) (fun s=>syL (o.rels.take 0) s 0)∧((w1.alloc (.map #[] 0)).alloc (.cells #[.map (some w1.heap.size)] 74)).heap[w1.heap.size+1]?=some (.cells #[.map (some w1.heap.size)] 74)∧Below w1.heap.size w1 ((w1.alloc (.map #[] 0)).alloc (.cells #[.map (some w1.heap.size)] 74))):=Lib.hid ⟨fun _ _=>rfl,ks0,bch (bnew _ _) (bnew _ _)⟩
 clear x0 x1 x2 lx hmk hi hown k1 j1 B1 b1 ks0 HC
 have HSZ:=Lib.hid KB.out.1.size
 gi_loopw [33] (fun i wr=>∃ (j:Nat) (D:DataW Unit),j≤m∧i=.int .i64 (j:Int)∧OwnI wr w1.heap.size j D∧Hid (MpI D (fun s=>syL (o.rels.take j) s 0)∧wr.heap[w1.heap.size+1]?=some (.cells #[.map (some w1.heap.size)] 74)∧Below w1.heap.size w1 wr)) (fun i _=>m-(RowKit.intOf i).toNat)
 case atStart=>exact⟨0,.map [],Nat.zero_le _,rfl,(World.ownsMap_made _ _ _ _).alloc _,HS0⟩
 case round =>
  obtain⟨j,D,hj,rfl,hown,hI⟩:=hrel
  clear HS0
  by_cases hlt:j<m
  ·have hjl:j<o.rels.length:=by rw [HN.out.2.1];exact hlt
   obtain⟨ra,rc,hrv,hrc⟩:=L13.ro_form HN.out.2.1 (HO.out wr (bch KB.out.1 hI.out.2.2)).1.r
   cases hrv
   obtain⟨rb,ro,rfl,hrb,hcc⟩:=hrc (by omega)
   obtain⟨y0,y1⟩:=hcc j hjl
   obtain⟨q1,q2,q3⟩:=rlF_lt _ _ _ _ HRL.out
   have g1:=q1 _ (List.getElem_mem hjl)
   have g3:=q3 _ (List.getElem_mem hjl)
   have HX:=Lib.hid (fun s=>by have:=syL_snoc (o.rels.take j) o.rels[j] s 0;rwa [← List.take_succ_eq_append_getElem hjl] at this:∀ s,syL (o.rels.take (j+1)) s 0=if o.rels[j].1=s then o.rels[j].2 else syL (o.rels.take j) s 0)
   obtain⟨hcl,hml⟩:=HCL.out
   obtain⟨s1,hs1⟩:∃ z,o.rels[j].1=z:=⟨_,rfl⟩
   obtain⟨s2,hs2⟩:∃ z,o.rels[j].2=z:=⟨_,rfl⟩
   rw [hs1] at y0 HX g1 g3
   rw [hs2] at y1 HX g3
   have z0:=L13.one_cell hI.out.2.1
   have lz:=lt_of_block hI.out.2.1
   have hkey:=key_of (s:=s1) (wf_in (by omega) (by omega))
   have hwf2:=wf_in (s:=s2) (by omega) (by omega)
   have HJ:=Lib.hid hI.out
   have hxv:=hI.out.1
   clear hs1 hs2 g1 g3 q1 q2 q3 hcc hrc hcl hml hI HRL HCL HO HN
   gi_wp2_with (gi_at_mapUpdate;refine wpListIn_mapUpdate_own _ rfl _ _ _ 74 rfl 3 3 lawI Tryz.underlying74 (plainElem (H:=Unit) Tryz.prog 3) w1.heap.size j _ rfl (hown.alloc _) (by unfold maxLen;omega) _ _ _ rfl rfl hkey _ [] (plainElem_int Tryz.underlying3 hwf2) ?_;intro w2 hown2 hgrow2)
   go_roundw
   case rel=>exact⟨j+1,_,hlt,by go_num,hown2,Lib.hid ⟨hxv.put hown.isMap HX.out,(hgrow2.block _ (by simp;omega) (by simp)).trans (L8.row_up HJ.out.2.1 (bnew _ _)),(HJ.out.2.2.alloc HJ.out.2.2.size _).grown hgrow2 (by have:=HJ.out.2.2.size;simp;omega) (fun q hq=>by cases hq;exact Nat.le_refl _)⟩⟩
   case measure=>simp [RowKit.intOf];omega
  ·obtain rfl:j=m:=by omega
   have HM:Hid (MpI D (fun s=>syL o.rels s 0)∧wr.heap[w1.heap.size+1]?=some (.cells #[.map (some w1.heap.size)] 74)∧Below w1.heap.size w1 wr):=Lib.hid (by
    have:=hI.out
    rw [← HN.out.2.1,List.take_length] at this
    exact this)
   clear hI
   gi_wp2_with (refine⟨trivial,?_⟩;gi_at_call 30;refine (callsIn_wide.2 (references_fn (some ⟨b,0,none⟩) n c _)).mono ?_;rintro e w3 ⟨rfl,rfl⟩)
   have hB:(wr.alloc (.cells #[.slice (some ⟨b,0,none⟩) n c] 29)).heap[wr.heap.size]?=some (.cells #[.slice (some ⟨b,0,none⟩) (inL o.code).length c] 29):=by rw [HN.out.1];exact heap_alloc_last _ _
   have hbw:=bch HM.out.2.2 (bnew wr (.cells #[.slice (some ⟨b,0,none⟩) n c] 29))
   have hsy:=L8.row_up HM.out.2.1 (bnew wr (.cells #[.slice (some ⟨b,0,none⟩) n c] 29))
   have hbl:=(HI.out.2.form hpos)
   obtain⟨b',cc',e',hb1,hb2⟩:=hbl
   cases e'
   have hlz:=HM.out.2.2.size
   have hrw:=L8.own_below HI.out.2 hbw
   simp only [World.size_alloc] at hb1 hrw
   have hI0:WrI (wr.alloc (.cells #[.slice (some ⟨b,0,none⟩) n c] 29)) w.heap.size b c (inL o.code) (fun i=>syL o.rels (stN (inL o.code) i:Int) 0) [] (wr.alloc (.cells #[.slice (some ⟨b,0,none⟩) n c] 29)):=wrI_zero HN.out.1 (own_weak hrw (show w.heap.size≤w.heap.size+1+1 by omega))
   have hown0:=owni_below hown (bnew wr (.cells #[.slice (some ⟨b,0,none⟩) n c] 29))
   have hzz:(wr.alloc (.cells #[.slice (some ⟨b,0,none⟩) n c] 29)).heap.size=wr.heap.size+1:=by simp
   have hob:=hI0
   have HX:=Lib.hid (And.intro HM.out.1 (And.intro hown0 (And.intro hsy (bch KB.out.1 hbw))))
   have HA:=Lib.hid (And.intro (L8.row_up KB.out.2.1 hbw) (L8.row_up KB.out.2.2 hbw))
   have hv:=HI.out.1.below hbw
   have hlen:(inL o.code).length≤100000:=by rw [HN.out.1];exact hnm
   have hv':IsAt (wr.alloc (.cells #[.slice (some ⟨b,0,none⟩) n c] 29)) (.slice (some ⟨b,0,none⟩) (inL o.code).length c) (inL o.code):=by rw [HN.out.1];exact hv
   have HS:=Lib.hid (refs_stops 5 (by omega) wr.heap.size b 0 c (inL o.code) hlen _ hB hv')
   have HNB:=Lib.hid (And.intro hb1 (And.intro hb2 hlz))
   clear hB hv hv' hown0 hsy HM hI0 hown HI hbw hrw K0 HB0 KB HSZ HRL
   generalize hW0:wr.alloc (.cells #[.slice (some ⟨b,0,none⟩) n c] 29)=W0 at *
   obtain⟨l,hl⟩:∃ l,inL o.code=l:=⟨_,rfl⟩
   obtain⟨g,hg⟩:∃ g:Nat→Int,(fun i=>syL o.rels (stN l i:Int) 0)=g:=⟨_,rfl⟩
   rw [hl,hg] at hob
   rw [hl] at HS hlen
   have HLG:=Lib.hid (And.intro hl hg)
   clear hl hg hW0
   refine gen_act fun T hT=>?_
   refine wpIn_rangeFunc_ownH rfl (by omega) (gf:=60) (lb:=#[.pointer (some ⟨wr.heap.size,0,none⟩)]) (by rw [hT];rfl) trivial (enters_of Tryz.func60 (by kernel_rfl) rfl)
    HS.out (fun h k=>h.t k) (fun W l q q' _ h2 h3 _=>KR.b W l q q' h2 h3) (Below.refl _ _) (fun _=>rfl)
    (WrI W0 w.heap.size b c l g) (fun _ _ _=>False) (wrI_own W0 _ b c l g (by omega)) (fun _=>ownFrom_pure _ _) hob
    (fun x a' _=>a'={ tmps:=(((T.tmps.setIfInBounds 45 (.int .i64 ((min (stN l x.1) 10000000:Nat):Int))).setIfInBounds 46 (.pointer (some ⟨b,x.1*6,none⟩))).setIfInBounds 9 (.int .i64 ((min (stN l x.1) 10000000:Nat):Int))).setIfInBounds 10 (.pointer (some ⟨b,x.1*6,none⟩)),defers:=[] }) (fun _ _=>ownFrom_pure _ _)
    ?assign ?body ?done ?stop
   case assign =>
    rintro lp pre x W K hI hK
    subst hT
    gi_wp2
    exact hK _ _ (KeepsFrom.refl _ _) (KR.below (Below.refl _ _)) hI (by rfl)
   case body =>
    rintro lp pre x a' W hlp hlr hI rfl hlt
    have e:=stN_le l x.1
    have e2:=x.2
    have hfz:=hI.2.frozenAt (x.1*6+5)
    obtain⟨u4,hu4⟩:∃ u,W.cell? ⟨b,x.1*6+5,none⟩=some u:=by
     have hcA:=hI.2.cellAt (x.1*6+5) (by omega)
     have hlenI:=hI.2.1
     rw [hcA]
     exact⟨_,List.getElem?_eq_getElem (by omega)⟩
    have y0:=L13.one_cell (hI.block HX.out.2.2.1 (by have:=HNB.out;omega))
    have hownW:=HX.out.2.1.kept hI.1 (by simp;have:=HNB.out;omega)
    have HP:=Lib.hid (hI.put x)
    have hkey:=key_of (s:=(stN l x.1:Int)) (wf_in (by omega) (by omega))
    have HG:=Lib.hid (fun (z:Int) (hz:D.atKey (.int .i64 (stN l x.1:Int)) (.lit (.int .i64 0))=.lit (.int .i64 z))=>show z=g x.1 by
     have h1:=HX.out.1 _ (wf_in (s:=(stN l x.1:Int)) (by omega) (by omega))
     rw [h1] at hz
     rw [← HLG.out.2]
     cases hz
     rfl)
    rw [Nat.min_eq_left (by omega)]
    subst hT
    generalize stN l x.1=s at *
    gi_wp2_with (gi_at_lookup;refine wpListIn_lookup_own_int _ rfl _ _ 74 rfl 3 3 .i64 lawI Tryz.underlying74 Tryz.underlying3 (by kernel_rfl) w1.heap.size j _ rfl hownW _ _ rfl hkey ?_;intro z hz hwz;have hzg:=HG.out z hz;subst hzg)
    obtain⟨cs,hcs⟩:=hI.cur (Nat.lt_of_le_of_lt (Nat.zero_le _) e2)
    exact⟨(KeepsOthers.setCell _ _ _).from _,kr_put hcs rfl,HP.out⟩
   case done =>
    rintro D ys W hD rfl hI hK
    subst hT
    have HB:=Lib.hid (hI.low HX.out.2.2.2 (by have:=HNB.out;omega))
    obtain⟨x0,-,-⟩:=L13.cells3 (hI.block HA.out.1 (by have:=HNB.out;omega))
    have hA2:=HA.out.2
    rw [World.size_alloc] at hA2
    have r2:=hI.block hA2 (by have:=HNB.out;omega)
    have HC:=Lib.hid (fun (X:World) (hX:Below w.heap.size w X)=>L10.cloneD_at (.slice a1 d c1) d (o.maps.flatMap L10.dfL) X (by rw [← HN.out.2.2];exact HCL.out.2) (by rw [← HN.out.2.2];exact L10.flat_len L10.dfL 4 (fun _=>rfl) _) (L10.one_df o.maps) (by have:=(HO.out X hX).1.m.flat;rwa [HN.out.2.2] at this))
    have HK:=Lib.hid (And.intro hK (And.intro hI.2 hD))
    have hli:(wS l g (rfF l l.length)).length=n:=by rw [wS_len,← HLG.out.1];exact HN.out.1
    have HW:=Lib.hid (And.intro hli (show wS l g (rfF l l.length)=ldL o by rw [wS_is l g _ (Nat.le_refl _),← HLG.out.2,← HLG.out.1];rfl))
    have hwn:l.length=n:=by rw [← HLG.out.1];exact HN.out.1
    clear hI hK hob HS hA2 HCL hli
    gi_wp2_with (refine⟨trivial,?_⟩;gi_at_call 31;refine (callsIn_wide.2 (HC.out _ HB.out)).mono ?_;rintro e w4 ⟨v',rfl,hrow4,b4⟩;obtain⟨va,vc,rfl⟩:=L14.owns_slice hrow4;have r4:=L8.row_up r2 b4;obtain⟨z0,z1⟩:=cells2 r4;have hz0:=lt_of_block r4;have fz:=frozen_all r4)
    have hKW:=(b4.block D (lt_of_block HK.out.1)).trans HK.out.1
    have hlw:=HB.out.size
    have hDl:=HK.out.2.2
    have hr2:=lt_of_block r2
    have hsb:=HNB.out
    have hKD:((w4.setCell ⟨w.heap.size+1,0,none⟩ (.slice va d vc)).setCell ⟨w.heap.size+1,1,none⟩ (.slice (some ⟨b,0,none⟩) n c)).heap[D]?=some (.deferred (some [])):=(Below.heap_setCell _ _ _ _ (by show D≠w.heap.size+1;omega)).trans ((Below.heap_setCell _ _ _ _ (by show D≠w.heap.size+1;omega)).trans hKW)
    have hS:=cells_set (k:=1) (v:=.slice (some ⟨b,0,none⟩) n c) (cells_set (k:=0) (v:=.slice va d vc) r4)
    have hSp:=(World.putObj_heap_other (o:=.deferred none) (show w.heap.size+1≠D by omega)).trans hS
    obtain⟨w0,w1'⟩:=cells2 hSp
    refine⟨by simp,.inl ⟨_,_,rfl,run_takeDeferred hKD,?_⟩⟩
    refine⟨.tuple #[.agg #[.slice va d vc,.slice (some ⟨b,0,none⟩) n c],.int .i64 0,.int .i64 0],by simp [results,Tryz.results11,go_sem,w0,w1'],⟨_,_,_,_,rfl,HN.out.2.2,(by rw [← HW.out.2];exact HW.out.1),?_,?_⟩,?_⟩
    ·have r0:=hrow4.kept (L17.gr_setc w4 (w.heap.size+1) 0 (.slice va d vc)) (.inr (own_off hrow4 (show w.heap.size+1<W.heap.size by omega)).symm)
     have r0':=r0.kept (L17.gr_setc _ (w.heap.size+1) 1 (.slice (some ⟨b,0,none⟩) n c)) (.inr (own_off r0 (show w.heap.size+1<W.heap.size by omega)).symm)
     exact own_weak (ownsRow_putObj r0' (.deferred none) hKD rfl) HB.out.size
    ·have r1:=L8.own_below HK.out.2.1 b4
     have r1':=r1.kept (L17.gr_setc w4 (w.heap.size+1) 0 (.slice va d vc)) (.inr (by show some b≠some (w.heap.size+1);simp;omega))
     have r1'':=r1'.kept (L17.gr_setc _ (w.heap.size+1) 1 (.slice (some ⟨b,0,none⟩) n c)) (.inr (by show some b≠some (w.heap.size+1);simp;omega))
     have r2':=ownsRow_putObj r1'' (.deferred none) hKD rfl
     subst hwn
     rw [HW.out.2] at r2'
     exact r2'
    ·have hbb:=L10.bel_set (L10.bel_set (bch HB.out b4) (by show w.heap.size≤w.heap.size+1;omega) 0 (.slice va d vc)) (by show w.heap.size≤w.heap.size+1;omega) 1 (.slice (some ⟨b,0,none⟩) n c)
     exact hbb.trans (belowK_b (w:=w) (Nat.le_refl _) _ D _ _ (by omega) hKD rfl rfl)
   case stop =>
    rintro D c pre W hD hp h hK
    exact absurd h (by simp)
end Go.Proofs.YtdgnjhhieemcaaaGreatDoor.L18
