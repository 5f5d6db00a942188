/- Lemmas and walks of L18Rf, L18Sa, L16Law: what each theorem states; conditions stand in each theorem. -/
import Derived.Test.YtdgnjhhieemcaaaGreatDoorL18Sm
import Derived.Test.YtdgnjhhieemcaaaGreatDoorM28
import Derived.Test.YtdgnjhhieemcaaaGreatDoorRows
import Derived.LaidMore
import Derived.Stop.Joined
import Derived.Stop.LaidErr
import Derived.Lay
import Derived.Shelf.Vars
set_option maxHeartbeats 8000000
set_option maxRecDepth 100000
section
namespace Go.Proofs.YtdgnjhhieemcaaaGreatDoor.L18
open Go.RowKit Go.Shelf L3 L4 L12 L14 L17 Tab
attribute [local go_sem] Oper.semAt_some Tab.kv Tab.kput Tab.kf Tab.kfr
theorem bch {w a b:World} (h:Below w.heap.size w a) (k:Below a.heap.size a b):Below w.heap.size w b:=L14.bch h k
theorem bnew (w:World) (o:Obj):Below w.heap.size w (w.alloc o):=L14.bnew w o
structure KR (b o N:Nat) (A B:World):Prop where
 sz:A.heap.size≤B.heap.size
 bx:∀ (k:Nat) (cs:Array Value) (fr:Nat × Nat),A.heap[k]?=some (.cells cs 29 fr)→B.heap[k]?=some (.cells cs 29 fr)
 nt:∀ (k:Nat) (cs:Array Value) (fr:Nat × Nat),A.heap[k]?=some (.cells cs 3 fr)→B.heap[k]?=some (.cells cs 3 fr)
 op:∀ j,j<N→∀ u,A.cell? ⟨b,o+j*6,none⟩=some u→B.cell? ⟨b,o+j*6,none⟩=some u
theorem KR.t {b o N:Nat} {A B C:World} (h:KR b o N A B) (k:KR b o N B C):KR b o N A C:=⟨Nat.le_trans h.sz k.sz,fun i cs fr e=>k.bx i cs fr (h.bx i cs fr e),fun i cs fr e=>k.nt i cs fr (h.nt i cs fr e),fun j hj u e=>k.op j hj u (h.op j hj u e)⟩
theorem KR.below {b o N:Nat} {A B:World} (h:Below A.heap.size A B):KR b o N A B:=⟨h.size,fun i _ _ e=>(h.block i (lt_of_block e)).trans e,fun i _ _ e=>(h.block i (lt_of_block e)).trans e,fun _ _ _ e=>cell_up h e⟩
theorem putObj_cell {W:World} {l:Nat} {q:Obj} (q':Obj) (hl:W.heap[l]?=some q) (hq:q.isCells=false) {p:Addr} {u:Value} (hp:p.spot=none) (h:W.cell? p=some u):(W.putObj l q').cell? p=some u:=by
 have hne:p.block≠l:=fun e=>by
  obtain⟨b,o,s⟩:=p
  simp only at hp e
  subst hp e
  unfold World.cell? at h
  simp only [hl] at h
  cases q <;> simp_all [Obj.isCells]
 unfold World.cell? at h ⊢
 rw [World.putObj_heap_other hne]
 exact h
theorem KR.b {b o N:Nat} (W:World) (l:Nat) (q q':Obj) (hl:W.heap[l]?=some q) (hq:q.isCells=false):KR b o N W (W.putObj l q'):=by
 have hoth:∀ (k:Nat) (cs:Array Value) (t:TypeId) (fr:Nat × Nat),W.heap[k]?=some (.cells cs t fr)→(W.putObj l q').heap[k]?=some (.cells cs t fr):=fun k cs t fr e=>by
  have hne:k≠l:=fun h=>by subst h;rw [e] at hl;cases hl;cases hq
  exact (World.putObj_heap_other hne).trans e
 exact⟨by simp,fun k cs fr e=>hoth k cs _ fr e,fun k cs fr e=>hoth k cs _ fr e,fun j _ u e=>putObj_cell q' hl hq rfl e⟩
abbrev rfV (b o:Nat) (l:List L9.Ins) (x:Fin l.length):Array Value:=#[.int .i64 ((min (stN l x.1) 10000000:Nat):Int),.pointer (some ⟨b,o+x.1*6,none⟩)]
theorem rfV_is (b o:Nat) (l:List L9.Ins) (hm:l.length≤1000000) (x:Fin l.length):rfV b o l x=#[.int .i64 (stN l x.1:Int),.pointer (some ⟨b,o+x.1*6,none⟩)]:=by
 have:=stN_le l x.1
 have:=x.2
 unfold rfV
 rw [Nat.min_eq_left (by omega)]
def OpsAt (W:World) (b o:Nat) (l:List L9.Ins):Prop:=∀ j,(h:j<l.length)→W.cell? ⟨b,o+j*6,none⟩=some (.int .i64 l[j].op)
theorem OpsAt.kr {A B:World} {b o:Nat} {l:List L9.Ins} (h:OpsAt A b o l) (k:KR b o l.length A B):OpsAt B b o l:=fun j hj=>k.op j hj _ (h j hj)
theorem row_heap {W:World} {B:TypeId} {a:Option Addr} {n c:Nat} {xs:List Value} (h:W.ownsRow B 3 1 (.slice a n c) n xs) (hp:0<n):∃ g cs,a=some ⟨g,0,none⟩∧W.heap[g]?=some (.cells cs 3)∧∀ j u,xs[j]?=some u→W.cell? ⟨g,j,none⟩=some u:=by
 rcases h.2 with ⟨h1,h2⟩|⟨g,cap,cur,h1,hg,hh,r⟩
 ·omega
 ·cases h1
  refine⟨g,cur,rfl,hh,fun j u hu=>?_⟩
  have:=h.cells (g:=g) rfl j u hu
  rwa [L8.add0] at this
theorem cell_of_row {A B:World} {b o N g j:Nat} {cs:Array Value} {u:Value} (k:KR b o N A B) (h:A.heap[g]?=some (.cells cs 3)) (hc:A.cell? ⟨g,j,none⟩=some u):B.cell? ⟨g,j,none⟩=some u:=by
 have h2:=k.nt g cs (0,0) h
 unfold World.cell? at hc ⊢
 simp only [h] at hc
 simp only [h2]
 exact hc
theorem ops_of {W:World} {b o cap n:Nat} {l:List L9.Ins} (h:IsAt W (.slice (some ⟨b,o,none⟩) n cap) l):OpsAt W b o l:=fun j hj=>by
 obtain⟨a',c',he,hc⟩:=is_form rfl h
 cases he
 obtain⟨b',o',he,-,hc⟩:=hc (by omega)
 cases he
 exact (hc j hj).1
theorem starts_at2 (v:Value) (l:List L9.Ins) (n:Nat) (hn:l.length=n) (hm:n≤100000) (w:World) (hv:IsAt w v l) :
  Calls Tryz.prog 61 #[v] w fun e w'=>(∃ a c,e=.returned (.tuple #[.slice a n c,.int .i64 (smN l:Int)])∧(0<n→∃ g cs,a=some ⟨g,0,none⟩∧w'.heap[g]?=some (.cells cs 3)∧∀ j,j<n→w'.cell? ⟨g,j,none⟩=some (.int .i64 (stN l j:Int))))∧Below w.heap.size w w':=by
 refine (starts_at v l (by omega) w hv).mono fun e w' h=>?_
 obtain⟨⟨u,rfl,o⟩,b⟩:=h
 rw [hn] at o
 obtain⟨a,c,rfl⟩:=L14.owns_slice o
 refine⟨⟨a,c,rfl,fun hp=>?_⟩,b⟩
 obtain⟨g,cs,rfl,h1,h2⟩:=row_heap o hp
 refine⟨g,cs,rfl,h1,fun j hj=>h2 j _ ?_⟩
 rw [List.getElem?_map,stL_get l 0 j (by omega),Nat.zero_add]
 rfl
set_option linter.unusedSimpArgs false in
theorem refs_in (n:Nat) (hn:2≤n) (lp Bn b o cap:Nat) (l:List L9.Ins) (hl:l.length≤100000) (J Jx:List (Fin l.length)→World→Prop) (W:World) (hJ:AbidesFrom W.heap.size J)
  (hY:∀ pre x W1,J pre W1→pre.length<(rfF l l.length).length→YieldAt Fence.wide (n-1) Tryz.prog lp (rfV b o l x) W1 fun e W' =>
   (e=.returned (.bool true)∧J (pre++[x]) W'∧KR b o l.length W1 W')∨(e=.returned (.bool false)∧Jx (pre++[x]) W'))
  (hBn:W.heap[Bn]?=some (.cells #[.slice (some ⟨b,o,none⟩) l.length cap] 29)) (hv:IsAt W (.slice (some ⟨b,o,none⟩) l.length cap) l) (h0:J [] W) :
  CallsIn Fence.wide n Tryz.prog 60 #[.func (.yield lp) #[] #[],.pointer (some ⟨Bn,0,none⟩)] W fun e W'=>(∃ v,e=.returned v) ∧
   ((∃ ys,ys=rfF l l.length∧J ys W')∨(∃ pre,pre <+: rfF l l.length∧Jx pre W')):=by
 obtain⟨N,hN⟩:∃ n,l.length=n:=⟨_,rfl⟩
 have HOP:=Lib.hid (ops_of hv)
 rw [hN] at hBn hv
 have HST:=Lib.hid (callsIn_wide (n:=n-1).2 (starts_at2 _ l N hN (by omega) W hv))
 have HY:=Lib.hid hY
 have HJ:=Lib.hid hJ
 have HJ0:=Lib.hid h0
 have HBn:=Lib.hid hBn
 have HN:=Lib.hid (And.intro hN hl)
 have x0:=L13.one_cell hBn
 have hkb:=World.block_lt_of_cell? _ _ x0
 simp only at hkb
 rw [hN] at hl
 clear hY hJ hBn hv h0 hN
 refine callsIn_of_wp Tryz.func60 rfl trivial ?_ rfl
 simp only [Tryz.ntmps60,List.size_toArray,List.length_cons,List.length_nil,Nat.reduceAdd,Nat.reduceSub,Array.replicate_succ,Array.replicate_zero,List.push_toArray,List.append_toArray,List.nil_append,List.cons_append]
 gi_wp2_with (refine⟨trivial,fun _=>by omega,?_⟩;((with_reducible refine (HST.out).mono ?_);rintro e w1 ⟨⟨sa,sc,rfl,hst⟩,b1⟩;have r1:=L8.row_up HBn.out b1;have x1:=L13.one_cell r1))
 have HS:=Lib.hid hst
 have HW1:Hid (∀ wr,KR b o l.length w1 wr→wr.heap[Bn]?=some (.cells #[.slice (some ⟨b,o,none⟩) N cap] 29)∧OpsAt wr b o l):=Lib.hid fun wr h=>⟨h.bx _ _ _ r1,HOP.out.kr ((KR.below b1).t h)⟩
 have HI0:=Lib.hid (HJ.out _ _ _ none HJ0.out (L12.grown_of_below b1) (fun r e=>by cases e))
 have HZ1:=Lib.hid b1.size
 clear hst x0 x1 r1 hkb HST HBn HOP HJ0
 gi_loopw [13] (fun i wr=>∃ k:Nat,k≤N∧i=.int .i64 (k:Int)∧Hid (J (rfF l k) wr∧KR b o l.length w1 wr)) (fun i _=>N-(intOf i).toNat)
 case atStart=>exact⟨0,Nat.zero_le _,rfl,Lib.hid ⟨HI0.out,KR.below (Below.refl _ _)⟩⟩
 case round =>
  obtain⟨k,hk,rfl,hr⟩:=hrel
  by_cases hlt:k<N
  ·have hkl:k<l.length:=by rw [HN.out.1];exact hlt
   obtain⟨hJr,hKr⟩:=hr.out
   obtain⟨g,cs,rfl,hg,hgc⟩:=HS.out (by omega)
   obtain⟨yb,yo⟩:=HW1.out wr hKr
   have y0:=L13.one_cell yb
   have y1:=yo k hkl
   have y2:=cell_of_row hKr hg (hgc k hlt)
   have HY0:=Lib.hid (fun (X:World) (hX:Below wr.heap.size wr X)=>And.intro (cell_up hX y0) (cell_up hX y2))
   have HKr:=Lib.hid (And.intro hKr (fun (X:World) (hX:Below wr.heap.size wr X)=>HJ.out _ _ _ none hJr (L12.grown_of_below hX) (fun r e=>by cases e)))
   obtain⟨op,hop⟩:∃ z,l[k].op=z:=⟨_,rfl⟩
   obtain⟨st,hst⟩:∃ z,stN l k=z:=⟨_,rfl⟩
   obtain⟨f,hf⟩:∃ f,frm (ix op)=f:=⟨_,rfl⟩
   have hrf:isRf l[k]=(f==11):=by unfold isRf L10.fmI;rw [hop,hf]
   rw [hop] at y1
   rw [hst] at y2 HY0
   have HF:=Lib.hid (fun X=>callsIn_wide (n:=n-1).2 (form_at op f X hf))
   have hlI:(k:Int)<(N:Int):=by omega
   have hkb:=World.block_lt_of_cell? _ _ y0
   simp only at hkb
   by_cases hr1:isRf l[k]=true
   ·have hYn:=HY.out (rfF l k) ⟨k,hkl⟩
    rw [rfV_is b o l (by have:=HN.out.2;omega)] at hYn
    have hpre:=rfF_rf hkl hr1
    have hle:=rfF_len l (k+1)
    rw [← hpre] at hYn
    simp only [hst] at hYn
    have HYn:=Lib.hid (fun (X:World) (hX:J (rfF l k) X)=>hYn X hX (by rw [hpre,List.length_append] at hle;simp only [List.length_cons,List.length_nil] at hle;omega))
    have hpx:=rfF_pre l (k+1)
    have HPX:=Lib.hid hpx
    have hb11:(f==11)=true:=by rw [← hrf];exact hr1
    clear hYn hpre hle hpx hr1 hrf hf hop hst hJr hKr hr yb yo
    gi_wp2
    refine wpIn_region_any (by kernel_rfl) ?_
    refine Tab.intF #[true,true,true,true,true,true,true,true,true,true,true,true,true,true,true,true,false,false,false] 0 16 (S:=fun X=>Below wr.heap.size wr X) (n:=36) (df:=[]) (fun _=>trivial) (by kernel_rfl) (by kernel_rfl) (by kernel_rfl) (kn_fr rfl) rfl ?_ _ _ (Below.refl _ _).drew (left_all 19 rfl)
    refine iv (.slice (some ⟨b,o,none⟩) N cap) (fun X hX=>by have:=HY0.out X hX;go_simp) (iv (.int .i64 (k:Int)) (fun _ _=>rfl) ?_)
    refine iv (.pointer (some ⟨b,o+k*6,none⟩)) (fun _ _=>by go_simp) (iv (.pointer (some ⟨b,o+k*6,none⟩)) (fun _ _=>by go_simp) (iv (.int .i64 op) (fun X hX=>by have:=cell_up hX y1;go_simp) ?_))
    refine ic (fun _=>by omega) (fun X hX=>(HF.out X).mono fun e w' h=>⟨h.1,bch hX h.2⟩) (iv (.bool true) (fun _ _=>by go_simp) (iv (.bool true) (fun _ _=>rfl) ?_))
    refine iv (.func (.yield lp) #[] #[]) (fun _ _=>rfl) (iv (.slice (some ⟨g,0,none⟩) N sc) (fun _ _=>rfl) (iv (.int .i64 (k:Int)) (fun _ _=>rfl) (iv (.pointer (some ⟨g,k,none⟩)) (fun _ _=>by go_simp) (iv (.int .i64 (st:Int)) (fun X hX=>by have:=HY0.out X hX;go_simp) ?_))))
    refine iv (.slice (some ⟨b,o,none⟩) N cap) (fun X hX=>by have:=HY0.out X hX;go_simp) (iv (.int .i64 (k:Int)) (fun _ _=>rfl) (iv (.pointer (some ⟨b,o+k*6,none⟩)) (fun _ _=>by go_simp) ?_))
    refine⟨rfl,fun fuel X hX hfu=>?_⟩
    simp only [Tab.kfrm,List.range,List.range.loop,List.map_cons,List.map_nil,kf,kput,kfr,List.set_cons_zero,List.set_cons_succ,Nat.reduceEqDiff,reduceIte,Option.getD_some]
    obtain⟨fn,tmps,assign,body,hy,hYR⟩:=HYn.out X (HKr.out.2 X hX)
    have HX3:=Lib.hid (HKr.out.1.t (KR.below hX))
    refine Tab.one 16 (by kernel_rfl) (opI (fun _=>trivial) rfl (by intro c h;cases h) (kn_fr rfl) (by kernel_rfl) (by rfl) (.ok (.round lp fn tmps assign body) X) (by go_simp) ?_) rfl fuel hfu
    clear HKr HY0 y0 y1 y2 hX hfu
    refine⟨fun _=>by omega,hYR.mono ?_⟩
    rintro e W3 (⟨rfl,hJ3,hk3⟩|⟨rfl,hJx3⟩)
    ·intro fuel hfu
     have HE:=Lib.hid (And.intro hJ3 (HX3.out.t hk3))
     clear hJ3 hk3 HX3
     refine Tab.intF (Array.replicate 19 true) 17 19 (S:=fun Y=>Y=W3) (n:=36) (df:=[]) (fun _=>trivial) (by kernel_rfl) (by kernel_rfl) (by kernel_rfl) (kn_fr rfl) rfl ?_ _ _ rfl hfu
     refine iv (.bool false) (fun _ _=>rfl) (iv (.bool false) (fun _ _=>rfl) ⟨rfl,fun fuel X hX hfu=>wpAnyIn_done (by kernel_rfl) ?_ _⟩)
     subst hX
     simp only [Tab.kfrm,List.range,List.range.loop,List.map_cons,List.map_nil,kf,kput,kfr,List.set_cons_zero,List.set_cons_succ,Nat.reduceEqDiff,reduceIte,Option.getD_some]
     clear hYR hy HYn HF hfu
     gi_wp2
     go_roundw
     case rel=>exact⟨k+1,hlt,by go_num,HE⟩
     case measure=>simp [intOf];omega
    ·intro fuel hfu
     refine Tab.intF (Array.replicate 19 true) 17 19 (S:=fun Y=>Y=W3) (n:=36) (df:=[]) (fun _=>trivial) (by kernel_rfl) (by kernel_rfl) (by kernel_rfl) (kn_fr rfl) rfl ?_ _ _ rfl hfu
     refine iv (.bool true) (fun _ _=>rfl) (iv (.bool true) (fun _ _=>rfl) ⟨rfl,fun fuel X hX hfu=>wpAnyIn_done (by kernel_rfl) ?_ _⟩)
     subst hX
     simp only [Tab.kfrm,List.range,List.range.loop,List.map_cons,List.map_nil,kf,kput,kfr,List.set_cons_zero,List.set_cons_succ,Nat.reduceEqDiff,reduceIte,Option.getD_some]
     clear hYR hy HYn HF hfu
     gi_wp2
     refine bodyPost_ret (results_none rfl _ _ _) rfl ?_
     exact⟨⟨_,rfl⟩,.inr ⟨_,HPX.out,hJx3⟩⟩
   ·have hno:=rfF_no hkl (by simpa using hr1)
    have hb11:(f==11)=false:=by rw [← hrf];simpa using hr1
    have HNO:=Lib.hid hno
    clear hno hr1 hrf hf hop hst hJr hKr hr y2 yb yo
    gi_wp2
    refine wpIn_region_any (by kernel_rfl) ?_
    refine Tab.intF (Array.replicate 19 true) 0 19 (S:=fun X=>Below wr.heap.size wr X) (n:=36) (df:=[]) (fun _=>trivial) (by kernel_rfl) (by kernel_rfl) (by kernel_rfl) (kn_fr rfl) rfl ?_ _ _ (Below.refl _ _).drew (left_all 19 rfl)
    refine iv (.slice (some ⟨b,o,none⟩) N cap) (fun X hX=>by have:=HY0.out X hX;go_simp) (iv (.int .i64 (k:Int)) (fun _ _=>rfl) ?_)
    refine iv (.pointer (some ⟨b,o+k*6,none⟩)) (fun _ _=>by go_simp) (iv (.pointer (some ⟨b,o+k*6,none⟩)) (fun _ _=>by go_simp) (iv (.int .i64 op) (fun X hX=>by have:=cell_up hX y1;go_simp) ?_))
    refine ic (fun _=>by omega) (fun X hX=>(HF.out X).mono fun e w' h=>⟨h.1,bch hX h.2⟩) (iv (.bool false) (fun _ _=>by go_simp) (iv (.bool false) (fun _ _=>rfl) ?_))
    iterate 10 refine inn ?_
    refine iv (.bool false) (fun _ _=>rfl) ⟨rfl,fun fuel X hX hfu=>wpAnyIn_done (by kernel_rfl) ?_ _⟩
    simp only [Tab.kfrm,List.range,List.range.loop,List.map_cons,List.map_nil,kf,kput,kfr,List.set_cons_zero,List.set_cons_succ,Nat.reduceEqDiff,reduceIte,Option.getD_some]
    have HE:=Lib.hid (And.intro (HKr.out.2 X hX) (HKr.out.1.t (KR.below hX)))
    clear HKr HY0 y0 y1 hX HF
    gi_wp2
    go_roundw
    case rel=>exact⟨k+1,hlt,by go_num,Lib.hid (by rw [HNO.out];exact HE.out)⟩
    case measure=>simp [intOf];omega
  ·obtain rfl:k=N:=by omega
   have HJr:=Lib.hid hr.out.1
   clear hr
   gi_wp2
   go_end0
   exact⟨⟨_,rfl⟩,.inl ⟨_,rfl,by rw [HN.out.1];exact HJr.out⟩⟩
theorem references_fn (a:Option Addr) (n cap:Nat) (w:World):Calls Tryz.prog 30 #[.slice a n cap] w fun e w'=>e=.returned (.func (.func 60) #[] #[.pointer (some ⟨w.heap.size,0,none⟩)])∧w'=w.alloc (.cells #[.slice a n cap] 29):=by
 have hmf:(Instr.makeFunc (.func 60) #[] #[.pointer (some ⟨w.heap.size,0,none⟩)]).run Tryz.prog (w.alloc (.cells #[.slice a n cap] 29))=.ok (.func (.func 60) #[] #[.pointer (some ⟨w.heap.size,0,none⟩)]) (w.alloc (.cells #[.slice a n cap] 29)):=by rfl
 go_enter Tryz.func30,Tryz.ntmps30
 go_wp2
 go_ret
 exact⟨rfl,rfl⟩
theorem refs_stops (n:Nat) (hn:2≤n) (Bn b o cap:Nat) (l:List L9.Ins) (hl:l.length≤100000) (w:World) (hB:w.heap[Bn]?=some (.cells #[.slice (some ⟨b,o,none⟩) l.length cap] 29)) (hv:IsAt w (.slice (some ⟨b,o,none⟩) l.length cap) l) :
  SeqStopsK Fence.wide n Tryz.prog 60 #[.pointer (some ⟨Bn,0,none⟩)] (rfV b o l) (KR b o l.length) (fun ys=>ys=rfF l l.length) (fun pre=>pre <+: rfF l l.length) (rfF l l.length).length w:=fun lp J Jx W hW hJ _ hY hj =>
 refs_in n hn lp Bn b o cap l hl J Jx W hJ hY (L8.row_up hB hW) (hv.below hW) hj
end Go.Proofs.YtdgnjhhieemcaaaGreatDoor.L18
end
section
namespace Go.Proofs.YtdgnjhhieemcaaaGreatDoor.L18
open Go.RowKit L3 L4 L12 L14
open L10 (take_eq take_all get_ne)
attribute [local go_sem] Oper.semAt_some
theorem bq (p:Prop):∃ t:Bool,t=true↔p:=by
 by_cases h:p
 ·exact⟨true,by simp [h]⟩
 ·exact⟨false,by simp [h]⟩
theorem equalI_at (v v':Value) (l m:List L9.Ins) (b:Bool) (w:World) (hl:l.length≤100000) (hm:m.length≤100000) (hv:IsAt w v l) (hv':IsAt w v' m) (hb:b=true↔l=m) :
  Calls Tryz.prog 48 #[v,v'] w fun e w'=>e=.returned (.bool b)∧Below w.heap.size w w':=by
 obtain⟨n,hn⟩:∃ n,l.length=n:=⟨_,rfl⟩
 obtain⟨n',hn'⟩:∃ n,m.length=n:=⟨_,rfl⟩
 obtain⟨a,c,rfl,hc⟩:=is_form hn hv
 obtain⟨a',c',rfl,hc'⟩:=is_form hn' hv'
 rw [hn] at hl
 rw [hn'] at hm
 by_cases hne:n=n'
 ·subst hne
  have HN:=Lib.hid hn
  have HM:=Lib.hid hn'
  have HC:=Lib.hid hc
  have HC':=Lib.hid hc'
  have HB:=Lib.hid hb
  clear hn hn' hc hc' hb hv hv'
  go_enter Tryz.func48,Tryz.ntmps48
  go_wp2
  go_loopw [5,13] (fun _ i wr=>∃ (k q:Nat),k≤n∧i=.int .i64 (k:Int)∧wr=w.drewN q∧Hid (l.take k=m.take k)) (fun _ i _=>n-(intOf i).toNat)
  case atStart=>exact⟨0,0,Nat.zero_le _,rfl,rfl,Lib.hid rfl⟩
  case round =>
   obtain⟨k,q,hk,rfl,rfl,hT⟩:=hrel
   by_cases hlt:k<n
   ·have hk1:k<l.length:=by rw [HN.out];exact hlt
    have hk2:k<m.length:=by rw [HM.out];exact hlt
    obtain⟨b1,o1,rfl,hb1,hc1⟩:=HC.out (by omega)
    obtain⟨b2,o2,rfl,hb2,hc2⟩:=HC'.out (by omega)
    obtain⟨x0,x1,x2,x3,x4,x5⟩:=hc1 k hk1
    obtain⟨y0,y1,y2,y3,y4,y5⟩:=hc2 k hk2
    clear hc1 hc2
    have hlt':(k:Int)<(n:Int):=by omega
    obtain⟨t,ht⟩:∃ t:Bool,t=true↔l[k]=m[k]:=bq _
    have hq:=L10.nq_ins l[k] m[k] t ht
    cases t
    ·have he:¬ l[k]=m[k]:=fun h=>by have:=ht.2 h;cases this
     have HB2:Hid (b=false):=Lib.hid (by
      cases b with
      | false=>rfl
      | true=>exact absurd (HB.out.1 rfl) (get_ne hk1 hk2 he))
     clear ht he hT
     generalize l[k]=d at *
     generalize m[k]=d' at *
     simp only [Bool.not_false] at hq
     go_wp2
     go_quiet (fail)
     go_wp2
     go_ret
     rw [HB2.out]
     exact⟨rfl,L8.bdN (L8.bdN (Below.refl _ _) _) _⟩
    ·have HT:=Lib.hid (take_eq hk1 hk2 hT.out (ht.1 rfl))
     clear ht hT
     generalize l[k]=d at *
     generalize m[k]=d' at *
     simp only [Bool.not_true] at hq
     go_wp2
     go_quiet (fail)
     go_wp2
     go_roundw
     case rel=>exact⟨k+1,q+nq,by omega,by go_num,rfl,HT⟩
     case measure=>simp [intOf];omega
   ·obtain rfl:k=n:=by omega
    have HB2:Hid (b=true):=Lib.hid (HB.out.2 (take_all HN.out HM.out hT.out))
    clear hT
    go_wp2
    go_ret
    rw [HB2.out]
    exact⟨rfl,L8.bdN (Below.refl _ _) _⟩
 ·have hbf:b=false:=by
   cases b with
   | false=>rfl
   | true =>
    have:=hb.1 rfl
    subst this
    omega
  subst hbf
  have h1:¬ (n:Int)=(n':Int):=by omega
  have h2:((n:Int)==(n':Int))=false:=by simpa using h1
  clear hn hn' hc hc' hb hv hv'
  go_enter Tryz.func48,Tryz.ntmps48
  go_wp2
  go_ret
  exact⟨rfl,Below.refl _ _⟩
abbrev imC (vm vc:Value):Obj:=.cells #[vm,vc] 31
theorem lsame_at (vm vc vn vd:Value) (ms ns:List L9.Df) (l m:List L9.Ins) (b:Bool) (w:World) (h1:ms.length≤100000) (h2:ns.length≤100000) (h3:l.length≤100000) (h4:m.length≤100000)
  (g1:L10.DfAt w vm ms) (g2:IsAt w vc l) (g3:L10.DfAt w vn ns) (g4:IsAt w vd m) (hb:b=true↔ms=ns∧l=m) :
  Calls Tryz.prog 21 #[.agg #[vm,vc],.agg #[vn,vd]] w fun e w'=>e=.returned (.bool b)∧Below w.heap.size w w':=by
 have b0:=L14.bch (L14.bnew w (imC vm vc)) (L14.bnew _ (imC vn vd))
 have k1:=L8.row_up (heap_alloc_last w (imC vm vc)) (L14.bnew _ (imC vn vd))
 have k2:=heap_alloc_last (w.alloc (imC vm vc)) (imC vn vd)
 rw [World.size_alloc] at k2
 obtain⟨t1,ht1⟩:∃ t:Bool,t=true↔ms=ns:=bq _
 obtain⟨t2,ht2⟩:∃ t:Bool,t=true↔l=m:=bq _
 have HD:=Lib.hid (fun (W:World) (hW:Below w.heap.size w W)=>L10.equalD_at vm vn ms ns t1 W h1 h2 (g1.below hW) (g3.below hW) ht1)
 have HI:=Lib.hid (fun (W:World) (hW:Below w.heap.size w W)=>equalI_at vc vd l m t2 W h3 h4 (g2.below hW) (g4.below hW) ht2)
 have hbb:b=(t1 && t2):=by
  rw [Bool.eq_iff_iff,hb,Bool.and_eq_true,ht1,ht2]
 obtain⟨a1,c1,rfl,-⟩:=L10.df_form rfl g1
 obtain⟨a2,c2,rfl,-⟩:=is_form rfl g2
 obtain⟨a3,c3,rfl,-⟩:=L10.df_form rfl g3
 obtain⟨a4,c4,rfl,-⟩:=is_form rfl g4
 obtain⟨x0,x1⟩:=L10.cells2p k1
 obtain⟨y0,y1⟩:=L10.cells2p k2
 have K:=Lib.hid (And.intro b0 (And.intro k1 k2))
 clear h1 h2 h3 h4 g1 g2 g3 g4 hb ht1 ht2 b0 k1 k2
 subst hbb
 cases t1
 ·go_enter Tryz.func21,Tryz.ntmps21
  go_wp2_with (go_at_call 47;((with_reducible refine (HD.out _ K.out.1).mono ?_);rintro e w1 ⟨rfl,b1⟩))
  go_ret
  exact⟨rfl,L14.bch K.out.1 b1⟩
 ·go_enter Tryz.func21,Tryz.ntmps21
  go_wp2_with (first
   | (go_at_call 47;((with_reducible refine (HD.out _ K.out.1).mono ?_);rintro e w1 ⟨rfl,b1⟩;obtain⟨z0,z1⟩:=L10.cells2p (L8.row_up K.out.2.1 b1);obtain⟨u0,u1⟩:=L10.cells2p (L8.row_up K.out.2.2 b1)))
   | (go_at_call 48;((with_reducible refine (HI.out _ (L14.bch K.out.1 b1)).mono ?_);rintro e w2 ⟨rfl,b2⟩)))
  go_ret
  exact⟨rfl,L14.bch (L14.bch K.out.1 b1) b2⟩
end Go.Proofs.YtdgnjhhieemcaaaGreatDoor.L18
end
section
namespace Go.Proofs.YtdgnjhhieemcaaaGreatDoor
open Go.ChangeShapes Go.WideShapes Go.ChangeAt Go.RowKit
theorem own:ownKnob Tryz.prog.godebug=none:=by kernel_rfl
theorem cells_of_texts {H:Type} {enc:TypeId × Value→H} {P:Program} {w:World} {base:Nat} {sp:Nat→Bool} {held:Bool} {fuel:Nat} {t e:TypeId} {n:Nat} {cs:List Value} {zs:List (List UInt8)} {p:List MemPlace}
  (ht:P.underlying t=some (.array n e)) (he:P.underlying e=some .string) (hce:P.cellsOf e=1) (hct:P.cellsOf t=n)
  (h:DataW.trod enc P w base sp held fuel t cs=some (.agg (zs.map fun z=>.lit (.string z)),p)):cs=zs.map fun z=>Value.string ⟨z.toArray⟩:=by
 cases fuel with
 | zero=>simp [DataW.trod] at h
 | succ fuel =>
  simp only [DataW.trod,ht,hce,hct,Nat.mul_one] at h
  split at h
  ·rename_i hl
   obtain⟨xs,hm,hx⟩:=Option.map_eq_some_iff.1 h
   have hxs:xs.map (·.1)=zs.map fun z=>(DataW.lit (.string z):DataW H):=by
    have:=congrArg Prod.fst hx
    simpa using this
   have hxl:xs.length=n:=by simpa using Lib.mapM_length hm
   have hzl:zs.length=n:=by
    have:=congrArg List.length hxs
    simp at this
    omega
   apply List.ext_getElem?
   intro i
   by_cases hi:i<n
   ·obtain⟨b,hb,hf⟩:=Lib.mapM_at hm i i (by simp [hi])
    obtain⟨z,hc,rfl,_⟩:=DataW.trod_string he hf
    have h1:cs[i]?=some (.string z):=by
     have:=congrArg (·[0]?) hc
     simpa [List.getElem?_take,List.getElem?_drop] using this
    have h2:(xs.map (·.1))[i]?=some (DataW.lit (.string z.data.toList):DataW H):=by simp [hb]
    rw [hxs] at h2
    simp only [List.getElem?_map,Option.map_eq_some_iff,DataW.lit.injEq,Lit.string.injEq] at h2
    obtain⟨z',hz',rfl⟩:=h2
    simp [h1,hz']
   ·rw [List.getElem?_eq_none (by omega),List.getElem?_eq_none (by simp;omega)]
  ·cases h
theorem gReg:Tryz.prog.globalNamed "slotcode/ident.registers"=some 2:=by kernel_rfl
theorem tReg:(Tryz.prog.globals[2]?).map (·.type)=some 339:=by kernel_rfl
theorem gWid:Tryz.prog.globalNamed "slotcode/num.widths"=some 0:=by kernel_rfl
theorem tWid:(Tryz.prog.globals[0]?).map (·.type)=some 333:=by kernel_rfl
abbrev regD:DataW Unit:=.agg (([[114,48],[114,49],[114,50],[114,51],[114,52],[114,53],[114,54],[114,55],[114,56],[114,57],[114,49,48]]:List (List UInt8)).map fun z=>.lit (.string z))
theorem law_post_at {H:Type} {enc:TypeId × Value→H} {P:Program} {f:Func} {s:ChangeSpec} {W W':World} {args:Array Value} {ds:List (DataW H)} {before:List MemPlace}
  (hW:DataW.Whole enc P f.params.toList s.vars false W args.toList ds [] before) (hv:s.vars=[]) (ht:f.resultTypes=#[4]) (hu:P.underlying 4=some .bool)
  (hfn:s.fn H (ds++[])={ results:=[.lit (.bool true)],args:=ds })
  (hargs:DataW.TrodAll enc P W' 0 (fun b=>decide (b<W.heap.size)) true f.params.toList args.toList ds before)
  (hb:Below W.heap.size W W'):s.post enc P f false true false false W args (.bool true) W':=by
 refine⟨ds,[],before,[],before,[],hW,?_,?_,?_,World.keptBut_mono (fun p hp=>⟨hp,?_⟩) (hb.frame (·∈before)),fun h=>by cases h⟩
 ·rw [hfn,ht]
  exact trodAll_cons_mk (shut_bool hu _) trodAll_mk0
 ·rw [hfn];exact hargs
 ·rw [hfn,hv];exact rfl
 ·exact Or.inr (Or.inl hp)
theorem laidOut:laidOutB Tryz.prog=true:=by kernel_rfl
theorem returns_shaped_and {H:Type} {enc:TypeId × Value→H} {a:Assume} {C:Checked} {os:Os} {f:FuncId} {fn:Func} {s:ChangeSpec} {conds:List PathCond} {apart fresh handsOn again:Bool} {X:World→Array Value→Prop}
  (hX:∀ (w w':World) (args:Array Value),w.heap=w'.heap→X w args→X w' args)
  (own:ownKnob C.prog.godebug=none) (started:os.Started) (noInit:C.prog.inits.idxOf? f=none) (hfn:C.prog.funcs[f]?=some fn)
  (witness:∃ (w:World) (tape:Tape) (i:Input),w.os=os∧(w.forCall tape i).Shaped C.prog∧i.vars=[]∧Input.okWide C.prog (w.forCall tape i) .any w.heap.size f i ∧
   ((s.pre enc C.prog fn conds apart (w.forCall tape i).memory i.args∧X (w.forCall tape i).memory i.args)∧sizedMet enc C.prog fn (OpenSpec.ofChange s) apart (w.forCall tape i).memory i.args)∧a.holds C.prog (lone (Frame.enter C.prog f i.args .normal) [] (w.forCall tape i)))
  (contract:∀ (W:World) (base:Nat) (args:Array Value) (ds gs:List (DataW H)) (before:List MemPlace),
   (∀ (j:Nat) t v,fn.params[j]?=some t→args[j]?=some v→Value.okWide C.prog W .any base t v) →
   DataW.Whole enc C.prog fn.params.toList s.vars apart W args.toList ds gs before →
   (DataW.weightsEach C.prog (fn.params.toList++s.plain.varTypes C.prog) (ds++gs)).all (·≤reachBytes)=true→X W args →
   W.ShapedOpen C.prog →
   Calls C.prog f args W fun e W'=>∃ v,e=.returned v∧s.post enc C.prog fn apart fresh handsOn again W args v W') :
  ReturnsInHanded a C os f .any (fun w args=>(s.pre enc C.prog fn conds apart w args∧X w args)∧sizedMet enc C.prog fn (OpenSpec.ofChange s) apart w args) (s.post enc C.prog fn apart fresh handsOn again):=by
 refine returnsInHanded_of_calls own started noInit witness ?_
 intro w tape i _ hsh _ hok hpre _
 obtain⟨_,_,_,fn',hfn',_,_,_,_,hval⟩:=hok
 have e:fn'=fn:=Option.some.inj (hfn'.symm.trans hfn)
 subst e
 obtain⟨⟨⟨ds,gs,before,hw,hc⟩,hx⟩,hz⟩:=hpre
 have hw':=DataW.Whole.of_heap (w':=w.forCall tape i) (by rfl) hw
 refine (contract (w.forCall tape i) w.heap.size i.args ds gs before hval hw' (hz.weights hw) (hX _ _ _ (by rfl) hx) hsh).mono fun e W' ⟨v,he,hp⟩=>?_
 subst he
 exact ChangeSpec.post_blind hp
abbrev laid2:List (String × DataW Unit):=[("slotcode/ident.registers",Rows.laid_slotcode_ident_registers),("slotcode/num.widths",Rows.laid_slotcode_num_widths)]
theorem tabs_of2 {W:World} (h:laidMetH Tryz.prog laid2 W):L16.Tb W:=by
 rw [MakeChecks.laidMetH_plain _ _ _ (by kernel_rfl)] at h
 have h3:laidMet Tryz.prog [("slotcode/ident.registers",regD),("slotcode/num.widths",Rows.laid_slotcode_num_widths)] W:=h
 refine⟨?_,?_⟩
 ·have hw:Lib.TabIs Tryz.prog W "slotcode/num.widths" .i64 [8,16,32,64] :=
   Lib.tabIs_of_head (rest:=[]) gWid tWid Tryz.underlying333 Tryz.underlying3 (by kernel_rfl) (by kernel_rfl) h.tail
  unfold Lib.TabIs World.var? at hw
  rw [gWid] at hw
  simp only [Option.bind_some] at hw
  split at hw
  ·rename_i cs t fr he
   refine⟨t,fr,?_⟩
   rw [he]
   simp only [Option.some.injEq] at hw
   rw [hw];rfl
  ·cases hw
 ·obtain⟨ps,⟨g',t',cs,fuel,p,q,hg',ht',hvar,hd,_,_⟩,_⟩:=h3
  obtain rfl:=Option.some.inj (gReg.symm.trans hg')
  obtain rfl:=Option.some.inj (tReg.symm.trans ht')
  have hcs:=cells_of_texts Tryz.underlying339 Tryz.underlying9 (by kernel_rfl) (by kernel_rfl) hd
  unfold World.var? at hvar
  rw [gReg] at hvar
  simp only [Option.bind_some] at hvar
  split at hvar
  ·rename_i cs2 t fr he
   refine⟨t,fr,?_⟩
   rw [he]
   simp only [Option.some.injEq] at hvar
   rw [hvar,show cs=L2.regC from Array.toList_inj.1 hcs]
  ·cases hvar
theorem door_met2 (os:Os) (args:Array Value):laidMetH Tryz.prog laid2 ((World.doorLaid Tryz.prog 4000 os).forCall (fun _ _=>0) ⟨#[],args,[]⟩).memory :=
 laidMetH_of_parts3 (fuel:=8) (laidMet_of_run' 8 (by kernel_rfl) (by kernel_rfl)) (by kernel_rfl) (by kernel_rfl)
end Go.Proofs.YtdgnjhhieemcaaaGreatDoor
end
