/- Lemmas and walks of L14It, L14Ps: what each theorem states; conditions stand in each theorem. -/
import Derived.Test.YtihiggnglmhggaaGreatDoorM1
import Derived.RangeFuncNested
import Derived.RangeFuncBound
import Derived.Shelf.RegionOpen
import Derived.OwnWalkIn
import Derived.LoopNIn
import Derived.LoopIn
set_option maxHeartbeats 4000000
set_option maxRecDepth 100000
section
namespace Go.Proofs.YtihiggnglmhggaaGreatDoor.L14
open Go.RowKit Go.Shelf
attribute [local go_sem] Oper.semAt_some
abbrev Pt (l:List UInt8):Type:={ x:Sg // x∈sg 0 [] l }
def pts (l:List UInt8):List (Pt l):=(sg 0 [] l).attach
abbrev ptV (b o c:Nat) (l:List UInt8) (x:Pt l):Array Value:=#[.int .i64 (x.1.at':Int),.slice (some ⟨b,o+x.1.at',none⟩) x.1.t.length (c-x.1.at')]
theorem pts_len (l:List UInt8):(pts l).length=(sg 0 [] l).length:=by simp [pts]
theorem pts_map {β:Type} (l:List UInt8) (f:Sg→β):(pts l).map (fun x=>f x.1)=(sg 0 [] l).map f:=by
 unfold pts
 rw [List.attach_map_val]
theorem pt_in {l:List UInt8} (x:Pt l):x.1.at'+x.1.t.length<l.length∧∀ j (h:j<x.1.t.length) (h2:x.1.at'+j<l.length),x.1.t[j]=l[x.1.at'+j]:=by
 obtain⟨k,h1,h2,h3⟩:=sg_in l 0 [] x.1 x.2
 rw [Nat.zero_add] at h1
 refine⟨by rw [h1];simpa using h2,fun j h hj=>?_⟩
 have:=h3 j h
 rw [List.nil_append,← h1,List.getElem?_eq_getElem h,List.getElem?_eq_getElem hj] at this
 exact Option.some.inj this
structure Lo (n₀:Nat) (w:World) (a:Option Addr) (c b o:Nat) (l:List UInt8):Prop where
 cap:l.length≤c
 nil:a=none→c=0
 adr:0<l.length→a=some ⟨b,o,none⟩∧b<n₀
 cel:∀ j,(h:j<l.length)→w.cell? ⟨b,o+j,none⟩=some (eB l[j])
theorem Lo.below {n₀:Nat} {w w':World} {a:Option Addr} {c b o:Nat} {l:List UInt8} (h:Lo n₀ w a c b o l) (hb:Below n₀ w w'):Lo n₀ w' a c b o l :=
 ⟨h.cap,h.nil,h.adr,fun j hj=>(hb.cell (by exact (h.adr (by omega)).2)).trans (h.cel j hj)⟩
theorem Lo.rw {n₀:Nat} {w:World} {a:Option Addr} {c b o:Nat} {l:List UInt8} (h:Lo n₀ w a c b o l) (hn:n₀≤w.heap.size):Rw eB w (.slice a l.length c) l :=
 ⟨a,c,rfl,h.cap,h.nil,fun hp=>⟨b,o,(h.adr hp).1,Nat.lt_of_lt_of_le (h.adr hp).2 hn,h.cel⟩⟩
theorem Rw.lo {w:World} {a:Option Addr} {n c:Nat} {l:List UInt8} (h:Rw eB w (.slice a n c) l):∃ b o,Lo w.heap.size w a c b o l:=by
 obtain⟨h0,h1,h2,h3⟩:=h.at
 by_cases hp:0<n
 ·obtain⟨b,o,e,hb,hc⟩:=h3 hp
  exact⟨b,o,by omega,h2,fun _=>⟨e,hb⟩,hc⟩
 ·exact⟨0,0,by omega,h2,fun h=>by omega,fun j hj=>by omega⟩
theorem Lo.pt {n₀:Nat} {w:World} {a:Option Addr} {c b o:Nat} {l:List UInt8} (h:Lo n₀ w a c b o l) (hn:n₀≤w.heap.size) (x:Pt l):Rw eB w (.slice (some ⟨b,o+x.1.at',none⟩) x.1.t.length (c-x.1.at')) x.1.t:=by
 obtain⟨h1,h2⟩:=pt_in x
 have hc:=h.cap
 refine⟨_,_,rfl,by omega,fun e=>(by cases e),fun hp=>⟨b,o+x.1.at',rfl,Nat.lt_of_lt_of_le (h.adr (by omega)).2 hn,fun j hj=>?_⟩⟩
 rw [h2 j hj (by omega),Nat.add_assoc]
 exact h.cel _ (by omega)
theorem grown_of_below {w w':World} (h:Below w.heap.size w w'):w.grownBy w' none:=⟨h.os,h.tape,h.output,h.size,fun k hk _=>h.block k hk⟩
theorem Boxed.below {W W':World} {B:Nat} {t:TypeId} {v:Value} (h:Boxed W B t v) (hb:Below W.heap.size W W'):Boxed W' B t v:=(hb.block B h.lt).trans h
theorem box_putObj {W:World} {B:Nat} {t:TypeId} {v:Value} (h:Boxed W B t v) {l:Nat} {o:Obj} (o':Obj) (hl:W.heap[l]?=some o) (ho:o.isCells=false):Boxed (W.putObj l o') B t v :=
 h.kept (grownBy_putObj' W l o') (fun e=>by
  cases e
  have h':W.heap[B]?=some (.cells #[v] t (0,0)):=h
  rw [h'] at hl;cases hl;cases ho)
def Kq (n Bn:Nat) (v:Value) (A B:World):Prop:=Below n A B∧(Boxed A Bn 23 v→Boxed B Bn 23 v)
theorem Kq.t {n Bn:Nat} {v:Value} {A B C:World} (h:Kq n Bn v A B) (k:Kq n Bn v B C):Kq n Bn v A C:=⟨h.1.trans k.1,fun x=>k.2 (h.2 x)⟩
theorem Kq.b {n Bn:Nat} {v:Value} {w:World} (hn:n≤w.heap.size) (W:World) (l:Nat) (o o':Obj) (hl:w.heap.size≤l) (h:W.heap[l]?=some o) (ho:o.isCells=false) (hw:o.isWalk=false):Kq n Bn v W (W.putObj l o'):=⟨belowK_b hn W l o o' hl h ho hw,fun x=>box_putObj x o' h ho⟩
theorem pts_step (l:List UInt8) (k p i:Nat) (h:(sg 0 [] l).drop k=⟨p,(l.drop p).take i⟩::sg (p+i+1) [] (l.drop (p+i+1))) :
  ∃ x:Pt l,x.1=⟨p,(l.drop p).take i⟩∧(pts l).take (k+1)=(pts l).take k++[x]∧k<(pts l).length∧(sg 0 [] l).drop (k+1)=sg (p+i+1) [] (l.drop (p+i+1)):=by
 have hk:k<(sg 0 [] l).length:=by
  rcases Nat.lt_or_ge k (sg 0 [] l).length with h'|h'
  ·exact h'
  ·rw [List.drop_eq_nil_of_le h'] at h;cases h
 have hk2:k<(pts l).length:=by rw [pts_len];exact hk
 rw [List.drop_eq_getElem_cons hk] at h
 injection h with h1 h2
 refine⟨(pts l)[k],?_,take_snoc _ _ hk2,hk2,h2⟩
 rw [← h1]
 simp [pts]
theorem parts_in (n:Nat) (hn:2≤n) (lp Bn n₀:Nat) (a:Option Addr) (N c b o:Nat) (l:List UInt8) (hN:l.length=N) (hl:N≤1000000) (J Jx:List (Pt l)→World→Prop) (W:World) (hJ:AbidesFrom W.heap.size J)
  (hY:∀ pre x W1,J pre W1→pre.length<(pts l).length→YieldAt Fence.wide (n-1) Tryz.prog lp (ptV b o c l x) W1 fun e W' =>
   (e=.returned (.bool true)∧J (pre++[x]) W'∧Kq n₀ Bn (.slice a N c) W1 W')∨(e=.returned (.bool false)∧Jx (pre++[x]) W'))
  (hBn:Boxed W Bn 23 (.slice a N c)) (hv:Lo n₀ W a c b o l) (hn₀:n₀≤W.heap.size) (h0:J [] W) :
  CallsIn Fence.wide n Tryz.prog 181 #[.func (.yield lp) #[] #[],.pointer (some ⟨Bn,0,none⟩)] W fun e W'=>(∃ v,e=.returned v) ∧
   ((∃ ys,ys=pts l∧J ys W')∨(∃ pre,pre <+: pts l∧Jx pre W')):=by
 have HN:=Lib.hid hN
 have HV:=Lib.hid hv
 have HY:=Lib.hid hY
 have HJ:=Lib.hid hJ
 have hc:N≤c:=by have:=hv.cap;omega
 clear hv hN hY hJ
 refine callsIn_of_wp Tryz.func181 rfl trivial ?_ rfl
 simp only [Tryz.ntmps181,List.size_toArray,List.length_cons,List.length_nil,Nat.reduceAdd,Nat.reduceSub,Array.replicate_succ,Array.replicate_zero,List.push_toArray,List.append_toArray,List.nil_append,List.cons_append]
 gi_wp2
 have h1n:1≤n:=by omega
 gi_loopw [3] (fun r wr=>∃ p k:Nat,p≤N∧r=.int .i64 (p:Int)∧Boxed wr Bn 23 (.slice a N c)∧Hid ((sg 0 [] l).drop k=sg p [] (l.drop p))∧Hid (Below n₀ W wr∧W.heap.size≤wr.heap.size∧J ((pts l).take k) wr)) (fun r _=>N-(intOf r).toNat)
 case atStart=>exact⟨0,0,Nat.zero_le _,rfl,hBn,Lib.hid (by simp),Lib.hid ⟨Below.refl _ _,Nat.le_refl _,by simpa using h0⟩⟩
 case round =>
  obtain⟨p,k,hp,rfl,hbx,hS,hr⟩:=hrel
  obtain⟨hB,hz,hJr⟩:=hr.out
  have hcell:=hbx.cell
  have hrw:=(HV.out.below hB).rw (Nat.le_trans hn₀ hz)
  rw [HN.out] at hrw
  have hd:=hrw.drop p hp
  have hs:=run_from und8 size8 a N c p hp hc
  have b0:=bnew wr (.cells #[.int .u8 0] 5)
  have hg:(wr.alloc (.cells #[.int .u8 0] 5)).cell? ⟨wr.heap.size,0,none⟩=some (.int .u8 0):=cell_new wr _ _
  cases hf:fz (l.drop p) with
  | none =>
   have e1:(pts l).take k=pts l:=by
    have h1:=hS.out
    rw [sg_none _ _ _ hf,List.drop_eq_nil_iff] at h1
    exact List.take_of_length_le (by rw [pts_len];exact h1)
   have HJ2:=Lib.hid (show ∀ m,J (pts l) ((wr.alloc (.cells #[.int .u8 0] 5)).drewN m) from fun m=>by
    rw [← e1]
    exact HJ.out _ _ _ none hJr (grown_of_below (bdN b0 m)) (fun r e=>by cases e))
   have HC:=Lib.hid (callsIn_wide (n:=n-1).2 (cut_none _ _ _ (l.drop p) wr.heap.size _ (hd.below b0) hg hf))
   generalize (if c=p then a else a.map (·.add p))=a2 at hs HC
   generalize c-p=c2 at hs HC
   generalize N-p=n2 at hs HC
   clear hrw hd hg hf e1 hB hz hJr hr hS
   gi_wp2_with (refine⟨trivial,?_⟩;gi_at_call 182;((with_reducible refine (HC.out).mono ?_);rintro e w1 ⟨rfl,m,rfl⟩))
   refine⟨fun f h=>(by cases h),?_⟩
   gi_wp2
   refine bodyPost_ret (results_none rfl _ _ _) rfl ?_
   exact⟨⟨_,rfl⟩,.inl ⟨_,rfl,HJ2.out m⟩⟩
  | some i =>
   obtain⟨hi1,-,-⟩:=fz_some hf
   rw [List.length_drop,HN.out] at hi1
   have hpi:p+i+1≤N:=by omega
   have hS1:=hS.out
   rw [sg_some _ _ _ _ hf,List.nil_append,List.length_nil,Nat.add_zero,List.drop_drop,← Nat.add_assoc] at hS1
   obtain⟨x,hx,hpre,hkl,hS2⟩:=pts_step l k p i hS1
   have htl:((l.drop p).take i).length=i:=by rw [List.length_take,List.length_drop,HN.out];omega
   have ha:(if c=p then a else a.map (·.add p))=some ⟨b,o+p,none⟩:=by
    rw [if_neg (by omega),(HV.out.adr (by rw [HN.out];omega)).1]
    simp [add0]
   rw [ha] at hs hd
   have HC:=Lib.hid (callsIn_wide (n:=n-1).2 (cut_some _ _ _ (l.drop p) wr.heap.size i _ (by omega) (hd.below b0) hg hf))
   have HJn:=Lib.hid (fun m=>HJ.out ((pts l).take k) wr ((wr.alloc (.cells #[.int .u8 0] 5)).drewN m) none hJr (grown_of_below (bdN b0 m)) (fun r e=>by cases e))
   have HYn:=Lib.hid (fun (m:Nat)=>by
    have:=HY.out ((pts l).take k) x _ (HJn.out m) (by rw [List.length_take];omega)
    unfold ptV at this
    rw [hx] at this
    simp only [htl] at this
    rw [← hpre] at this
    exact this)
   have HS:=Lib.hid hS2
   have HB:=Lib.hid (And.intro hB hz)
   have hbm:=Lib.hid (fun m=>Boxed.below hbx (bdN b0 m))
   generalize c-p=c2 at hs HC HYn
   generalize N-p=n2 at hs HC hi1
   clear hrw hd hg hf hB hz hJr hr hS hS1 hx hpre hkl hS2 htl ha
   gi_wp2_with (refine⟨trivial,?_⟩;gi_at_call 182;((with_reducible refine (HC.out).mono ?_);rintro e w1 ⟨⟨v2,rfl⟩,m,rfl⟩;obtain⟨fn,tmps,assign,body,hy,hYR⟩:=HYn.out m))
   refine hYR.mono ?_
   rintro e W3 (⟨rfl,hJ3,hk3,hb3⟩|⟨rfl,hJx3⟩)
   ·have hbx3:=hb3 (hbm.out m)
    have HK:=Lib.hid (HB.out.1.trans (((bdN b0 m).mono (Nat.le_trans hn₀ HB.out.2)).trans hk3))
    have HZ:=Lib.hid (show W.heap.size≤W3.heap.size from Nat.le_trans HB.out.2 (Nat.le_trans (by simp) hk3.size))
    have HJ3:=Lib.hid hJ3
    clear HYn hYR HC hb3 hk3 hJ3
    gi_wp2
    go_roundw
    case rel=>exact⟨p+i+1,k+1,by omega,by go_num,hbx3,HS,Lib.hid ⟨HK.out,HZ.out,HJ3.out⟩⟩
    case measure=>simp [intOf];omega
   ·have HJX:=Lib.hid hJx3
    have HT:=Lib.hid (show (pts l).take (k+1) <+: pts l from List.take_prefix _ _)
    clear HYn hYR HC hJx3
    gi_wp2
    refine bodyPost_ret (results_none rfl _ _ _) rfl ?_
    exact⟨⟨_,rfl⟩,.inr ⟨_,HT.out,HJX.out⟩⟩
theorem parts_fn (v:Value) (a:Option Addr) (n c:Nat) (hv:v=.slice a n c) (w:World):Calls Tryz.prog 152 #[v] w fun e w'=>e=.returned (.func (.func 181) #[] #[.pointer (some ⟨w.heap.size,0,none⟩)])∧w'=w.alloc (.cells #[v] 23):=by
 subst hv
 have hmf:(Instr.makeFunc (.func 181) #[] #[.pointer (some ⟨w.heap.size,0,none⟩)]).run Tryz.prog (w.alloc (.cells #[.slice a n c] 23))=.ok (.func (.func 181) #[] #[.pointer (some ⟨w.heap.size,0,none⟩)]) (w.alloc (.cells #[.slice a n c] 23)):=by rfl
 go_enter Tryz.func152,Tryz.ntmps152
 go_wp2
 go_ret
 exact⟨rfl,rfl⟩
theorem stops_at (n:Nat) (hn:2≤n) (Bn n₀:Nat) (a:Option Addr) (N c b o:Nat) (l:List UInt8) (hN:l.length=N) (hl:N≤1000000) (w:World) (hn₀:n₀≤w.heap.size) (hc:∀ W,Below w.heap.size w W→Boxed W Bn 23 (.slice a N c)) (hv:Lo n₀ w a c b o l) :
  SeqStopsK Fence.wide n Tryz.prog 181 #[.pointer (some ⟨Bn,0,none⟩)] (ptV b o c l) (Kq n₀ Bn (.slice a N c)) (fun ys=>ys=pts l) (fun pre=>pre <+: pts l) (pts l).length w:=fun lp J Jx W hW hJ _ hY hj =>
 parts_in n hn lp Bn n₀ a N c b o l hN hl J Jx W hJ hY (hc W hW) (hv.below (hW.mono hn₀)) (Nat.le_trans hn₀ hW.size) hj
theorem box_step {W w1:World} {B C:Nat} {s e:TypeId} {v u:Value} {n₀ k sz:Nat} {xs:List Value} {tmp:Obj} (c:Boxed W C s u) (hs:s≠e) (hrow:W.ownsRow n₀ e sz v k xs) (hgrow:(W.alloc tmp).grownBy w1 v.ownBlock) (hne:C≠B) (v':Value):Boxed (w1.setCell ⟨B,0,none⟩ v') C s u :=
 ((c.alloc tmp).kept hgrow (c.not_row hs hrow)).other hne v'
theorem row_step {W w1:World} {B n₁ n₂ k q:Nat} {t e e':TypeId} {v vA v0:Value} {xs ys:List Value} {tmp:Obj} (hA:W.ownsRow n₁ e' 1 vA q ys) (hrow:W.ownsRow n₂ e 1 v k xs) (he:e'≠e) (hgrow:(W.alloc tmp).grownBy w1 v.ownBlock) (hv:Boxed w1 B t v0) (ht:t≠e') (v':Value):(w1.setCell ⟨B,0,none⟩ v').ownsRow n₁ e' 1 vA q ys:=by
 have h:=own_two (hA.alloc tmp) (hrow.alloc tmp) he hgrow
 exact h.kept (grownBy_setCell' w1 B v') (.inr (hv.not_row ht h).symm)
def PaI (w:World) (g:Nat) {l:List UInt8} (pre:List (Pt l)) (W:World):Prop :=
 ((Boxed W g 78 (.slice none 0 0)∧Boxed W (g+1) 46 (.slice none 0 0)∧Boxed W (g+1+1) 29 (.int .i64 0))∧(∀ x∈pre,x.1.t≠[])) ∧
  (∃ v,Boxed W (g+1+1+1) 78 v∧W.ownsRow w.heap.size 9 1 v pre.length (pre.map fun x=>eT x.1.t)∧True) ∧
  (∃ v,Boxed W (g+1+1+1+1) 46 v∧W.ownsRow w.heap.size 3 1 v pre.length (pre.map fun x=>eN (1+x.1.at'))∧True)∧Below w.heap.size w W
def PaX (w:World) (g:Nat) {l:List UInt8} (c:Code) (pre:List (Pt l)) (W:World):Prop :=
 ((c=.ret∧∃ x∈pre,x.1.t=[])∧Boxed W g 78 (.slice none 0 0)∧Boxed W (g+1) 46 (.slice none 0 0)∧Boxed W (g+1+1) 29 (.int .i64 19))∧Below w.heap.size w W
theorem paI_own (w:World) (l:List UInt8) (B:Nat) (hB:w.heap.size≤B):OwnFrom B (PaI w w.heap.size (l:=l)) :=
 OwnFrom.and (OwnFrom.and (OwnFrom.and (Own.from (boxed_own _ _ _) _) (OwnFrom.and (Own.from (boxed_own _ _ _) _) (Own.from (boxed_own _ _ _) _))) (ownFrom_pure _ _))
  (OwnFrom.and (Own.from (holdsRow_own _ _ _ _ _ (fun pre:List (Pt l)=>pre.length) (fun pre=>pre.map fun x=>eT x.1.t) (fun _ _=>True)) _)
   (OwnFrom.and (Own.from (holdsRow_own _ _ _ _ _ (fun pre:List (Pt l)=>pre.length) (fun pre=>pre.map fun x=>eN (1+x.1.at')) (fun _ _=>True)) _) (ownFrom_below (Nat.le_refl _) hB)))
theorem paX_own (w:World) (l:List UInt8) (B:Nat) (hB:w.heap.size≤B) (c:Code):OwnFrom B (PaX w w.heap.size (l:=l) c) :=
 OwnFrom.and (OwnFrom.and (ownFrom_pure _ _) (OwnFrom.and (Own.from (boxed_own _ _ _) _) (OwnFrom.and (Own.from (boxed_own _ _ _) _) (Own.from (boxed_own _ _ _) _)))) (ownFrom_below (Nat.le_refl _) hB)
def PaP (w:World) (r:List UInt8) (e:Ending) (w':World):Prop :=
 (((∃ x:Pt r,x.1.t=[])∧e=.returned (.tuple #[.slice none 0 0,.slice none 0 0,.int .i64 19])) ∨
  ((∀ x∈pts r,x.1.t≠[])∧∃ v v',e=.returned (.tuple #[v,v',.int .i64 0])∧w'.ownsRow w.heap.size 9 1 v (pts r).length ((pts r).map fun x=>eT x.1.t)∧w'.ownsRow w.heap.size 3 1 v' (pts r).length ((pts r).map fun x=>eN (1+x.1.at'))))∧Below w.heap.size w w'
theorem parse_go (b o n c:Nat) (r:List UInt8) (hn:(0::r:List UInt8).length=n) (hl:n≤100000) (w:World) (h:Rw eB w (.slice (some ⟨b,o,none⟩) n c) (0::r)) (hlast:(0::r:List UInt8).getLast?=some 0) :
  Calls Tryz.prog 108 #[.slice (some ⟨b,o,none⟩) n c] w fun e w'=>PaP w r e w':=by
 obtain⟨h0,hc1,-,hc⟩:=h.at
 obtain⟨b',o',e,hb,hcc⟩:=hc (by rw [← hn];simp)
 cases e
 obtain⟨m,rfl⟩:∃ m,n=m+1:=⟨n-1,by simp at hn;omega⟩
 have hx:w.cell? ⟨b,o,none⟩=some (.int .u8 0):=hcc 0 (by rw [hn];omega)
 have hy:w.cell? ⟨b,o+m,none⟩=some (.int .u8 0):=by
  rw [hcc m (by rw [hn];omega)]
  have:(0::r:List UInt8)[m]'(by rw [hn];omega)=0:=by
   have h2:=hlast
   rw [List.getLast?_eq_getElem?,hn,Nat.add_sub_cancel,List.getElem?_eq_getElem (by rw [hn];omega)] at h2
   exact Option.some.inj h2
  rw [this];rfl
 have hd:=h.drop 1 (by omega)
 have hs:=run_from und8 size8 (some ⟨b,o,none⟩) (m+1) c 1 (by omega) hc1
 rw [List.drop_one,List.tail_cons] at hd
 have e1:((1:Nat):Int)=1:=rfl
 rw [e1] at hs
 rw [show m+1-1=m by omega] at hs hd
 generalize (if c=1 then some (⟨b,o,none⟩:Addr) else (some (⟨b,o,none⟩:Addr)).map (·.add 1))=a2 at hs hd
 obtain⟨cc,hcc2⟩:∃ cc,c-1=cc:=⟨_,rfl⟩
 rw [hcc2] at hs hd
 obtain⟨i0,hi,hz0,hz1,hz2⟩:=info_parts infoText
 obtain⟨j0,ki,kz0,kz1,kz2⟩:=info_parts infoInt
 have hne0:((m:Int)+1==0)=false:=by rw [beq_eq_false_iff_ne];omega
 have hb3:Below w.heap.size w (((w.alloc (.cells #[.slice none 0 0] 78)).alloc (.cells #[.slice none 0 0] 46)).alloc (.cells #[.int .i64 0] 29)):=bch (bch (bnew _ _) (bnew _ _)) (bnew _ _)
 have hx3:=(hb3.cell (p:=⟨b,o,none⟩) hb).trans hx
 have hy3:=(hb3.cell (p:=⟨b,o+m,none⟩) hb).trans hy
 obtain⟨tb',to',hLo⟩:=hd.lo
 have HLo:=Lib.hid hLo
 have hrm:r.length=m:=hd.at.1
 have HRM:=Lib.hid hrm
 clear hx hy hcc hc hlast h hd hn h0 hb3 hLo hrm
 refine (callsIn_wide (n:=6)).1 ?_
 refine callsIn_of_wp_marks Tryz.func108 rfl trivial ?_ rfl
 simp only [Tryz.ntmps108,List.size_toArray,List.length_cons,List.length_nil,Nat.reduceAdd,Nat.reduceSub,Array.replicate_succ,Array.replicate_zero,List.push_toArray,List.append_toArray,List.nil_append,List.cons_append]
 gi_wp2_with (refine⟨trivial,?_⟩;gi_at_call 152;refine (callsIn_wide.2 (parts_fn _ a2 m cc rfl _)).mono ?_;rintro e w1 ⟨rfl,rfl⟩)
 clear hx3 hy3 hs
 have b0:=((((((Boxed.new w 78 (.slice none 0 0)).alloc (.cells #[.slice none 0 0] 46)).alloc (.cells #[.int .i64 0] 29)).alloc (.cells #[.slice none 0 0] 78)).alloc (.cells #[.slice none 0 0] 46)).alloc (.cells #[.slice a2 m cc] 23))
 have b1:=(((((Boxed.new (w.alloc (.cells #[.slice none 0 0] 78)) 46 (.slice none 0 0)).alloc (.cells #[.int .i64 0] 29)).alloc (.cells #[.slice none 0 0] 78)).alloc (.cells #[.slice none 0 0] 46)).alloc (.cells #[.slice a2 m cc] 23))
 have b2:=((((Boxed.new ((w.alloc (.cells #[.slice none 0 0] 78)).alloc (.cells #[.slice none 0 0] 46)) 29 (.int .i64 0)).alloc (.cells #[.slice none 0 0] 78)).alloc (.cells #[.slice none 0 0] 46)).alloc (.cells #[.slice a2 m cc] 23))
 have b3:=(((Boxed.new (((w.alloc (.cells #[.slice none 0 0] 78)).alloc (.cells #[.slice none 0 0] 46)).alloc (.cells #[.int .i64 0] 29)) 78 (.slice none 0 0)).alloc (.cells #[.slice none 0 0] 46)).alloc (.cells #[.slice a2 m cc] 23))
 have b4:=((Boxed.new ((((w.alloc (.cells #[.slice none 0 0] 78)).alloc (.cells #[.slice none 0 0] 46)).alloc (.cells #[.int .i64 0] 29)).alloc (.cells #[.slice none 0 0] 78)) 46 (.slice none 0 0)).alloc (.cells #[.slice a2 m cc] 23))
 have b5:=(Boxed.new (((((w.alloc (.cells #[.slice none 0 0] 78)).alloc (.cells #[.slice none 0 0] 46)).alloc (.cells #[.int .i64 0] 29)).alloc (.cells #[.slice none 0 0] 78)).alloc (.cells #[.slice none 0 0] 46)) 23 (.slice a2 m cc))
 simp only [World.size_alloc] at b1 b2 b3 b4 b5
 have hB0:Below w.heap.size w ((((((w.alloc (.cells #[.slice none 0 0] 78)).alloc (.cells #[.slice none 0 0] 46)).alloc (.cells #[.int .i64 0] 29)).alloc (.cells #[.slice none 0 0] 78)).alloc (.cells #[.slice none 0 0] 46)).alloc (.cells #[.slice a2 m cc] 23)):=(((((((Below.refl _ w).alloc (Nat.le_refl _) _).alloc (by simp) _).alloc (by simp;omega) _).alloc (by simp;omega) _).alloc (by simp;omega) _).alloc (by simp;omega) _)
 have hsz:((((((w.alloc (.cells #[.slice none 0 0] 78)).alloc (.cells #[.slice none 0 0] 46)).alloc (.cells #[.int .i64 0] 29)).alloc (.cells #[.slice none 0 0] 78)).alloc (.cells #[.slice none 0 0] 46)).alloc (.cells #[.slice a2 m cc] 23)).heap.size=w.heap.size+1+1+1+1+1+1:=by simp
 obtain⟨W0,hW0⟩:∃ W0,((((((w.alloc (.cells #[.slice none 0 0] 78)).alloc (.cells #[.slice none 0 0] 46)).alloc (.cells #[.int .i64 0] 29)).alloc (.cells #[.slice none 0 0] 78)).alloc (.cells #[.slice none 0 0] 46)).alloc (.cells #[.slice a2 m cc] 23))=W0:=⟨_,rfl⟩
 rw [hW0] at b0 b1 b2 b3 b4 b5 hB0 hsz
 have HSZ:=Lib.hid hsz
 have hsz1:w.heap.size+1+1+1+1+1<W0.heap.size:=by omega
 simp only [hW0]
 clear hsz
 clear hW0
 have HB5:=Lib.hid b5
 have HB0:=Lib.hid hB0
 refine wpIn_rangeFunc_ownH rfl (by omega) (gf:=181) (lb:=#[.pointer (some ⟨w.heap.size+1+1+1+1+1,0,none⟩)]) rfl trivial (enters_of Tryz.func181 (by kernel_rfl) rfl)
  (stops_at _ (by omega) (w.heap.size+1+1+1+1+1) w.heap.size a2 m cc tb' to' r HRM.out (by omega) W0 (by omega) (fun W hW=>Boxed.below HB5.out hW) (HLo.out.below hB0)) (fun h k=>Kq.t h k) (fun W l o o' h1 h2 h3 h4=>Kq.b (w:=W0) (by omega) W l o o' h1 h2 h3 h4) (Below.refl _ _) (fun _=>rfl)
  (PaI w w.heap.size) (PaX w w.heap.size) (paI_own w r _ (by omega)) (paX_own w r _ (by omega))
  ⟨⟨⟨b0,b1,b2⟩,fun r hr=>(by cases hr)⟩,⟨_,b3,World.ownsRow_nil _ _ _ _,trivial⟩,⟨_,b4,World.ownsRow_nil _ _ _ _,trivial⟩,hB0⟩
  (fun x a' _=>a'={ tmps:=#[.slice (some ⟨b,o,none⟩) (m+1) c,undef,.pointer (some ⟨w.heap.size,0,none⟩),.pointer (some ⟨w.heap.size+1,0,none⟩),.pointer (some ⟨w.heap.size+1+1,0,none⟩),.pointer (some ⟨w.heap.size+1+1+1,0,none⟩),.pointer (some ⟨w.heap.size+1+1+1+1,0,none⟩),.int .i64 (x.1.at':Int),.slice (some ⟨tb',to'+x.1.at',none⟩) x.1.t.length (cc-x.1.at'),.slice (some ⟨b,o,none⟩) (m+1) c,.int .i64 ((m:Int)+1),.bool false,.bool false,.slice (some ⟨b,o,none⟩) (m+1) c,.pointer (some ⟨b,o,none⟩),.int .u8 0,.bool false,.bool false,.bool false,.slice (some ⟨b,o,none⟩) (m+1) c,.slice (some ⟨b,o,none⟩) (m+1) c,.int .i64 ((m:Int)+1),.int .i64 (m:Int),.pointer (some ⟨b,o+m,none⟩),.int .u8 0,.bool false,.bool false,.slice (some ⟨b,o,none⟩) (m+1) c,.slice a2 m cc,.func (.func 181) #[] #[.pointer (some ⟨w.heap.size+1+1+1+1+1,0,none⟩)],.int .i64 (x.1.at':Int),.slice (some ⟨tb',to'+x.1.at',none⟩) x.1.t.length (cc-x.1.at'),undef,undef,undef,undef,undef,undef,undef,undef,undef,undef,undef,undef,undef,undef,undef],defers:=[] })
  (fun x a'=>ownFrom_pure _ _)
  ?assign ?body ?done ?stop
 case assign =>
  rintro lp pre x W K hI hK
  gi_wp2
  exact hK _ _ ((KeepsOthers.refl _).from _) ⟨Below.refl _ W,fun h=>h⟩ hI rfl
 case body =>
  rintro lp pre x a' W hlp - ⟨⟨⟨c0,c1,c2⟩,hz⟩,⟨v3,c3,r3,-⟩,⟨v4,c4,r4,-⟩,hB1⟩ rfl hlt
  have hpl:pre.length<100000:=by
   have h1:=sg_len r 0 []
   rw [pts_len] at hlt
   have:=HRM.out
   omega
  have hin:=(pt_in x).1
  rw [HRM.out] at hin
  have hcv:=conv_at ((HLo.out.below hB1).pt hB1.size x)
  obtain⟨p,hp⟩:∃ p,x.1.at'=p:=⟨_,rfl⟩
  obtain⟨q,hq⟩:∃ q,x.1.t.length=q:=⟨_,rfl⟩
  obtain⟨T,hT⟩:∃ T,mkB x.1.t=T:=⟨_,rfl⟩
  rw [hp,hq] at hin hcv ⊢
  rw [hT] at hcv
  have HP:=Lib.hid hp
  have HT:=Lib.hid hT
  have HZ:=Lib.hid hz
  have d0:=c0.cell
  have d1:=c1.cell
  have d2:=c2.cell
  have d3:=c3.cell
  have d4:=c4.cell
  have f0:=c0.frozen
  have f1:=c1.frozen
  have f2:=c2.frozen
  by_cases he:q=0
  ·have hx0:x.1.t=[]:=List.eq_nil_of_length_eq_zero (by rw [hq,he])
   have heb:((q:Int)==0)=true:=by rw [beq_iff_eq];omega
   have HX:=Lib.hid hx0
   clear hp hq hT hz he hcv hx0
   gi_wp2
   exact⟨(((KeepsOthers.setCell _ _ _).trans (KeepsOthers.setCell _ _ _)).trans (KeepsOthers.setCell _ _ _)).from _,
    ⟨⟨⟨rfl,x,by simp,HX.out⟩,((c0.set _).other (by omega) _).other (by omega) _,((c1.other (by omega) _).set _).other (by omega) _,((c2.other (by omega) _).other (by omega) _).set _⟩,
     ((hB1.setCell (p:=⟨_,0,none⟩) (Nat.le_refl _) _).setCell (p:=⟨_,0,none⟩) (Nat.le_succ _) _).setCell (p:=⟨_,0,none⟩) (by show w.heap.size≤w.heap.size+1+1;omega) _⟩⟩
  ·have heb:((q:Int)==0)=false:=by rw [beq_eq_false_iff_ne];omega
   have hx0:x.1.t≠[]:=fun e=>he (by rw [← hq,e];rfl)
   have HX:=Lib.hid hx0
   clear hp hq hT hz he hx0
   have hle:w.heap.size≤w.heap.size+1+1+1:=by omega
   have hsz3:=hB1.size
   gi_wp2_with (first
    | (gi_at_builtin;refine wpListIn_append_own _ rfl _ _ 78 rfl w.heap.size 9 i0 (.string ⟨#[]⟩) 1 16 Tryz.underlying78 hi hz0 hz1 hz2 rfl (by decide) _ _ _ rfl (r3.alloc _) ⟨W.heap.size,0,none⟩ 1 1 [.string T] rfl rfl (World.news_of_block (cs:=#[.string T]) (t:=9) (fr:=(0,0)) (heap_alloc_last W _)) (by simp [Value.oneCell']) (by unfold maxLen;omega) (by omega) (by simp;omega) ?_;intro v' w1 hown' hgrow _;obtain⟨g',cap',rfl⟩:=ownsRow_succ hown';obtain⟨hv1,hv2,hr5,hk2,hb2⟩:=c3.appended (by decide) r3 hB1.size hle hown' hgrow;have hc1:=hv1.cell;have hf1:=hv1.frozen;have c4':=box_step (B:=w.heap.size+1+1+1) c4 (by decide) r3 hgrow (by omega) (.slice (some ⟨g',0,none⟩) (pre.length+1) cap');have d4':=c4'.cell;have r4':=row_step r4 r3 (by decide) hgrow hv1 (by decide) (.slice (some ⟨g',0,none⟩) (pre.length+1) cap');have hsz4:W.heap.size≤w1.heap.size:=Nat.le_trans (by simp) hgrow.size;have hal:=heap_alloc_last (w1.setCell ⟨w.heap.size+1+1+1,0,none⟩ (.slice (some ⟨g',0,none⟩) (pre.length+1) cap')) (.cells #[.int .i64 (1+(p:Int))] 3);have hal2:((w1.setCell ⟨w.heap.size+1+1+1,0,none⟩ (.slice (some ⟨g',0,none⟩) (pre.length+1) cap')).alloc (.cells #[.int .i64 (1+(p:Int))] 3)).heap[w1.heap.size]?=some (.cells #[.int .i64 (1+(p:Int))] 3):=by (rw [World.size_setCell] at hal;exact hal))
    | (gi_at_builtin;refine wpListIn_append_own _ rfl _ _ 46 rfl w.heap.size 3 j0 (.int .i64 0) 1 8 Tryz.underlying46 ki kz0 kz1 kz2 rfl (by decide) _ _ _ rfl (r4'.alloc _) ⟨w1.heap.size,0,none⟩ 1 1 [.int .i64 (1+(p:Int))] rfl rfl (World.news_of_block (cs:=#[.int .i64 (1+(p:Int))]) (t:=3) (fr:=(0,0)) hal2) (by simp [Value.oneCell']) (by unfold maxLen;omega) (by omega) (by simp;omega) ?_;intro v'' w2 hown2 hgrow2 _;obtain⟨g2,cap2,rfl⟩:=ownsRow_succ hown2;obtain⟨kv1,kv2,kr5,kk2,kb2⟩:=c4'.appended (by decide) r4' (by simp;omega) (by omega) hown2 hgrow2;have hc2:=kv1.cell;have hf2:=kv1.frozen))
   have st:∀ (C:Nat) (s:TypeId) (u:Value),Boxed W C s u→s≠9→s≠3→C≠w.heap.size+1+1+1→C≠w.heap.size+1+1+1+1→Boxed (w2.setCell ⟨w.heap.size+1+1+1+1,0,none⟩ (.slice (some ⟨g2,0,none⟩) (pre.length+1) cap2)) C s u:=fun C s u hC h1 h2 h3 h4 =>
    box_step (box_step (B:=w.heap.size+1+1+1) hC h1 r3 hgrow h3 (.slice (some ⟨g',0,none⟩) (pre.length+1) cap')) h2 r4' hgrow2 h4 _
   refine⟨(hk2.trans kk2).from _,⟨hb2.trans kb2,fun hx=>st _ _ _ hx (by decide) (by decide) (by omega) (by omega)⟩,⟨⟨st _ _ _ c0 (by decide) (by decide) (by omega) (by omega),st _ _ _ c1 (by decide) (by decide) (by omega) (by omega),st _ _ _ c2 (by decide) (by decide) (by omega) (by omega)⟩,?_⟩,⟨_,box_step hv2 (by decide) r4' hgrow2 (by omega) _,?_,trivial⟩,⟨_,kv2,?_,trivial⟩,hB1.trans (hb2.trans kb2)⟩
   ·intro y hy
    rcases List.mem_append.1 hy with h|h
    ·exact HZ.out y h
    ·rw [List.mem_singleton.1 h];exact HX.out
   ·have:=row_step hr5 r4' (by decide) hgrow2 kv1 (by decide) (.slice (some ⟨g2,0,none⟩) (pre.length+1) cap2)
    rw [List.map_append,List.length_append,List.map_cons,List.map_nil]
    show _
    rw [show eT x.1.t=.string T by rw [← HT.out]]
    exact this
   ·rw [List.map_append,List.length_append,List.map_cons,List.map_nil]
    have e2:eN (1+x.1.at')=.int .i64 (1+(p:Int)):=by rw [HP.out];show Value.int _ _=_;congr 1
    rw [e2]
    exact kr5
 case done =>
  rintro D ys W hD rfl ⟨⟨⟨c0,c1,c2⟩,hz⟩,⟨v3,c3,r3,-⟩,⟨v4,c4,r4,-⟩,hB1⟩ hK
  obtain⟨a3,c3',rfl⟩:=owns_slice r3
  obtain⟨a4,c4',rfl⟩:=owns_slice r4
  have d0:=c0.cell
  have d1:=c1.cell
  have d2:=c2.cell
  have d3:=c3.cell
  have d4:=c4.cell
  have f0:=c0.frozen
  have f1:=c1.frozen
  have f2:=c2.frozen
  have hmx:Tryz.prog.follows .mixedOrders=true:=by kernel_rfl
  have hlx:Tryz.prog.follows .lateStores=true:=by kernel_rfl
  gi_wp2
  gi_region_with_o (fail)
  all_goals gi_wp2
  all_goals (
   have e0:=((c0.set (.slice a3 (pts r).length c3')).other (B':=w.heap.size+1) (by omega) (.slice a4 (pts r).length c4')).other (B':=w.heap.size+1+1) (by omega) (.int .i64 0)
   have e1':=((c1.other (B':=w.heap.size) (by omega) (.slice a3 (pts r).length c3')).set (.slice a4 (pts r).length c4')).other (B':=w.heap.size+1+1) (by omega) (.int .i64 0)
   have e2:=((c2.other (B':=w.heap.size) (by omega) (.slice a3 (pts r).length c3')).other (B':=w.heap.size+1) (by omega) (.slice a4 (pts r).length c4')).set (.int .i64 0)
   have hK2:=(((KeepsOthers.setCell W ⟨w.heap.size,0,none⟩ (.slice a3 (pts r).length c3')).trans (KeepsOthers.setCell _ ⟨w.heap.size+1,0,none⟩ (.slice a4 (pts r).length c4'))).trans (KeepsOthers.setCell _ ⟨w.heap.size+1+1,0,none⟩ (.int .i64 0))).same D _ hK rfl
   have c1':=c1.other (B':=w.heap.size) (by omega) (.slice a3 (pts r).length c3')
   have c2':=(c2.other (B':=w.heap.size) (by omega) (.slice a3 (pts r).length c3')).other (B':=w.heap.size+1) (by omega) (.slice a4 (pts r).length c4')
   have s1:=r3.kept (grownBy_setCell' W w.heap.size (.slice a3 (pts r).length c3')) (.inr (c0.not_row (by decide) r3).symm)
   have s2:=s1.kept (grownBy_setCell' _ (w.heap.size+1) (.slice a4 (pts r).length c4')) (.inr (c1'.not_row (by decide) s1).symm)
   have s3:=s2.kept (grownBy_setCell' _ (w.heap.size+1+1) (.int .i64 0)) (.inr (c2'.not_row (by decide) s2).symm)
   have q1:=r4.kept (grownBy_setCell' W w.heap.size (.slice a3 (pts r).length c3')) (.inr (c0.not_row (by decide) r4).symm)
   have q2:=q1.kept (grownBy_setCell' _ (w.heap.size+1) (.slice a4 (pts r).length c4')) (.inr (c1'.not_row (by decide) q1).symm)
   have q3:=q2.kept (grownBy_setCell' _ (w.heap.size+1+1) (.int .i64 0)) (.inr (c2'.not_row (by decide) q2).symm)
   have hBE:=((hB1.setCell (p:=⟨w.heap.size,0,none⟩) (Nat.le_refl _) (.slice a3 (pts r).length c3')).setCell (p:=⟨w.heap.size+1,0,none⟩) (Nat.le_succ _) (.slice a4 (pts r).length c4')).setCell (p:=⟨w.heap.size+1+1,0,none⟩) (by show w.heap.size≤w.heap.size+1+1;omega) (.int .i64 0)
   generalize ((W.setCell ⟨w.heap.size,0,none⟩ _).setCell ⟨w.heap.size+1,0,none⟩ _).setCell ⟨w.heap.size+1+1,0,none⟩ _=E at e0 e1' e2 hK2 s3 q3 hBE ⊢
   have g0:Boxed E.drew w.heap.size 78 (.slice a3 (pts r).length c3'):=e0
   have g1:Boxed E.drew (w.heap.size+1) 46 (.slice a4 (pts r).length c4'):=e1'
   have g2:Boxed E.drew (w.heap.size+1+1) 29 (.int .i64 0):=e2
   have hK3:E.drew.heap[D]?=_:=hK2
   refine⟨by simp,.inl ⟨_,_,rfl,run_takeDeferred hK3,?_⟩⟩
   have k0:=(box_putObj g0 (.deferred none) hK3 rfl).cell
   have k1:=(box_putObj g1 (.deferred none) hK3 rfl).cell
   have k2:=(box_putObj g2 (.deferred none) hK3 rfl).cell
   exact⟨.tuple #[.slice a3 (pts r).length c3',.slice a4 (pts r).length c4',.int .i64 0],by simp [results,Tryz.results108,go_sem,k0,k1,k2],.inr ⟨hz,_,_,rfl,ownsRow_putObj s3.drew _ hK3 rfl,ownsRow_putObj q3.drew _ hK3 rfl⟩,(hBE.drew).trans (belowK_b (w:=w) (Nat.le_refl _) E.drew D _ _ (by have:=HSZ.out;omega) hK3 rfl rfl)⟩)
 case stop =>
  rintro D cd pre W hD hp ⟨⟨⟨rfl,x,hx,hxe⟩,c0,c1,c2⟩,hB1⟩ hK
  gi_wp2
  refine⟨by simp,.inl ⟨_,_,rfl,run_takeDeferred hK,?_⟩⟩
  have k0:=(box_putObj c0 (.deferred none) hK rfl).cell
  have k1:=(box_putObj c1 (.deferred none) hK rfl).cell
  have k2:=(box_putObj c2 (.deferred none) hK rfl).cell
  exact⟨.tuple #[.slice none 0 0,.slice none 0 0,.int .i64 19],by simp [results,Tryz.results108,go_sem,k0,k1,k2],.inl ⟨⟨x,hxe⟩,rfl⟩,hB1.trans (belowK_b (w:=w) (Nat.le_refl _) W D _ _ (by have:=HSZ.out;omega) hK rfl rfl)⟩
end Go.Proofs.YtihiggnglmhggaaGreatDoor.L14
end
