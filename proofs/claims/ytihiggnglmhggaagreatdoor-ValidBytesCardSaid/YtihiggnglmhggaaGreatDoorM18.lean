/- Lemmas and walks of L12Sl, L12Mem, L12Itr, L12Sta, L12Dis: what each theorem states; conditions stand in each theorem. -/
import Derived.Test.YtihiggnglmhggaaGreatDoorM16
import Derived.RangeFuncNested
import Derived.RangeFuncBound
import Derived.Shelf.RegionOpen
import Derived.OwnWalkIn
import Derived.LoopNIn
import Derived.LoopIn
set_option maxHeartbeats 4000000
set_option maxRecDepth 100000
section
namespace Go.Proofs.YtihiggnglmhggaaGreatDoor.L12
open L3 L4
def slN (x:L9.Ins):Nat:=(slo (frm (ix x.op))).toNat
theorem slN_int (x:L9.Ins):slo (frm (ix x.op))=(slN x:Int):=by
 unfold slN slo
 split
 ·rfl
 ·split <;> rfl
theorem slN_le (x:L9.Ins):slN x≤2:=by
 unfold slN slo
 split
 ·decide
 ·split <;> decide
def smN:List L9.Ins→Nat
 | []=>0
 | x::r=>slN x+smN r
def stL:Nat→List L9.Ins→List Nat
 | _,[]=>[]
 | a,x::r=>a::stL (a+slN x) r
def stN (l:List L9.Ins) (i:Nat):Nat:=smN (l.take i)
def atN:Nat→Nat→List L9.Ins→Int→Int
 | _,_,[],_=>-1
 | k,a,x::r,s=>if (a:Int)=s then (k:Int) else atN (k+1) (a+slN x) r s
theorem smN_app (l m:List L9.Ins):smN (l++m)=smN l+smN m:=by
 induction l with
 | nil=>simp [smN]
 | cons x r ih=>simp only [List.cons_append,smN,ih];omega
theorem smN_le:∀ l:List L9.Ins,smN l≤2*l.length
 | []=>by simp [smN]
 | x::r=>by
  have:=smN_le r
  have:=slN_le x
  simp only [smN,List.length_cons];omega
theorem stN_succ (l:List L9.Ins) (i:Nat) (h:i<l.length):stN l (i+1)=stN l i+slN l[i]:=by
 unfold stN
 rw [List.take_add_one,List.getElem?_eq_getElem h,Option.toList,smN_app]
 simp [smN]
theorem stN_le (l:List L9.Ins) (i:Nat):stN l i≤2*l.length:=by
 have:=smN_le (l.take i)
 rw [List.length_take] at this
 unfold stN
 omega
theorem stN_all (l:List L9.Ins):stN l l.length=smN l:=by unfold stN;rw [List.take_length]
theorem stL_len:∀ (l:List L9.Ins) (a:Nat),(stL a l).length=l.length
 | [],_=>rfl
 | x::r,a=>by rw [stL,List.length_cons,List.length_cons,stL_len r]
theorem stL_get:∀ (l:List L9.Ins) (a i:Nat),i<l.length→(stL a l)[i]?=some (a+stN l i)
 | x::r,a,0,_=>by simp [stL,stN,smN]
 | x::r,a,i+1,h=>by
  rw [stL,List.getElem?_cons_succ,stL_get r (a+slN x) i (by simpa using h)]
  unfold stN
  rw [List.take_succ_cons,smN,Nat.add_assoc]
theorem atN_hit:∀ (l:List L9.Ins) (k a i:Nat),(∀ x∈l,slN x≠0)→i<l.length→atN k a l ((a+stN l i:Nat):Int)=((k+i:Nat):Int)
 | x::r,k,a,0,_,_=>by
  rw [atN,if_pos (by simp [stN,smN])]
  rfl
 | x::r,k,a,i+1,h,hi=>by
  have hx:=h x (by simp)
  have e:a+stN (x::r) (i+1)=(a+slN x)+stN r i:=by
   unfold stN
   rw [List.take_succ_cons,smN];omega
  rw [e,atN,if_neg (by omega),atN_hit r (k+1) (a+slN x) i (fun y hy=>h y (by simp [hy])) (by simpa using hi)]
  omega
end Go.Proofs.YtihiggnglmhggaaGreatDoor.L12
end
section
namespace Go.Proofs.YtihiggnglmhggaaGreatDoor.L12
open Go.RowKit L3 L4
attribute [local go_sem] Oper.semAt_some
def IsAt (w:World) (v:Value) (l:List L9.Ins):Prop :=
 (∃ b o cap,v=.slice (some ⟨b,o,none⟩) l.length cap∧b<w.heap.size∧∀ j,(h:j<l.length)→∀ i u,(L10.inL l[j])[i]?=some u→w.cell? ⟨b,o+j*6+i,none⟩=some u)∨(l=[]∧∃ a cap,v=.slice a 0 cap)
theorem IsAt.below {w w':World} {v:Value} {l:List L9.Ins} (h:IsAt w v l) (hb:Below w.heap.size w w'):IsAt w' v l:=by
 rcases h with ⟨b,o,cap,rfl,hlt,hc⟩|h
 ·exact .inl ⟨b,o,cap,rfl,Nat.lt_of_lt_of_le hlt hb.size,fun j hj i u hu=>(hb.cell (by exact hlt)).trans (hc j hj i u hu)⟩
 ·exact .inr h
def Six (w:World) (b o:Nat) (x:L9.Ins):Prop :=
 w.cell? ⟨b,o,none⟩=some (.int .i64 x.op)∧w.cell? ⟨b,o+1,none⟩=some (.bool x.reg)∧w.cell? ⟨b,o+2,none⟩=some (.int .i64 x.dst)∧w.cell? ⟨b,o+3,none⟩=some (.int .i64 x.src)∧w.cell? ⟨b,o+4,none⟩=some (.int .i64 x.off)∧w.cell? ⟨b,o+5,none⟩=some (.int .i64 x.imm)
theorem Six.below {n:Nat} {w w':World} {b o:Nat} {x:L9.Ins} (h:Six w b o x) (hb:b<n) (hB:Below n w w'):Six w' b o x:=by
 obtain⟨h0,h1,h2,h3,h4,h5⟩:=h
 exact⟨(hB.cell (by exact hb)).trans h0,(hB.cell (by exact hb)).trans h1,(hB.cell (by exact hb)).trans h2,(hB.cell (by exact hb)).trans h3,(hB.cell (by exact hb)).trans h4,(hB.cell (by exact hb)).trans h5⟩
theorem is_form {w:World} {v:Value} {l:List L9.Ins} {n:Nat} (hn:l.length=n) (h:IsAt w v l):∃ a c,v=.slice a n c∧(0<n→∃ b o,a=some ⟨b,o,none⟩∧b<w.heap.size∧∀ j,(h:j<l.length)→Six w b (o+j*6) l[j]):=by
 subst hn
 rcases h with ⟨b,o,cap,rfl,hb,hc⟩|⟨rfl,a,cap,rfl⟩
 ·exact⟨_,_,rfl,fun _=>⟨b,o,rfl,hb,fun j hj=>⟨hc j hj 0 _ rfl,hc j hj 1 _ rfl,hc j hj 2 _ rfl,hc j hj 3 _ rfl,hc j hj 4 _ rfl,hc j hj 5 _ rfl⟩⟩⟩
 ·exact⟨a,cap,rfl,fun h=>absurd h (by simp)⟩
theorem behind_at (s:Nat) (x:L9.Ins) (n:Int) (w:World) (hs:s≤1000000000000) (hn:(s:Int)+(slN x:Int)=n) :
  Calls Tryz.prog 79 #[.int .i64 (s:Int),.agg #[.int .i64 x.op,.bool x.reg,.int .i64 x.dst,.int .i64 x.src,.int .i64 x.off,.int .i64 x.imm]] w fun e w'=>e=.returned (.int .i64 n)∧Below w.heap.size w w':=by
 obtain⟨m,hm⟩:∃ m,slN x=m:=⟨_,rfl⟩
 have hle:=slN_le x
 rw [hm] at hle hn
 have HS:=Lib.hid (fun W=>slots_at x.op _ (m:Int) W rfl (by rw [slN_int,hm]))
 subst hn
 clear hm
 go_enter Tryz.func79,Tryz.ntmps79
 go_wp2_with (go_at_call 42;((with_reducible refine (HS.out _).mono ?_);rintro e w1 ⟨rfl,b1⟩))
 go_ret
 exact⟨rfl,L2.bch (L8.bnew _ _) b1⟩
theorem rstart_at (v:Value) (l:List L9.Ins) (i:Nat) (N:Nat) (w:World) (hv:IsAt w v l) (hl:l.length≤1000000) (hi:i≤l.length) (hN:stN l i=N) :
  Calls Tryz.prog 30 #[v,.int .i64 (i:Int)] w fun e w'=>e=.returned (.int .i64 (N:Int))∧w=w':=by
 obtain⟨n,hn⟩:∃ n,l.length=n:=⟨_,rfl⟩
 obtain⟨a,c,rfl,hc⟩:=is_form hn hv
 rw [hn] at hl hi
 have HC:=Lib.hid hc
 have HN:=Lib.hid hn
 have HR:=Lib.hid hN
 have HI:=Lib.hid hi
 clear hv hc hn hN hi
 go_enter Tryz.func30,Tryz.ntmps30
 go_wp2
 go_loop [5,6] (fun s j=>∃ k:Nat,k≤i∧j=.int .i64 (k:Int)∧s=.int .i64 (stN l k:Int)) (fun _ j=>i-(intOf j).toNat)
 case atStart=>exact⟨0,Nat.zero_le _,rfl,by simp [stN,smN]⟩
 case round =>
  obtain⟨k,hk,rfl,rfl⟩:=hrel
  have hi:=HI.out
  by_cases hlt:k<i
  ·have hkl:k<l.length:=by rw [HN.out];omega
   have hkn:k<n:=by omega
   obtain⟨b,o,rfl,hbl,hc⟩:=HC.out (by omega)
   obtain⟨y0,-⟩:=hc k hkl
   have hle:=stN_le l k
   rw [HN.out] at hle
   have hs2:=slN_le l[k]
   have hsu:=stN_succ l k hkl
   have HS:=Lib.hid (fun W=>rslots_at l[k].op _ (slN l[k]:Int) W rfl (slN_int _))
   obtain⟨m,hm⟩:∃ m,slN l[k]=m:=⟨_,rfl⟩
   obtain⟨s,hs⟩:∃ s,stN l k=s:=⟨_,rfl⟩
   rw [hm] at HS hs2 hsu
   rw [hs] at hle hsu ⊢
   have HU:=Lib.hid hsu
   generalize l[k].op=op at y0 HS
   clear hc hm hs hsu hi
   go_wp2_with (go_at_call 50;((with_reducible refine (HS.out _).mono ?_);rintro e w1 ⟨rfl,rfl⟩))
   go_round
   case rel=>exact⟨k+1,by omega,by go_num,by rw [HU.out];go_num⟩
   case measure=>simp [intOf];omega
  ·obtain rfl:k=i:=by omega
   have hr:=HR.out
   rw [hr]
   go_wp2
   go_ret
   exact⟨rfl,rfl⟩
end Go.Proofs.YtihiggnglmhggaaGreatDoor.L12
end
section
namespace Go.Proofs.YtihiggnglmhggaaGreatDoor.L12
open Go.RowKit Go.Shelf L3 L4
attribute [local go_sem] Oper.semAt_some
structure Sl where
 at':Nat
 x:L9.Ins
def Sl.a (r:Sl):Nat:=min r.at' 10000000
abbrev xcs (x:L9.Ins):Array Value:=#[.int .i64 x.op,.bool x.reg,.int .i64 x.dst,.int .i64 x.src,.int .i64 x.off,.int .i64 x.imm]
abbrev Sl.vs (r:Sl):Array Value:=#[.int .i64 (r.a:Int),.agg (xcs r.x)]
def sls:Nat→List L9.Ins→List Sl
 | _,[]=>[]
 | a,x::r=>⟨a,x⟩::sls (a+slN x) r
theorem sls_len:∀ (l:List L9.Ins) (a:Nat),(sls a l).length=l.length
 | [],_=>rfl
 | x::r,a=>by rw [sls,List.length_cons,List.length_cons,sls_len r]
theorem sls_get:∀ (l:List L9.Ins) (a i:Nat) (h:i<l.length),(sls a l)[i]?=some ⟨a+stN l i,l[i]⟩
 | x::r,a,0,_=>by simp [sls,stN,smN]
 | x::r,a,i+1,h=>by
  rw [sls,List.getElem?_cons_succ,sls_get r (a+slN x) i (by simpa using h)]
  unfold stN
  rw [List.take_succ_cons,smN,Nat.add_assoc]
  rfl
theorem sls_step (l:List L9.Ins) (k:Nat) (h:k<l.length):(sls 0 l).take (k+1)=(sls 0 l).take k++[⟨stN l k,l[k]⟩]:=by
 rw [List.take_add_one,sls_get l 0 k h,Nat.zero_add];rfl
theorem grown_of_below {w w':World} (h:Below w.heap.size w w'):w.grownBy w' none:=⟨h.os,h.tape,h.output,h.size,fun k hk _=>h.block k hk⟩
theorem keeps_below {W W':World} (h:Below W.heap.size W W'):KeepsOthers W W':=⟨h.size,fun k _ hk _=>(h.block k (lt_of_block hk)).trans hk⟩
def KI (A B:World):Prop:=∀ (k:Nat) (cs:Array Value) (fr:Nat × Nat),A.heap[k]?=some (.cells cs 45 fr)→B.heap[k]?=some (.cells cs 45 fr)
theorem KI.trans {A B C:World} (h:KI A B) (k:KI B C):KI A C:=fun i cs fr e=>k i cs fr (h i cs fr e)
theorem KI.below {A B:World} (h:Below A.heap.size A B):KI A B:=fun i _ _ e=>(h.block i (lt_of_block e)).trans e
theorem KI.put {W:World} {l:Nat} {o:Obj} (o':Obj) (hl:W.heap[l]?=some o) (ho:o.isCells=false):KI W (W.putObj l o'):=fun i cs fr e=>by
 have hne:i≠l:=fun h=>by
  subst h
  rw [e] at hl;cases hl;cases ho
 exact (World.putObj_heap_other hne).trans e
theorem KI.set {W:World} {B:Nat} {t:TypeId} {v:Value} (h:Boxed W B t v) (ht:t≠45) (u:Value):KI W (W.setCell ⟨B,0,none⟩ u):=fun i cs fr e=>by
 have hne:i≠B:=fun h'=>by
  subst h'
  have h2:W.heap[i]?=some (.cells #[v] t (0,0)):=h
  rw [e] at h2
  simp only [Option.some.injEq,Obj.cells.injEq] at h2
  exact ht h2.2.1.symm
 have hg:=grownBy_setCell' W B u
 exact (hg.block i (lt_of_block e) (fun h'=>hne (by simpa using h'))).trans e
def Kq (n:Nat) (A B:World):Prop:=Below n A B∧KI A B
theorem Kq.t {n:Nat} {A B C:World} (h:Kq n A B) (k:Kq n B C):Kq n A C:=⟨h.1.trans k.1,h.2.trans k.2⟩
theorem Kq.b {n:Nat} {w:World} (hn:n≤w.heap.size) (W:World) (l:Nat) (o o':Obj) (hl:w.heap.size≤l) (h:W.heap[l]?=some o) (ho:o.isCells=false) (hw:o.isWalk=false):Kq n W (W.putObj l o'):=⟨belowK_b hn W l o o' hl h ho hw,KI.put o' h ho⟩
def IsL (n:Nat) (w:World) (v:Value) (l:List L9.Ins):Prop :=
 (∃ b o cap,v=.slice (some ⟨b,o,none⟩) l.length cap∧b<n∧∀ j,(h:j<l.length)→Six w b (o+j*6) l[j])∨(l=[]∧∃ a cap,v=.slice a 0 cap)
theorem IsL.below {n:Nat} {w w':World} {v:Value} {l:List L9.Ins} (h:IsL n w v l) (hb:Below n w w'):IsL n w' v l:=by
 rcases h with ⟨b,o,cap,rfl,hlt,hc⟩|h
 ·exact .inl ⟨b,o,cap,rfl,hlt,fun j hj=>(hc j hj).below hlt hb⟩
 ·exact .inr h
theorem IsAt.low {w:World} {v:Value} {l:List L9.Ins} (h:IsAt w v l):IsL w.heap.size w v l:=by
 rcases h with ⟨b,o,cap,rfl,hlt,hc⟩|h
 ·exact .inl ⟨b,o,cap,rfl,hlt,fun j hj=>⟨hc j hj 0 _ rfl,hc j hj 1 _ rfl,hc j hj 2 _ rfl,hc j hj 3 _ rfl,hc j hj 4 _ rfl,hc j hj 5 _ rfl⟩⟩
 ·exact .inr h
theorem isl_form {n₀:Nat} {w:World} {v:Value} {l:List L9.Ins} {n:Nat} (hn:l.length=n) (h:IsL n₀ w v l):∃ a c,v=.slice a n c∧(0<n→∃ b o,a=some ⟨b,o,none⟩∧b<n₀∧∀ j,(h:j<l.length)→Six w b (o+j*6) l[j]):=by
 subst hn
 rcases h with ⟨b,o,cap,rfl,hb,hc⟩|⟨rfl,a,cap,rfl⟩
 ·exact⟨_,_,rfl,fun _=>⟨b,o,rfl,hb,hc⟩⟩
 ·exact⟨a,cap,rfl,fun h=>absurd h (by simp)⟩
theorem six_new {w:World} {k:Nat} {x:L9.Ins} {t:TypeId} {fr:Nat × Nat} (h:w.heap[k]?=some (.cells (xcs x) t fr)):Six w k 0 x:=by
 simp [Six,World.cell?,h]
theorem slots_in (n:Nat) (hn:2≤n) (lp Bn n₀:Nat) (v:Value) (l:List L9.Ins) (hl:l.length≤1000000) (J Jx:List Sl→World→Prop) (W:World) (hJ:AbidesFrom W.heap.size J)
  (hY:∀ pre x W1,J pre W1→pre.length<(sls 0 l).length→YieldAt Fence.wide (n-1) Tryz.prog lp (Sl.vs x) W1 fun e W' =>
   (e=.returned (.bool true)∧J (pre++[x]) W'∧Kq n₀ W1 W')∨(e=.returned (.bool false)∧Jx (pre++[x]) W'))
  (hBn:W.cell? ⟨Bn,0,none⟩=some v) (hv:IsL n₀ W v l) (hn₀:n₀≤W.heap.size) (h0:J [] W) :
  CallsIn Fence.wide n Tryz.prog 125 #[.func (.yield lp) #[] #[],.pointer (some ⟨Bn,0,none⟩)] W fun e W'=>(∃ v,e=.returned v) ∧
   ((∃ ys,ys=sls 0 l∧J ys W')∨(∃ pre,pre <+: sls 0 l∧Jx pre W')):=by
 obtain⟨N,hN⟩:∃ n,l.length=n:=⟨_,rfl⟩
 obtain⟨ad,cap,rfl,hc⟩:=isl_form hN hv
 have hsl:(sls 0 l).length=N:=by rw [sls_len,hN]
 rw [hN] at hl
 have HN:=Lib.hid hN
 have HC:=Lib.hid hc
 have HY:=Lib.hid hY
 have HJ:=Lib.hid hJ
 have HL:=Lib.hid hsl
 clear hv hc hN hY hJ hsl
 refine callsIn_of_wp Tryz.func125 rfl trivial ?_ rfl
 simp only [Tryz.ntmps125,List.size_toArray,List.length_cons,List.length_nil,Nat.reduceAdd,Nat.reduceSub,Array.replicate_succ,Array.replicate_zero,List.push_toArray,List.append_toArray,List.nil_append,List.cons_append]
 gi_wp2
 gi_loopw [3,8] (fun a r wr=>∃ k:Nat,k≤N∧a=.int .i64 (stN l k:Int)∧r=.int .i64 (k:Int)∧Hid (Below n₀ W wr∧W.heap.size≤wr.heap.size∧J ((sls 0 l).take k) wr)) (fun _ r _=>N-(intOf r).toNat)
 case atStart=>exact⟨0,Nat.zero_le _,by simp [stN,smN],rfl,Lib.hid ⟨Below.refl _ _,Nat.le_refl _,by simpa using h0⟩⟩
 case round =>
  obtain⟨k,hk,rfl,rfl,hr⟩:=hrel
  by_cases hlt:k<N
  ·obtain⟨hB,hz,hJr⟩:=hr.out
   have hkl:k<l.length:=by rw [HN.out];omega
   obtain⟨b,o,rfl,hbn,hc⟩:=HC.out (by omega)
   obtain⟨x0,x1,x2,x3,x4,x5⟩:=(hc k hkl).below hbn hB
   have hle:=stN_le l k
   rw [HN.out] at hle
   have hsu:=stN_succ l k hkl
   have hpre:=sls_step l k hkl
   obtain⟨y,hy⟩:∃ y,l[k]=y:=⟨_,rfl⟩
   rw [hy] at x0 x1 x2 x3 x4 x5 hsu hpre
   have hs2:=slN_le y
   obtain⟨t,ht⟩:∃ t,stN l k=t:=⟨_,rfl⟩
   rw [ht] at hle hsu hpre ⊢
   have hna:(⟨t,y⟩:Sl).a=t:=by unfold Sl.a;simp;omega
   have hJ1:=HJ.out _ _ _ none hJr (grown_of_below (L8.bnew wr (.cells (xcs y) 45))) (fun r e=>by cases e)
   have hYn:=HY.out _ ⟨t,y⟩ _ hJ1 (by rw [List.length_take,HL.out];omega)
   unfold Sl.vs at hYn
   rw [hna,← hpre] at hYn
   simp only at hYn
   have HBe:=Lib.hid (fun W=>callsIn_wide (n:=n-1).2 (behind_at t y _ W (by omega) rfl))
   have HU:=Lib.hid hsu
   have HB:=Lib.hid (And.intro hB hz)
   have hbx:=heap_alloc_last wr (.cells (xcs y) 45)
   have HX:=Lib.hid hbx
   have HS:=Lib.hid hs2
   obtain⟨op,reg,dst,src,off,imm⟩:=y
   obtain⟨fn,tmps,assign,body,hy2,hYR⟩:=hYn
   clear hc hJr hsu hpre hy ht hr hB hz hJ1 hna hbx
   gi_wp2
   refine⟨fun _=>by omega,?_⟩
   refine hYR.mono ?_
   rintro e W3 (⟨rfl,hJ3,hk3,hi3⟩|⟨rfl,hJx3⟩)
   ·obtain⟨z0,z1,z2,z3,z4,z5⟩:=six_new (hi3 _ _ _ HX.out)
    simp only [Nat.zero_add] at z1 z2 z3 z4 z5
    have HK:=Lib.hid (((HB.out.1.trans ((L8.bnew wr (.cells (xcs ⟨op,reg,dst,src,off,imm⟩) 45)).mono (Nat.le_trans hn₀ HB.out.2)))).trans hk3)
    have HZ:=Lib.hid (show W.heap.size≤W3.heap.size from Nat.le_trans HB.out.2 (Nat.le_trans (by simp) hk3.size))
    have HJ3:=Lib.hid hJ3
    have hs2:=HS.out
    clear hYR hy2 hJ3 hk3 hi3
    gi_wp2_with (refine⟨trivial,fun _=>by omega,?_⟩;((with_reducible refine (HBe.out _).mono ?_);rintro e w4 ⟨rfl,b4⟩))
    go_roundw
    case rel =>
     refine⟨k+1,by omega,by rw [HU.out];go_num,by go_num,Lib.hid ⟨HK.out.trans (b4.mono (Nat.le_trans hn₀ HZ.out)),Nat.le_trans HZ.out b4.size,?_⟩⟩
     exact HJ.out _ _ _ none HJ3.out (grown_of_below b4) (fun r e=>by cases e)
    case measure=>simp [intOf];omega
   ·clear hYR hy2
    gi_wp2
    refine bodyPost_ret (results_none rfl _ _ _) rfl ?_
    exact⟨⟨_,rfl⟩,.inr ⟨_,List.take_prefix _ _,hJx3⟩⟩
  ·obtain rfl:k=N:=by omega
   have hJr:=hr.out.2.2
   rw [List.take_of_length_le (by rw [HL.out];exact Nat.le_refl _)] at hJr
   clear hr
   gi_wp2
   go_end0
   exact⟨⟨_,rfl⟩,.inl ⟨_,rfl,hJr⟩⟩
theorem slots_fn (a:Option Addr) (n cap:Nat) (w:World):Calls Tryz.prog 78 #[.slice a n cap] w fun e w'=>e=.returned (.func (.func 125) #[] #[.pointer (some ⟨w.heap.size,0,none⟩)])∧w'=w.alloc (.cells #[.slice a n cap] 38):=by
 have hmf:(Instr.makeFunc (.func 125) #[] #[.pointer (some ⟨w.heap.size,0,none⟩)]).run Tryz.prog (w.alloc (.cells #[.slice a n cap] 38))=.ok (.func (.func 125) #[] #[.pointer (some ⟨w.heap.size,0,none⟩)]) (w.alloc (.cells #[.slice a n cap] 38)):=by rfl
 go_enter Tryz.func78,Tryz.ntmps78
 go_wp2
 go_ret
 exact⟨rfl,rfl⟩
theorem stops_at (n:Nat) (hn:2≤n) (Bn n₀:Nat) (v:Value) (l:List L9.Ins) (hl:l.length≤1000000) (w:World) (hBn:Bn<w.heap.size) (hn₀:n₀≤w.heap.size) (hc:w.cell? ⟨Bn,0,none⟩=some v) (hv:IsL n₀ w v l) :
  SeqStopsK Fence.wide n Tryz.prog 125 #[.pointer (some ⟨Bn,0,none⟩)] Sl.vs (Kq n₀) (fun ys=>ys=sls 0 l) (fun pre=>pre <+: sls 0 l) (sls 0 l).length w:=fun lp J Jx W hW hJ _ hY hj =>
 slots_in n hn lp Bn n₀ v l hl J Jx W hJ hY ((hW.cell (p:=⟨Bn,0,none⟩) hBn).trans hc) (hv.below (hW.mono hn₀)) (Nat.le_trans hn₀ hW.size) hj
theorem infoInt:(Tryz.prog.info? 3).map (fun i=>(i.zero,i.size,i.bytes))=some (some (.int .i64 0),1,8):=by kernel_rfl
theorem Boxed.below {W W':World} {B:Nat} {t:TypeId} {v:Value} (h:Boxed W B t v) (hb:Below W.heap.size W W'):Boxed W' B t v:=(hb.block B h.lt).trans h
theorem KI.row {W W':World} {base e:TypeId} {size:Nat} {v:Value} {n:Nat} {xs:List Value} (hr:W.ownsRow base e size v n xs) (he:e≠45) (hg:W.grownBy W' v.ownBlock):KI W W':=fun i cs fr h=>by
 refine (hg.block i (lt_of_block h) (fun eq=>?_)).trans h
 rcases hr.2 with ⟨rfl,_⟩|⟨g,cap,cur,rfl,_,hh,_⟩
 ·simp [Value.ownBlock] at eq
 ·obtain rfl:i=g:=by simpa [Value.ownBlock] using eq
  rw [h] at hh
  simp only [Option.some.injEq,Obj.cells.injEq] at hh
  exact he hh.2.1.symm
theorem cells_own {β:Type} (B:Nat) (t:TypeId) (f:β→Array Value):Own (fun s W=>W.heap[B]?=some (.cells (f s) t)):=fun s X Y row hs hg hrow=>by
 have hs':X.heap[B]?=some (.cells (f s) t):=hs
 exact (hg.block B (lt_of_block hs') (fun e'=>by obtain⟨o,ho,hc⟩:=hrow B e'.symm;rw [hs'] at ho;cases ho;cases hc)).trans hs'
theorem owns_slice {w:World} {base e:TypeId} {size:Nat} {v:Value} {n:Nat} {xs:List Value} (h:w.ownsRow base e size v n xs):∃ a c,v=.slice a n c:=by
 rcases h.2 with ⟨rfl,rfl⟩|⟨g,cap,cur,rfl,_⟩
 ·exact⟨_,_,rfl⟩
 ·exact⟨_,_,rfl⟩
theorem own_weak {w:World} {base base' e:TypeId} {size:Nat} {v:Value} {n:Nat} {xs:List Value} (h:w.ownsRow base e size v n xs) (hb:base'≤base):w.ownsRow base' e size v n xs:=by
 refine⟨h.1,?_⟩
 rcases h.2 with h|⟨g,cap,cur,hv,hg,r⟩
 ·exact .inl h
 ·exact .inr ⟨g,cap,cur,hv,Nat.le_trans hb hg,r⟩
theorem own_off {w:World} {base e:TypeId} {size:Nat} {v:Value} {n:Nat} {xs:List Value} (h:w.ownsRow base e size v n xs) {k:Nat} (hk:k<base):some k≠v.ownBlock:=by
 rcases h.2 with ⟨rfl,_⟩|⟨g,cap,cur,rfl,hg,_⟩
 ·simp [Value.ownBlock]
 ·simp [Value.ownBlock];omega
def stC (l:List Sl):List Value:=l.map fun r=>.int .i64 (r.a:Int)
def ttN (l:List Sl):Nat:=(l.getLast?.map fun r=>r.a+slN r.x).getD 0
theorem stC_snoc (l:List Sl) (x:Sl):stC (l++[x])=stC l++[.int .i64 (x.a:Int)]:=by simp [stC]
theorem ttN_snoc (l:List Sl) (x:Sl):ttN (l++[x])=x.a+slN x.x:=by simp [ttN]
theorem stC_all (l:List L9.Ins) (h:l.length≤1000000):stC (sls 0 l)=(stL 0 l).map fun (a:Nat)=>Value.int .i64 (a:Int):=by
 refine List.ext_getElem? fun i=>?_
 unfold stC
 rw [List.getElem?_map,List.getElem?_map]
 by_cases hi:i<l.length
 ·rw [sls_get l 0 i hi,stL_get l 0 i hi]
  have:=stN_le l i
  simp only [Option.map_some,Sl.a]
  rw [Nat.min_eq_left (by omega)]
 ·rw [List.getElem?_eq_none (by rw [sls_len];omega),List.getElem?_eq_none (by rw [stL_len];omega)]
  rfl
theorem ttN_all (l:List L9.Ins) (h:l.length≤1000000):ttN (sls 0 l)=smN l:=by
 by_cases h0:l=[]
 ·subst h0;rfl
 ·have hp:0<l.length:=List.length_pos_iff.2 h0
  obtain⟨m,hm⟩:∃ m,l.length=m+1:=⟨l.length-1,by omega⟩
  have e:=sls_step l m (by omega)
  rw [List.take_of_length_le (by rw [sls_len,hm];exact Nat.le_refl _)] at e
  have:=stN_le l m
  have hs:=stN_all l
  rw [hm,stN_succ l m (by omega)] at hs
  rw [e,ttN_snoc,← hs]
  simp only [Sl.a]
  rw [Nat.min_eq_left (by omega)]
def StI (w:World) (g:Nat) (pre:List Sl) (W:World):Prop :=
 Boxed W (g+1) 3 (.int .i64 (ttN pre:Int))∧(∃ v,Boxed W g 46 v∧W.ownsRow (w.heap.size+1+1+1) 3 1 v pre.length (stC pre)∧True)∧Below w.heap.size w W
theorem stI_own (w:World) (B:Nat) (hB:w.heap.size≤B):OwnFrom B (StI w w.heap.size) :=
 OwnFrom.and (Own.from (boxed_own _ _ (fun pre=>.int .i64 (ttN pre:Int))) _) (OwnFrom.and (Own.from (holdsRow_own _ _ _ _ _ (fun pre:List Sl=>pre.length) (fun pre=>stC pre) (fun _ _=>True)) _) (ownFrom_below (Nat.le_refl _) hB))
def StP (w:World) (l:List L9.Ins) (e:Ending) (w':World):Prop :=
 (∃ v,e=.returned (.tuple #[v,.int .i64 (smN l:Int)])∧w'.ownsRow w.heap.size 3 1 v l.length ((stL 0 l).map fun (a:Nat)=>Value.int .i64 (a:Int)))∧Below w.heap.size w w'
theorem starts_at (v:Value) (l:List L9.Ins) (hl:l.length≤1000000) (w:World) (hv:IsAt w v l) :
  Calls Tryz.prog 39 #[v] w fun e w'=>StP w l e w':=by
 obtain⟨n,hn⟩:∃ n,l.length=n:=⟨_,rfl⟩
 have hL:=hv.low
 obtain⟨ad,cap,rfl,-⟩:=is_form hn hv
 clear hv
 obtain⟨i0,hi,hz0,hz1,hz2⟩:=info_parts infoInt
 refine (callsIn_wide (n:=6)).1 ?_
 refine callsIn_of_wp_marks Tryz.func39 rfl trivial ?_ rfl
 simp only [Tryz.ntmps39,List.size_toArray,List.length_cons,List.length_nil,Nat.reduceAdd,Nat.reduceSub,Array.replicate_succ,Array.replicate_zero,List.push_toArray,List.append_toArray,List.nil_append,List.cons_append]
 gi_wp2_with (refine⟨trivial,?_⟩;gi_at_call 78;refine (callsIn_wide.2 (slots_fn ad n cap _)).mono ?_;rintro e w1 ⟨rfl,rfl⟩)
 have b0:=(((Boxed.new w 46 (.slice none 0 0)).alloc (.cells #[.int .i64 0] 3)).alloc (.cells #[.slice ad n cap] 38))
 have b1:=((Boxed.new (w.alloc (.cells #[.slice none 0 0] 46)) 3 (.int .i64 0)).alloc (.cells #[.slice ad n cap] 38))
 have b2:=Boxed.new ((w.alloc (.cells #[.slice none 0 0] 46)).alloc (.cells #[.int .i64 0] 3)) 38 (.slice ad n cap)
 simp only [World.size_alloc] at b1 b2
 have hB0:Below w.heap.size w (((w.alloc (.cells #[.slice none 0 0] 46)).alloc (.cells #[.int .i64 0] 3)).alloc (.cells #[.slice ad n cap] 38)) :=
  (((Below.refl _ w).alloc (Nat.le_refl _) _).alloc (by simp) _).alloc (by simp;omega) _
 have hsz:(((w.alloc (.cells #[.slice none 0 0] 46)).alloc (.cells #[.int .i64 0] 3)).alloc (.cells #[.slice ad n cap] 38)).heap.size=w.heap.size+1+1+1:=by simp
 obtain⟨W0,hW0⟩:∃ W0,((w.alloc (.cells #[.slice none 0 0] 46)).alloc (.cells #[.int .i64 0] 3)).alloc (.cells #[.slice ad n cap] 38)=W0:=⟨_,rfl⟩
 rw [hW0] at b0 b1 b2 hB0 hsz
 have HSZ:=Lib.hid hsz
 have hsz1:w.heap.size+1+1<W0.heap.size:=by omega
 simp only [hW0]
 clear hsz
 clear hW0
 refine wpIn_rangeFunc_ownH rfl (by omega) (gf:=125) (lb:=#[.pointer (some ⟨w.heap.size+1+1,0,none⟩)]) rfl trivial (enters_of Tryz.func125 (by kernel_rfl) rfl)
  (stops_at _ (by omega) (w.heap.size+1+1) w.heap.size (.slice ad n cap) l hl W0 (by omega) (by omega) b2.cell (hL.below hB0)) (fun h k=>Kq.t h k) (fun W l o o' h1 h2 h3 h4=>Kq.b (w:=W0) (by omega) W l o o' h1 h2 h3 h4) (Below.refl _ _) (fun _=>rfl)
  (StI w w.heap.size) (fun _ _ _=>False) (stI_own w _ (by omega)) (fun _=>ownFrom_pure _ _)
  ⟨b1,⟨_,b0,World.ownsRow_nil _ _ _ _,trivial⟩,hB0⟩
  (fun x a' W=>∃ Bx,w.heap.size+1<Bx∧W.heap[Bx]?=some (.cells (xcs x.x) 45)∧a'={ tmps:=#[.slice ad n cap,undef,.slice none 0 0,.int .i64 0,.pointer (some ⟨w.heap.size,0,none⟩),.pointer (some ⟨w.heap.size+1,0,none⟩),.int .i64 (x.a:Int),.pointer (some ⟨Bx,0,none⟩),.slice ad n cap,.func (.func 125) #[] #[.pointer (some ⟨w.heap.size+1+1,0,none⟩)],.int .i64 (x.a:Int),.agg (xcs x.x),undef,undef,undef,undef,undef,undef,undef,undef,undef],defers:=[] })
  (fun x a' _ X Y row hs hg hr=>by obtain⟨Bx,h1,h2,h3⟩:=hs;exact⟨Bx,h1,cells_own Bx 45 (fun (_:Unit)=>xcs x.x) () X Y row h2 hg (fun r e=>(hr r e).2),h3⟩)
  ?assign ?body ?done ?stop
 case assign =>
  rintro lp pre x W K ⟨c1,⟨vv,c0,hrow,-⟩,hB1⟩ hK
  gi_wp2
  exact hK _ _ ((KeepsOthers.alloc _ _).from _) ⟨(Below.refl _ W).alloc hB1.size _,KI.below (L8.bnew _ _)⟩ ⟨c1.alloc _,⟨vv,c0.alloc _,hrow.alloc _,trivial⟩,hB1.alloc hB1.size _⟩ ⟨W.heap.size,c1.lt,heap_alloc_last _ _,rfl⟩
 case body =>
  rintro lp pre x a' W hlp ⟨lr,hlr⟩ ⟨c1,⟨vv,c0,hrow,-⟩,hB1⟩ ⟨Bx,hBx,bX,rfl⟩ hlt
  rw [sls_len,hn] at hlt
  have d0:=c0.cell
  have f0:=c0.frozen
  have hpl:pre.length<1000000:=by omega
  have hsz:=hB1.size
  have hlz:w.heap.size+1+1+1≤W.heap.size:=by have:=lt_of_block hlr;have:=HSZ.out;omega
  have hBe:=Lib.hid (fun W=>callsIn_wide (n:=3).2 (behind_at x.a x.x _ W (by unfold Sl.a;omega) rfl))
  have x0:=six_new bX
  obtain⟨y0,y1,y2,y3,y4,y5⟩:=x0
  obtain⟨sa,xx⟩:=x
  obtain⟨op,reg,dst,src,off,imm⟩:=xx
  generalize hsa:Sl.a _=s at *
  simp only [Nat.zero_add] at y1 y2 y3 y4 y5
  gi_wp2_with (first|(gi_at_builtin;refine wpListIn_append_own _ rfl _ _ 46 rfl (w.heap.size+1+1+1) 3 i0 (.int .i64 0) 1 8 Tryz.underlying46 hi hz0 hz1 hz2 rfl (by decide) _ _ _ rfl (hrow.alloc _) ⟨W.heap.size,0,none⟩ 1 1 [.int .i64 (s:Int)] rfl rfl (World.news_of_block (cs:=#[.int .i64 (s:Int)]) (t:=3) (fr:=(0,0)) (heap_alloc_last W _)) (by simp [Value.oneCell']) (by unfold maxLen;omega) (by omega) (by simp;omega) ?_;intro v' w1 hown' hgrow _;obtain⟨g',cap',rfl⟩:=ownsRow_succ hown';obtain⟨hv1,hv2,-,hk2,hb2⟩:=c0.appended (by decide) (own_weak hrow (by omega:w.heap.size≤w.heap.size+1+1+1)) hB1.size (Nat.le_refl _) (own_weak hown' (by omega:w.heap.size≤w.heap.size+1+1+1)) hgrow;have hc1:=hv1.cell;have hf1:=hv1.frozen;have hki:=((KI.below (L8.bnew W (.cells #[.int .i64 (s:Int)] 3))).trans (KI.row (hrow.alloc _) (by decide) hgrow)).trans (KI.set hv1 (by decide) (.slice (some ⟨g',0,none⟩) (pre.length+1) cap'));obtain⟨z0,z1,z2,z3,z4,z5⟩:=six_new (hki _ _ _ bX);simp only [Nat.zero_add] at z1 z2 z3 z4 z5)|(refine⟨trivial,?_⟩;(refine (CallsIn.inRound lp (hBe.out _)).mono ?_;rintro e w4 ⟨rfl,b4⟩;have c1w:=Boxed.below ((((c1.alloc (.cells #[.int .i64 (s:Int)] 3)).kept hgrow (own_off hrow (by omega))).other (B':=w.heap.size) (by omega) (.slice (some ⟨g',0,none⟩) (pre.length+1) cap'))) b4;have hc2:=c1w.cell;have hf2:=c1w.frozen)))
  have e1:((ttN (pre++[⟨sa,⟨op,reg,dst,src,off,imm⟩⟩]):Nat):Int)=(s:Int)+(slN ⟨op,reg,dst,src,off,imm⟩:Int):=by rw [ttN_snoc,hsa];exact Int.natCast_add _ _
  have e2:=stC_snoc pre ⟨sa,⟨op,reg,dst,src,off,imm⟩⟩
  rw [hsa] at e2
  have hBB:=(hb2.trans (b4.mono (Nat.le_trans hsz hb2.size))).setCell (p:=⟨w.heap.size+1,0,none⟩) (Nat.le_succ _) (.int .i64 ((s:Int)+(slN ⟨op,reg,dst,src,off,imm⟩:Int)))
  have r1:=hown'.kept (grownBy_setCell' w1 w.heap.size (.slice (some ⟨g',0,none⟩) (pre.length+1) cap')) (.inr (own_off hown' (by omega)).symm)
  have r2:=L8.own_below r1 b4
  have r3:=r2.kept (grownBy_setCell' w4 (w.heap.size+1) (.int .i64 ((s:Int)+(slN ⟨op,reg,dst,src,off,imm⟩:Int)))) (.inr (own_off r2 (by omega)).symm)
  refine⟨((hk2.trans (keeps_below b4)).trans (KeepsOthers.setCell _ _ _)).from _,⟨hBB,(hki.trans (KI.below b4)).trans (KI.set c1w (by decide) _)⟩,?_,⟨_,(Boxed.below hv2 b4).other (by omega) _,?_,trivial⟩,hB1.trans hBB⟩
  ·rw [e1];exact c1w.set _
  ·rw [e2,List.length_append];exact r3
 case done =>
  rintro D ys W hD rfl ⟨c1,⟨vv,c0,hrow,-⟩,hB1⟩ hK
  obtain⟨va,vc,rfl⟩:=owns_slice hrow
  have d0:=c0.cell
  have d1:=c1.cell
  have hmx:Tryz.prog.follows .mixedOrders=true:=by kernel_rfl
  have hlx:Tryz.prog.follows .lateStores=true:=by kernel_rfl
  gi_wp2
  gi_quiet (fail)
  gi_wp2
  have hD0:Below W.heap.size W (W.drewN nq):=below_drewN (Below.refl _ _) nq
  have hKD:=(hD0.block D (lt_of_block hK)).trans hK
  refine⟨by simp,.inl ⟨_,_,rfl,run_takeDeferred hKD,?_⟩⟩
  refine⟨.tuple #[.slice va (sls 0 l).length vc,.int .i64 (ttN (sls 0 l):Int)],by simp [results,Tryz.results39,go_sem],⟨_,by rw [ttN_all l hl],?_⟩,?_⟩
  ·have:=own_weak (ownsRow_putObj (L8.own_below hrow hD0) (.deferred none) hKD rfl) (by omega:w.heap.size≤w.heap.size+1+1+1)
   rw [stC_all l hl,sls_len] at this
   rw [sls_len]
   exact this
  ·exact (hB1.trans (hD0.mono hB1.size)).trans (belowK_b (w:=w) (Nat.le_refl _) (W.drewN nq) D _ _ (by have:=HSZ.out;omega) hKD rfl rfl)
 case stop =>
  rintro D c pre W hD hp h hK
  exact absurd h (by simp)
theorem own_nums {W:World} {B e:TypeId} {v:Value} {xs:List Nat} (h:W.ownsRow B e 1 v xs.length (xs.map fun (a:Nat)=>Value.int .i64 (a:Int))):L10.InAt W v (xs.map fun (a:Nat)=>(a:Int)):=by
 rcases h.2 with ⟨rfl,h0⟩|⟨g,cap,cur,rfl,_,hh,_⟩
 ·exact .inr ⟨by rw [List.eq_nil_of_length_eq_zero h0];rfl,none,0,rfl⟩
 ·refine .inl ⟨g,0,cap,by rw [List.length_map],lt_of_block hh,fun k hk=>?_⟩
  rw [List.length_map] at hk
  have:=h.cells (g:=g) rfl k (.int .i64 ((xs[k]:Nat):Int)) (by simp [List.getElem?_eq_getElem hk])
  rw [Nat.zero_add,List.getElem_map]
  rwa [L8.add0] at this
theorem starts_is (v:Value) (l:List L9.Ins) (n:Nat) (hn:l.length=n) (hl:n≤1000000) (w:World) (hv:IsAt w v l) :
  Calls Tryz.prog 39 #[v] w fun e w'=>(∃ a c,e=.returned (.tuple #[.slice a n c,.int .i64 (smN l:Int)])∧L10.InAt w' (.slice a n c) ((stL 0 l).map fun (a:Nat)=>(a:Int)))∧Below w.heap.size w w':=by
 refine (starts_at v l (by omega) w hv).mono fun e w' h=>?_
 obtain⟨⟨u,rfl,hr⟩,hb⟩:=h
 rw [← stL_len l 0] at hr
 obtain⟨a,c,rfl⟩:=owns_slice hr
 have hi:=own_nums hr
 rw [stL_len,hn] at hi
 exact⟨⟨a,c,by rw [stL_len,hn],hi⟩,hb⟩
theorem st_cell {w:World} {a:Option Addr} {l:List L9.Ins} {n c i:Nat} (hn:l.length=n) (h:L10.InAt w (.slice a n c) ((stL 0 l).map fun (a:Nat)=>(a:Int))) (hi:i<n):∃ b o,a=some ⟨b,o,none⟩∧b<w.heap.size∧∀ j,j<n→w.cell? ⟨b,o+j,none⟩=some (.int .i64 (stN l j:Int)):=by
 obtain⟨a',c',hv,hc⟩:=L10.in_form (n:=n) (by rw [List.length_map,stL_len,hn]) h
 cases hv
 obtain⟨b,o,rfl,hb,hx⟩:=hc (by omega)
 refine⟨b,o,rfl,hb,fun j hj=>?_⟩
 have:=hx j (by rw [List.length_map,stL_len,hn];exact hj)
 rw [List.getElem_map] at this
 have e:=stL_get l 0 j (by omega)
 rw [List.getElem?_eq_getElem (by rw [stL_len];omega),Option.some.injEq,Nat.zero_add] at e
 rwa [e] at this
theorem cell_up {w w':World} {p:Addr} {v:Value} (hb:Below w.heap.size w w') (h:w.cell? p=some v):w'.cell? p=some v:=(hb.cell (World.block_lt_of_cell? _ _ h)).trans h
end Go.Proofs.YtihiggnglmhggaaGreatDoor.L12
end
