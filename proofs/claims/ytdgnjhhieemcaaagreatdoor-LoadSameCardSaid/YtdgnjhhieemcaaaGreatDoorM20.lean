/- Lemmas and walks of L12Sl, L12Mem, L12Itr: what each theorem states; conditions stand in each theorem. -/
import Derived.Test.YtdgnjhhieemcaaaGreatDoorM19
set_option maxHeartbeats 2000000
set_option maxRecDepth 100000
section
namespace Go.Proofs.YtdgnjhhieemcaaaGreatDoor.L12
open L3 L4
def slN (x:L9.Ins):Nat:=(slo (frm (ix x.op))).toNat
theorem slN_int (x:L9.Ins):slo (frm (ix x.op))=(slN x:Int):=by
 unfold slN slo
 split
 ·rfl
 ·split <;> rfl
theorem slN_le (x:L9.Ins):slN x≤2:=by
 unfold slN slo
 split
 ·decide
 ·split <;> decide
def smN:List L9.Ins→Nat
 | []=>0
 | x::r=>slN x+smN r
def stL:Nat→List L9.Ins→List Nat
 | _,[]=>[]
 | a,x::r=>a::stL (a+slN x) r
def stN (l:List L9.Ins) (i:Nat):Nat:=smN (l.take i)
def atN:Nat→Nat→List L9.Ins→Int→Int
 | _,_,[],_=>-1
 | k,a,x::r,s=>if (a:Int)=s then (k:Int) else atN (k+1) (a+slN x) r s
theorem smN_app (l m:List L9.Ins):smN (l++m)=smN l+smN m:=by
 induction l with
 | nil=>simp [smN]
 | cons x r ih=>simp only [List.cons_append,smN,ih];omega
theorem smN_le:∀ l:List L9.Ins,smN l≤2*l.length
 | []=>by simp [smN]
 | x::r=>by
  have:=smN_le r
  have:=slN_le x
  simp only [smN,List.length_cons];omega
theorem stN_succ (l:List L9.Ins) (i:Nat) (h:i<l.length):stN l (i+1)=stN l i+slN l[i]:=by
 unfold stN
 rw [List.take_add_one,List.getElem?_eq_getElem h,Option.toList,smN_app]
 simp [smN]
theorem stN_le (l:List L9.Ins) (i:Nat):stN l i≤2*l.length:=by
 have:=smN_le (l.take i)
 rw [List.length_take] at this
 unfold stN
 omega
theorem stN_all (l:List L9.Ins):stN l l.length=smN l:=by unfold stN;rw [List.take_length]
theorem stL_len:∀ (l:List L9.Ins) (a:Nat),(stL a l).length=l.length
 | [],_=>rfl
 | x::r,a=>by rw [stL,List.length_cons,List.length_cons,stL_len r]
theorem stL_get:∀ (l:List L9.Ins) (a i:Nat),i<l.length→(stL a l)[i]?=some (a+stN l i)
 | x::r,a,0,_=>by simp [stL,stN,smN]
 | x::r,a,i+1,h=>by
  rw [stL,List.getElem?_cons_succ,stL_get r (a+slN x) i (by simpa using h)]
  unfold stN
  rw [List.take_succ_cons,smN,Nat.add_assoc]
theorem atN_hit:∀ (l:List L9.Ins) (k a i:Nat),(∀ x∈l,slN x≠0)→i<l.length→atN k a l ((a+stN l i:Nat):Int)=((k+i:Nat):Int)
 | x::r,k,a,0,_,_=>by
  rw [atN,if_pos (by simp [stN,smN])]
  rfl
 | x::r,k,a,i+1,h,hi=>by
  have hx:=h x (by simp)
  have e:a+stN (x::r) (i+1)=(a+slN x)+stN r i:=by
   unfold stN
   rw [List.take_succ_cons,smN];omega
  rw [e,atN,if_neg (by omega),atN_hit r (k+1) (a+slN x) i (fun y hy=>h y (by simp [hy])) (by simpa using hi)]
  omega
def rfL (ms:List L9.Df):Nat→List L10.Stm→List (Nat × Int)
 | _,[]=>[]
 | a,s::r=>(if frm (ix s.x.op)=11∧0≤L10.mpI 0 ms s.mp then [(a,L10.mpI 0 ms s.mp)] else [])++rfL ms (a+slN s.x) r
end Go.Proofs.YtdgnjhhieemcaaaGreatDoor.L12
end
section
namespace Go.Proofs.YtdgnjhhieemcaaaGreatDoor.L12
open Go.RowKit L3 L4
attribute [local go_sem] Oper.semAt_some
def IsAt (w:World) (v:Value) (l:List L9.Ins):Prop :=
 (∃ b o cap,v=.slice (some ⟨b,o,none⟩) l.length cap∧b<w.heap.size∧∀ j,(h:j<l.length)→∀ i u,(L10.inL l[j])[i]?=some u→w.cell? ⟨b,o+j*6+i,none⟩=some u)∨(l=[]∧∃ a cap,v=.slice a 0 cap)
theorem IsAt.below {w w':World} {v:Value} {l:List L9.Ins} (h:IsAt w v l) (hb:Below w.heap.size w w'):IsAt w' v l:=by
 rcases h with ⟨b,o,cap,rfl,hlt,hc⟩|h
 ·exact .inl ⟨b,o,cap,rfl,Nat.lt_of_lt_of_le hlt hb.size,fun j hj i u hu=>(hb.cell (by exact hlt)).trans (hc j hj i u hu)⟩
 ·exact .inr h
def Six (w:World) (b o:Nat) (x:L9.Ins):Prop :=
 w.cell? ⟨b,o,none⟩=some (.int .i64 x.op)∧w.cell? ⟨b,o+1,none⟩=some (.bool x.reg)∧w.cell? ⟨b,o+2,none⟩=some (.int .i64 x.dst)∧w.cell? ⟨b,o+3,none⟩=some (.int .i64 x.src)∧w.cell? ⟨b,o+4,none⟩=some (.int .i64 x.off)∧w.cell? ⟨b,o+5,none⟩=some (.int .i64 x.imm)
theorem Six.below {n:Nat} {w w':World} {b o:Nat} {x:L9.Ins} (h:Six w b o x) (hb:b<n) (hB:Below n w w'):Six w' b o x:=by
 obtain⟨h0,h1,h2,h3,h4,h5⟩:=h
 exact⟨(hB.cell (by exact hb)).trans h0,(hB.cell (by exact hb)).trans h1,(hB.cell (by exact hb)).trans h2,(hB.cell (by exact hb)).trans h3,(hB.cell (by exact hb)).trans h4,(hB.cell (by exact hb)).trans h5⟩
theorem is_form {w:World} {v:Value} {l:List L9.Ins} {n:Nat} (hn:l.length=n) (h:IsAt w v l):∃ a c,v=.slice a n c∧(0<n→∃ b o,a=some ⟨b,o,none⟩∧b<w.heap.size∧∀ j,(h:j<l.length)→Six w b (o+j*6) l[j]):=by
 subst hn
 rcases h with ⟨b,o,cap,rfl,hb,hc⟩|⟨rfl,a,cap,rfl⟩
 ·exact⟨_,_,rfl,fun _=>⟨b,o,rfl,hb,fun j hj=>⟨hc j hj 0 _ rfl,hc j hj 1 _ rfl,hc j hj 2 _ rfl,hc j hj 3 _ rfl,hc j hj 4 _ rfl,hc j hj 5 _ rfl⟩⟩⟩
 ·exact⟨a,cap,rfl,fun h=>absurd h (by simp)⟩
theorem behind_at (s:Nat) (x:L9.Ins) (n:Int) (w:World) (hs:s≤1000000000000) (hn:(s:Int)+(slN x:Int)=n) :
  Calls Tryz.prog 106 #[.int .i64 (s:Int),.agg #[.int .i64 x.op,.bool x.reg,.int .i64 x.dst,.int .i64 x.src,.int .i64 x.off,.int .i64 x.imm]] w fun e w'=>e=.returned (.int .i64 n)∧Below w.heap.size w w':=by
 obtain⟨m,hm⟩:∃ m,slN x=m:=⟨_,rfl⟩
 have hle:=slN_le x
 rw [hm] at hle hn
 have HS:=Lib.hid (fun W=>slots_at x.op _ (m:Int) W rfl (by rw [slN_int,hm]))
 subst hn
 clear hm
 go_enter Tryz.func106,Tryz.ntmps106
 go_wp2_with (go_at_call 148;((with_reducible refine (HS.out _).mono ?_);rintro e w1 ⟨rfl,b1⟩))
 go_ret
 exact⟨rfl,L2.bch (L8.bnew _ _) b1⟩
end Go.Proofs.YtdgnjhhieemcaaaGreatDoor.L12
end
section
namespace Go.Proofs.YtdgnjhhieemcaaaGreatDoor.L12
open Go.RowKit Go.Shelf L3 L4
attribute [local go_sem] Oper.semAt_some
structure Sl where
 at':Nat
 x:L9.Ins
def Sl.a (r:Sl):Nat:=min r.at' 10000000
abbrev xcs (x:L9.Ins):Array Value:=#[.int .i64 x.op,.bool x.reg,.int .i64 x.dst,.int .i64 x.src,.int .i64 x.off,.int .i64 x.imm]
abbrev Sl.vs (r:Sl):Array Value:=#[.int .i64 (r.a:Int),.agg (xcs r.x)]
def sls:Nat→List L9.Ins→List Sl
 | _,[]=>[]
 | a,x::r=>⟨a,x⟩::sls (a+slN x) r
theorem sls_len:∀ (l:List L9.Ins) (a:Nat),(sls a l).length=l.length
 | [],_=>rfl
 | x::r,a=>by rw [sls,List.length_cons,List.length_cons,sls_len r]
theorem sls_get:∀ (l:List L9.Ins) (a i:Nat) (h:i<l.length),(sls a l)[i]?=some ⟨a+stN l i,l[i]⟩
 | x::r,a,0,_=>by simp [sls,stN,smN]
 | x::r,a,i+1,h=>by
  rw [sls,List.getElem?_cons_succ,sls_get r (a+slN x) i (by simpa using h)]
  unfold stN
  rw [List.take_succ_cons,smN,Nat.add_assoc]
  rfl
theorem sls_step (l:List L9.Ins) (k:Nat) (h:k<l.length):(sls 0 l).take (k+1)=(sls 0 l).take k++[⟨stN l k,l[k]⟩]:=by
 rw [List.take_add_one,sls_get l 0 k h,Nat.zero_add];rfl
theorem grown_of_below {w w':World} (h:Below w.heap.size w w'):w.grownBy w' none:=⟨h.os,h.tape,h.output,h.size,fun k hk _=>h.block k hk⟩
theorem keeps_below {W W':World} (h:Below W.heap.size W W'):KeepsOthers W W':=⟨h.size,fun k _ hk _=>(h.block k (lt_of_block hk)).trans hk⟩
def KI (A B:World):Prop:=∀ (k:Nat) (cs:Array Value) (fr:Nat × Nat),A.heap[k]?=some (.cells cs 45 fr)→B.heap[k]?=some (.cells cs 45 fr)
theorem KI.trans {A B C:World} (h:KI A B) (k:KI B C):KI A C:=fun i cs fr e=>k i cs fr (h i cs fr e)
theorem KI.below {A B:World} (h:Below A.heap.size A B):KI A B:=fun i _ _ e=>(h.block i (lt_of_block e)).trans e
theorem KI.put {W:World} {l:Nat} {o:Obj} (o':Obj) (hl:W.heap[l]?=some o) (ho:o.isCells=false):KI W (W.putObj l o'):=fun i cs fr e=>by
 have hne:i≠l:=fun h=>by
  subst h
  rw [e] at hl;cases hl;cases ho
 exact (World.putObj_heap_other hne).trans e
theorem KI.set {W:World} {B:Nat} {t:TypeId} {v:Value} (h:Boxed W B t v) (ht:t≠45) (u:Value):KI W (W.setCell ⟨B,0,none⟩ u):=fun i cs fr e=>by
 have hne:i≠B:=fun h'=>by
  subst h'
  have h2:W.heap[i]?=some (.cells #[v] t (0,0)):=h
  rw [e] at h2
  simp only [Option.some.injEq,Obj.cells.injEq] at h2
  exact ht h2.2.1.symm
 have hg:=grownBy_setCell' W B u
 exact (hg.block i (lt_of_block e) (fun h'=>hne (by simpa using h'))).trans e
def Kq (n:Nat) (A B:World):Prop:=Below n A B∧KI A B
theorem Kq.t {n:Nat} {A B C:World} (h:Kq n A B) (k:Kq n B C):Kq n A C:=⟨h.1.trans k.1,h.2.trans k.2⟩
theorem Kq.b {n:Nat} {w:World} (hn:n≤w.heap.size) (W:World) (l:Nat) (o o':Obj) (hl:w.heap.size≤l) (h:W.heap[l]?=some o) (ho:o.isCells=false) (hw:o.isWalk=false):Kq n W (W.putObj l o'):=⟨belowK_b hn W l o o' hl h ho hw,KI.put o' h ho⟩
def IsL (n:Nat) (w:World) (v:Value) (l:List L9.Ins):Prop :=
 (∃ b o cap,v=.slice (some ⟨b,o,none⟩) l.length cap∧b<n∧∀ j,(h:j<l.length)→Six w b (o+j*6) l[j])∨(l=[]∧∃ a cap,v=.slice a 0 cap)
theorem IsL.below {n:Nat} {w w':World} {v:Value} {l:List L9.Ins} (h:IsL n w v l) (hb:Below n w w'):IsL n w' v l:=by
 rcases h with ⟨b,o,cap,rfl,hlt,hc⟩|h
 ·exact .inl ⟨b,o,cap,rfl,hlt,fun j hj=>(hc j hj).below hlt hb⟩
 ·exact .inr h
theorem IsAt.low {w:World} {v:Value} {l:List L9.Ins} (h:IsAt w v l):IsL w.heap.size w v l:=by
 rcases h with ⟨b,o,cap,rfl,hlt,hc⟩|h
 ·exact .inl ⟨b,o,cap,rfl,hlt,fun j hj=>⟨hc j hj 0 _ rfl,hc j hj 1 _ rfl,hc j hj 2 _ rfl,hc j hj 3 _ rfl,hc j hj 4 _ rfl,hc j hj 5 _ rfl⟩⟩
 ·exact .inr h
theorem isl_form {n₀:Nat} {w:World} {v:Value} {l:List L9.Ins} {n:Nat} (hn:l.length=n) (h:IsL n₀ w v l):∃ a c,v=.slice a n c∧(0<n→∃ b o,a=some ⟨b,o,none⟩∧b<n₀∧∀ j,(h:j<l.length)→Six w b (o+j*6) l[j]):=by
 subst hn
 rcases h with ⟨b,o,cap,rfl,hb,hc⟩|⟨rfl,a,cap,rfl⟩
 ·exact⟨_,_,rfl,fun _=>⟨b,o,rfl,hb,hc⟩⟩
 ·exact⟨a,cap,rfl,fun h=>absurd h (by simp)⟩
theorem six_new {w:World} {k:Nat} {x:L9.Ins} {t:TypeId} {fr:Nat × Nat} (h:w.heap[k]?=some (.cells (xcs x) t fr)):Six w k 0 x:=by
 simp [Six,World.cell?,h]
theorem slots_in (n:Nat) (hn:2≤n) (lp Bn n₀:Nat) (v:Value) (l:List L9.Ins) (hl:l.length≤1000000) (J Jx:List Sl→World→Prop) (W:World) (hJ:AbidesFrom W.heap.size J)
  (hY:∀ pre x W1,J pre W1→pre.length<(sls 0 l).length→YieldAt Fence.wide (n-1) Tryz.prog lp (Sl.vs x) W1 fun e W' =>
   (e=.returned (.bool true)∧J (pre++[x]) W'∧Kq n₀ W1 W')∨(e=.returned (.bool false)∧Jx (pre++[x]) W'))
  (hBn:W.cell? ⟨Bn,0,none⟩=some v) (hv:IsL n₀ W v l) (hn₀:n₀≤W.heap.size) (h0:J [] W) :
  CallsIn Fence.wide n Tryz.prog 147 #[.func (.yield lp) #[] #[],.pointer (some ⟨Bn,0,none⟩)] W fun e W'=>(∃ v,e=.returned v) ∧
   ((∃ ys,ys=sls 0 l∧J ys W')∨(∃ pre,pre <+: sls 0 l∧Jx pre W')):=by
 obtain⟨N,hN⟩:∃ n,l.length=n:=⟨_,rfl⟩
 obtain⟨ad,cap,rfl,hc⟩:=isl_form hN hv
 have hsl:(sls 0 l).length=N:=by rw [sls_len,hN]
 rw [hN] at hl
 have HN:=Lib.hid hN
 have HC:=Lib.hid hc
 have HY:=Lib.hid hY
 have HJ:=Lib.hid hJ
 have HL:=Lib.hid hsl
 clear hv hc hN hY hJ hsl
 refine callsIn_of_wp Tryz.func147 rfl trivial ?_ rfl
 simp only [Tryz.ntmps147,List.size_toArray,List.length_cons,List.length_nil,Nat.reduceAdd,Nat.reduceSub,Array.replicate_succ,Array.replicate_zero,List.push_toArray,List.append_toArray,List.nil_append,List.cons_append]
 gi_wp2
 gi_loopw [3,8] (fun a r wr=>∃ k:Nat,k≤N∧a=.int .i64 (stN l k:Int)∧r=.int .i64 (k:Int)∧Hid (Below n₀ W wr∧W.heap.size≤wr.heap.size∧J ((sls 0 l).take k) wr)) (fun _ r _=>N-(intOf r).toNat)
 case atStart=>exact⟨0,Nat.zero_le _,by simp [stN,smN],rfl,Lib.hid ⟨Below.refl _ _,Nat.le_refl _,by simpa using h0⟩⟩
 case round =>
  obtain⟨k,hk,rfl,rfl,hr⟩:=hrel
  by_cases hlt:k<N
  ·obtain⟨hB,hz,hJr⟩:=hr.out
   have hkl:k<l.length:=by rw [HN.out];omega
   obtain⟨b,o,rfl,hbn,hc⟩:=HC.out (by omega)
   obtain⟨x0,x1,x2,x3,x4,x5⟩:=(hc k hkl).below hbn hB
   have hle:=stN_le l k
   rw [HN.out] at hle
   have hsu:=stN_succ l k hkl
   have hpre:=sls_step l k hkl
   obtain⟨y,hy⟩:∃ y,l[k]=y:=⟨_,rfl⟩
   rw [hy] at x0 x1 x2 x3 x4 x5 hsu hpre
   have hs2:=slN_le y
   obtain⟨t,ht⟩:∃ t,stN l k=t:=⟨_,rfl⟩
   rw [ht] at hle hsu hpre ⊢
   have hna:(⟨t,y⟩:Sl).a=t:=by unfold Sl.a;simp;omega
   have hJ1:=HJ.out _ _ _ none hJr (grown_of_below (L8.bnew wr (.cells (xcs y) 45))) (fun r e=>by cases e)
   have hYn:=HY.out _ ⟨t,y⟩ _ hJ1 (by rw [List.length_take,HL.out];omega)
   unfold Sl.vs at hYn
   rw [hna,← hpre] at hYn
   simp only at hYn
   have HBe:=Lib.hid (fun W=>callsIn_wide (n:=n-1).2 (behind_at t y _ W (by omega) rfl))
   have HU:=Lib.hid hsu
   have HB:=Lib.hid (And.intro hB hz)
   have hbx:=heap_alloc_last wr (.cells (xcs y) 45)
   have HX:=Lib.hid hbx
   have HS:=Lib.hid hs2
   obtain⟨op,reg,dst,src,off,imm⟩:=y
   obtain⟨fn,tmps,assign,body,hy2,hYR⟩:=hYn
   clear hc hJr hsu hpre hy ht hr hB hz hJ1 hna hbx
   gi_wp2
   refine⟨fun _=>by omega,?_⟩
   refine hYR.mono ?_
   rintro e W3 (⟨rfl,hJ3,hk3,hi3⟩|⟨rfl,hJx3⟩)
   ·obtain⟨z0,z1,z2,z3,z4,z5⟩:=six_new (hi3 _ _ _ HX.out)
    simp only [Nat.zero_add] at z1 z2 z3 z4 z5
    have HK:=Lib.hid (((HB.out.1.trans ((L8.bnew wr (.cells (xcs ⟨op,reg,dst,src,off,imm⟩) 45)).mono (Nat.le_trans hn₀ HB.out.2)))).trans hk3)
    have HZ:=Lib.hid (show W.heap.size≤W3.heap.size from Nat.le_trans HB.out.2 (Nat.le_trans (by simp) hk3.size))
    have HJ3:=Lib.hid hJ3
    have hs2:=HS.out
    clear hYR hy2 hJ3 hk3 hi3
    gi_wp2_with (refine⟨trivial,fun _=>by omega,?_⟩;((with_reducible refine (HBe.out _).mono ?_);rintro e w4 ⟨rfl,b4⟩))
    go_roundw
    case rel =>
     refine⟨k+1,by omega,by rw [HU.out];go_num,by go_num,Lib.hid ⟨HK.out.trans (b4.mono (Nat.le_trans hn₀ HZ.out)),Nat.le_trans HZ.out b4.size,?_⟩⟩
     exact HJ.out _ _ _ none HJ3.out (grown_of_below b4) (fun r e=>by cases e)
    case measure=>simp [intOf];omega
   ·clear hYR hy2
    gi_wp2
    refine bodyPost_ret (results_none rfl _ _ _) rfl ?_
    exact⟨⟨_,rfl⟩,.inr ⟨_,List.take_prefix _ _,hJx3⟩⟩
  ·obtain rfl:k=N:=by omega
   have hJr:=hr.out.2.2
   rw [List.take_of_length_le (by rw [HL.out];exact Nat.le_refl _)] at hJr
   clear hr
   gi_wp2
   go_end0
   exact⟨⟨_,rfl⟩,.inl ⟨_,rfl,hJr⟩⟩
theorem slots_fn (a:Option Addr) (n cap:Nat) (w:World):Calls Tryz.prog 105 #[.slice a n cap] w fun e w'=>e=.returned (.func (.func 147) #[] #[.pointer (some ⟨w.heap.size,0,none⟩)])∧w'=w.alloc (.cells #[.slice a n cap] 29):=by
 have hmf:(Instr.makeFunc (.func 147) #[] #[.pointer (some ⟨w.heap.size,0,none⟩)]).run Tryz.prog (w.alloc (.cells #[.slice a n cap] 29))=.ok (.func (.func 147) #[] #[.pointer (some ⟨w.heap.size,0,none⟩)]) (w.alloc (.cells #[.slice a n cap] 29)):=by rfl
 go_enter Tryz.func105,Tryz.ntmps105
 go_wp2
 go_ret
 exact⟨rfl,rfl⟩
theorem stops_at (n:Nat) (hn:2≤n) (Bn n₀:Nat) (v:Value) (l:List L9.Ins) (hl:l.length≤1000000) (w:World) (hBn:Bn<w.heap.size) (hn₀:n₀≤w.heap.size) (hc:w.cell? ⟨Bn,0,none⟩=some v) (hv:IsL n₀ w v l) :
  SeqStopsK Fence.wide n Tryz.prog 147 #[.pointer (some ⟨Bn,0,none⟩)] Sl.vs (Kq n₀) (fun ys=>ys=sls 0 l) (fun pre=>pre <+: sls 0 l) (sls 0 l).length w:=fun lp J Jx W hW hJ _ hY hj =>
 slots_in n hn lp Bn n₀ v l hl J Jx W hJ hY ((hW.cell (p:=⟨Bn,0,none⟩) hBn).trans hc) (hv.below (hW.mono hn₀)) (Nat.le_trans hn₀ hW.size) hj
end Go.Proofs.YtdgnjhhieemcaaaGreatDoor.L12
end
