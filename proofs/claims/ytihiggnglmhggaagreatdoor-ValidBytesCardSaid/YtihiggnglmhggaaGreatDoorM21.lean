/- Lemmas and walks of L5Itr, L5All: what each theorem states; conditions stand in each theorem. -/
import Derived.Test.YtihiggnglmhggaaGreatDoorM14
import Derived.RangeFuncNested
import Derived.RangeFuncBound
import Derived.Shelf.RegionOpen
import Derived.OwnWalkIn
import Derived.LoopNIn
import Derived.LoopIn
set_option maxHeartbeats 4000000
set_option maxRecDepth 100000
section
namespace Go.Proofs.YtihiggnglmhggaaGreatDoor.L5
open Go.RowKit Go.Shelf L3 L1 L4
attribute [local go_sem] Oper.semAt_some
structure Rdg where
 at':Nat
 x:Ix
 e:Int
abbrev Rdg.cs (r:Rdg):Array Value:=#[.int .i64 r.x.op,.bool r.x.reg,.int .i64 r.x.dst,.int .i64 r.x.src,.int .i64 r.x.off,.int .i64 r.x.imm,.int .i64 r.e]
abbrev Rdg.vs (r:Rdg):Array Value:=#[.int .i64 (r.at':Int),.agg r.cs]
def rds:Nat→Nat→List UInt8→List Rdg
 | 0,_,_=>[]
 | n+1,a,l=>if l=[] then [] else if (decF l).2.2≠0 then [⟨a,(decF l).1,(decF l).2.2⟩] else ⟨a,(decF l).1,0⟩::rds n (a+(decF l).2.1.toNat) (l.drop (8*(decF l).2.1.toNat))
theorem grown_of_below {w w':World} (h:Below w.heap.size w w'):w.grownBy w' none:=⟨h.os,h.tape,h.output,h.size,fun k hk _=>h.block k hk⟩
theorem decF_ok (l:List UInt8) (h:(decF l).2.2=0):∃ s:Nat,(decF l).2.1=(s:Int)∧1≤s∧s≤2∧8*s≤l.length:=by
 unfold decF at h ⊢
 by_cases h8:l.length<8
 ·rw [if_pos h8] at h
  exact absurd h (by decide)
 rw [if_neg h8] at h ⊢
 by_cases hi:(idL l).2.2=false
 ·rw [if_pos hi] at h
  exact absurd h (by decide)
 rw [if_neg hi] at h ⊢
 by_cases h16:slo (fL l)=2∧l.length<16
 ·rw [if_pos h16] at h
  exact absurd h (by decide)
 rw [if_neg h16] at h ⊢
 by_cases hr:11≤((bt' l 1).toNat:Int) % 16∨11≤((bt' l 1).toNat:Int) / 16
 ·rw [if_pos hr] at h
  exact absurd h (by decide)
 rw [if_neg hr] at h ⊢
 split at h
 ·rename_i hh
  rw [if_pos hh]
  have hop:fL l≠-1:=((chk_ok _ _ _ _ _ _).1 hh.1).hop
  have hs:=(tab4 _ (frm_lt hop)).1
  rw [← frm_fm (frm_lt hop)] at hs
  change slo (fL l)=1∨slo (fL l)=2 at hs
  rcases hs with hs|hs
  ·exact⟨1,hs,by omega,by omega,by omega⟩
  ·refine⟨2,hs,by omega,by omega,?_⟩
   have:¬ l.length<16:=fun h=>h16 ⟨hs,h⟩
   omega
 ·exact absurd h (by decide)
theorem sl_from (k o n cap a:Nat) (h:a≤n) (hc:n≤cap) (w:World) :
  (Instr.slice 23 (.slice (some ⟨k,o,none⟩) n cap) (some (.int .i64 (a:Int))) none none).run Tryz.prog w=.ok (.slice (some ⟨k,if cap=a then o else o+a,none⟩) (n-a) (cap-a)) w:=by
 have h2:a≤cap:=by omega
 by_cases hq:cap=a <;> simp [go_sem,Tryz.underlying23,h,hq]
def BsL (n:Nat) (w:World) (v:Value) (l:List UInt8):Prop :=
 ∃ a cap,v=.slice a l.length cap∧l.length≤cap∧l.length≤maxLen∧(l=[]∨∃ k o,a=some ⟨k,o,none⟩∧k<n∧Bytes w k o l)
theorem BsL.at {n:Nat} {w:World} {v:Value} {l:List UInt8} (h:BsL n w v l):BsAt w v l:=by
 obtain⟨a,cap,rfl,h1,h2,h3⟩:=h
 refine⟨a,cap,rfl,h1,h2,?_⟩
 rcases h3 with h3|⟨k,o,rfl,_,h3⟩
 ·exact .inl h3
 ·exact .inr ⟨k,o,rfl,h3⟩
theorem BsL.below {n:Nat} {w w':World} {v:Value} {l:List UInt8} (h:BsL n w v l) (hb:Below n w w'):BsL n w' v l:=by
 obtain⟨a,cap,rfl,h1,h2,h3⟩:=h
 refine⟨a,cap,rfl,h1,h2,?_⟩
 rcases h3 with h3|⟨k,o,rfl,hk,h3⟩
 ·exact .inl h3
 ·exact .inr ⟨k,o,rfl,hk,fun j hj=>(hb.cell (p:=⟨k,o+j,none⟩) hk).trans (h3 j hj)⟩
theorem BsAt.low {w:World} {v:Value} {l:List UInt8} (h:BsAt w v l):BsL w.heap.size w v l:=by
 obtain⟨a,cap,rfl,h1,h2,h3⟩:=h
 refine⟨a,cap,rfl,h1,h2,?_⟩
 rcases h3 with h3|⟨k,o,rfl,h3⟩
 ·exact .inl h3
 ·by_cases h0:l=[]
  ·exact .inl h0
  ·have hp:0<l.length:=List.length_pos_iff.2 h0
   exact .inr ⟨k,o,rfl,World.block_lt_of_cell? w _ (h3 0 hp),h3⟩
theorem wid_low {n:Nat} {w w':World} (h:Wid w) (hb:Below n w w') (hn:0<n):Wid w':=by
 obtain⟨t,fr,hw⟩:=h
 exact⟨t,fr,(hb.block _ hn).trans hw⟩
theorem rds_nil (n a:Nat):rds n a []=[]:=by cases n <;> simp [rds]
theorem rds_bad (n a:Nat) (l:List UInt8) (h:l≠[]) (he:(decF l).2.2≠0):rds (n+1) a l=[⟨a,(decF l).1,(decF l).2.2⟩]:=by simp [rds,h,he]
theorem rds_go (n a s:Nat) (l:List UInt8) (h:l≠[]) (he:(decF l).2.2=0) (hs:(decF l).2.1=(s:Int)):rds (n+1) a l=⟨a,(decF l).1,0⟩::rds n (a+s) (l.drop (8*s)):=by simp [rds,h,he,hs]
theorem readings_in (n:Nat) (hn:2≤n) (lp Bn n₀:Nat) (v:Value) (l:List UInt8) (fu:Nat) (hfu:l.length≤fu) (J Jx:List Rdg→World→Prop) (W:World) (hJ:AbidesFrom W.heap.size J)
  (hY:∀ pre x W1,J pre W1→pre.length<(rds fu 0 l).length→YieldAt Fence.wide (n-1) Tryz.prog lp (Rdg.vs x) W1 fun e W' =>
   (e=.returned (.bool true)∧J (pre++[x]) W'∧Below n₀ W1 W')∨(e=.returned (.bool false)∧Jx (pre++[x]) W'))
  (hBn:W.cell? ⟨Bn,0,none⟩=some v) (hv:BsL n₀ W v l) (hn₀:n₀≤W.heap.size) (h0n:0<n₀) (hw:Wid W) (h0:J [] W) :
  CallsIn Fence.wide n Tryz.prog 170 #[.func (.yield lp) #[] #[],.pointer (some ⟨Bn,0,none⟩)] W fun e W'=>(∃ v,e=.returned v) ∧
   ((∃ ys,ys=rds fu 0 l∧J ys W')∨(∃ pre,pre <+: rds fu 0 l∧Jx pre W')):=by
 refine callsIn_of_wp Tryz.func170 rfl trivial ?_ rfl
 simp only [Tryz.ntmps170,List.size_toArray,List.length_cons,List.length_nil,Nat.reduceAdd,Nat.reduceSub,Array.replicate_succ,Array.replicate_zero,List.push_toArray,List.append_toArray,List.nil_append,List.cons_append]
 gi_wp2
 gi_region
 gi_wp2
 have hD:Below W.heap.size W W.drew:=(Below.refl _ _).drew
 have hJD:=hJ _ _ _ none h0 (grown_of_below hD) (fun r e=>by cases e)
 have h1n:1≤n:=by omega
 have hLm:l.length≤9223372036854775807:=by
  obtain⟨a,cap,-,h1,h2,-⟩:=hv
  unfold maxLen at h2
  omega
 gi_loopw [3,4] (fun a r wr=>∃ (pre:List Rdg) (k:Nat) (l':List UInt8) (fu':Nat),a=.int .i64 (k:Int)∧BsL n₀ wr r l'∧Wid wr∧n₀≤wr.heap.size∧Hid (rds fu 0 l=pre++rds fu' k l')∧l'.length≤fu'∧8*k+l'.length=l.length∧J pre wr) (fun a _ _=>l.length-8*(intOf a).toNat)
 case atStart=>exact⟨[],0,l,fu,rfl,hv.below (hD.mono hn₀),wid_below hw hD,hn₀,Lib.hid rfl,hfu,by omega,hJD⟩
 case round =>
  obtain⟨pre,k,l',fu',rfl,hr,hwr,hnr,hR,hf',hk8,hJr⟩:=hrel
  have hra:=hr
  obtain⟨ad,cap,rfl,hc1,hc2,hc3⟩:=hra
  by_cases hl0:l'=[]
  ·subst hl0
   gi_wp2
   go_end0
   exact⟨⟨_,rfl⟩,.inl (by rw [hR.out,rds_nil,List.append_nil];exact hJr)⟩
  ·have hp:0<l'.length:=List.length_pos_iff.2 hl0
   have hDC:=Lib.hid (callsIn_wide (n:=n-1).2 (decode_any _ l' wr hwr hr.at))
   obtain⟨⟨x,sl,er⟩,hd⟩:∃ d,decF l'=d:=⟨_,rfl⟩
   rw [hd] at hDC
   obtain⟨fu1,rfl⟩:∃ q,fu'=q+1:=⟨fu'-1,by omega⟩
   have hlt:pre.length<(rds fu 0 l).length:=by
    rw [hR.out,List.length_append]
    by_cases he:(decF l').2.2=0
    ·obtain⟨q,hq,-⟩:=decF_ok l' he
     rw [rds_go _ _ _ _ hl0 he hq]
     simp
    ·rw [rds_bad _ _ _ hl0 he]
     simp
   have hJn:=Lib.hid (fun (w1:World) (hb:Below wr.heap.size wr w1)=>hJ _ _ _ none hJr (grown_of_below (bch hb (bnew w1 (.cells x.cs 45)))) (fun r e=>by cases e))
   have hYn:=Lib.hid (fun (w1:World) (hb:Below wr.heap.size wr w1)=>hY pre ⟨k,x,er⟩ _ (hJn.out w1 hb) hlt)
   have hN:=Lib.hid (fun (w1:World) (hb:Below wr.heap.size wr w1)=>(bch hb (bnew w1 (.cells x.cs 45))).mono hnr)
   by_cases he:er=0
   ·subst he
    gi_wp2_with (refine⟨trivial,?_⟩;gi_at_call 171;((with_reducible refine (hDC.out).mono ?_);rintro e w1 ⟨rfl,hb1⟩;obtain⟨fn,tmps,assign,body,hy,hYR⟩:=hYn.out w1 hb1))
    obtain⟨s,hs,s1,s2,s8⟩:=decF_ok l' (by rw [hd])
    rw [hd] at hs
    obtain rfl:sl=(s:Int):=hs
    obtain⟨kk,oo,rfl,hkk,hby⟩:∃ kk oo,ad=some ⟨kk,oo,none⟩∧kk<n₀∧Bytes wr kk oo l':=by
     rcases hc3 with h|h
     ·exact absurd h hl0
     ·exact h
    have hpre:rds fu 0 l=(pre++[⟨k,x,0⟩])++rds fu1 (k+s) (l'.drop (8*s)):=by
     rw [hR.out,rds_go fu1 k s l' hl0 (by rw [hd]) (by rw [hd]),hd]
     simp
    refine hYR.mono ?_
    rintro e W3 (⟨rfl,hJ3,hk3⟩|⟨rfl,hJx3⟩)
    ·have hB3:=(hN.out w1 hb1).trans hk3
     have hsl:=sl_from kk oo l'.length cap (8*s) (by omega) hc1
     have e1:((8*s:Nat):Int)=(s:Int)*8:=by omega
     rw [e1] at hsl
     have hnew:BsL n₀ W3 (.slice (some ⟨kk,if cap=8*s then oo else oo+8*s,none⟩) (l'.length-8*s) (cap-8*s)) (l'.drop (8*s)):=by
      refine⟨_,_,by rw [List.length_drop],by rw [List.length_drop];omega,by rw [List.length_drop];omega,?_⟩
      by_cases hcap:cap=8*s
      ·exact .inl (List.drop_eq_nil_of_le (by omega))
      ·refine .inr ⟨kk,oo+8*s,by rw [if_neg hcap],hkk,fun j hj=>?_⟩
       rw [List.length_drop] at hj
       have:=hby (8*s+j) (by omega)
       rw [List.getElem_drop,Nat.add_assoc]
       exact (hB3.cell (p:=⟨kk,_,none⟩) hkk).trans this
     have hW3:=wid_low hwr hB3 h0n
     have hz3:n₀≤W3.heap.size:=by have:=hB3.size;omega
     have hP:=Lib.hid hpre
     have hq:l'.length-8*s≤fu1:=by omega
     generalize (if cap=8*s then oo else oo+8*s)=o2 at hsl hnew
     clear hpre hd hR hY hYn hJn hN hYR hby hc3 hr hDC
     gi_wp2
     go_roundw
     case rel=>exact⟨pre++[⟨k,x,0⟩],k+s,l'.drop (8*s),fu1,by go_num,hnew,hW3,hz3,hP,by rw [List.length_drop];exact hq,by rw [List.length_drop];omega,hJ3⟩
     case measure=>simp [intOf];omega
    ·have hP:=Lib.hid hpre
     clear hpre hd hR hY hYn hJn hN hYR hby hc3 hr hDC
     gi_wp2
     refine bodyPost_ret (results_none rfl _ _ _) rfl ?_
     exact⟨⟨_,rfl⟩,.inr ⟨pre++[⟨k,x,0⟩],⟨_,hP.out.symm⟩,hJx3⟩⟩
   ·have hen:(er != 0)=true:=by simpa using he
    have hpre:rds fu 0 l=pre++[⟨k,x,er⟩]:=by
     rw [hR.out,rds_bad fu1 k l' hl0 (by rw [hd];exact he),hd]
    have hP:=Lib.hid hpre
    clear hpre hd hR
    gi_wp2_with (refine⟨trivial,?_⟩;gi_at_call 171;((with_reducible refine (hDC.out).mono ?_);rintro e w1 ⟨rfl,hb1⟩;obtain⟨fn,tmps,assign,body,hy,hYR⟩:=hYn.out w1 hb1))
    refine hYR.mono ?_
    rintro e W3 (⟨rfl,hJ3,hk3⟩|⟨rfl,hJx3⟩)
    ·clear hY hYn hJn hN hYR hc3 hr hDC
     gi_wp2
     refine bodyPost_ret (results_none rfl _ _ _) rfl ?_
     exact⟨⟨_,rfl⟩,.inl ⟨_,hP.out.symm,hJ3⟩⟩
    ·clear hY hYn hJn hN hYR hc3 hr hDC
     gi_wp2
     refine bodyPost_ret (results_none rfl _ _ _) rfl ?_
     exact⟨⟨_,rfl⟩,.inr ⟨pre++[⟨k,x,er⟩],by rw [hP.out];exact List.prefix_refl _,hJx3⟩⟩
theorem Tryz.info45:(Tryz.prog.info? 45).map (fun i=>(i.zero,i.size,i.bytes))=some (some (.agg #[.int .i64 0,.bool false,.int .i64 0,.int .i64 0,.int .i64 0,.int .i64 0]),6,48):=by kernel_rfl
def la (l:List Rdg):Rdg:=l.getLastD ⟨0,.z,0⟩
theorem la_snoc (l:List Rdg) (x:Rdg):la (l++[x])=x:=by simp [la]
def insC (l:List Rdg):List Value:=l.flatMap fun r=>r.x.cs.toList
theorem insC_snoc (l:List Rdg) (x:Rdg):insC (l++[x])=insC l++x.x.cs.toList:=by simp [insC]
theorem readings_at (v:Value) (a:Option Addr) (n cap:Nat) (hv:v=.slice a n cap) (w:World):Calls Tryz.prog 141 #[v] w fun e w'=>e=.returned (.func (.func 170) #[] #[.pointer (some ⟨w.heap.size,0,none⟩)])∧w'=w.alloc (.cells #[v] 23):=by
 subst hv
 have hmf:(Instr.makeFunc (.func 170) #[] #[.pointer (some ⟨w.heap.size,0,none⟩)]).run Tryz.prog (w.alloc (.cells #[.slice a n cap] 23))=.ok (.func (.func 170) #[] #[.pointer (some ⟨w.heap.size,0,none⟩)]) (w.alloc (.cells #[.slice a n cap] 23)):=by rfl
 go_enter Tryz.func141,Tryz.ntmps141
 go_wp2
 go_ret
 exact⟨rfl,rfl⟩
theorem stops_at (n:Nat) (hn:2≤n) (Bn n₀:Nat) (v:Value) (l:List UInt8) (fu:Nat) (hfu:l.length≤fu) (w:World) (hBn:Bn<w.heap.size) (hn₀:n₀≤w.heap.size) (h0:0<n₀) (hc:w.cell? ⟨Bn,0,none⟩=some v) (hv:BsL n₀ w v l) (hw:Wid w) :
  SeqStopsK Fence.wide n Tryz.prog 170 #[.pointer (some ⟨Bn,0,none⟩)] Rdg.vs (Below n₀) (fun ys=>ys=rds fu 0 l) (fun pre=>pre <+: rds fu 0 l) (rds fu 0 l).length w:=fun lp J Jx W hW hJ _ hY hj =>
 readings_in n hn lp Bn n₀ v l fu hfu J Jx W hJ hY ((hW.cell (p:=⟨Bn,0,none⟩) hBn).trans hc) (hv.below (hW.mono hn₀)) (Nat.le_trans hn₀ hW.size) h0 (wid_below hw hW) hj
theorem cells_own {β:Type} (B:Nat) (t:TypeId) (f:β→Array Value):Own (fun s W=>W.heap[B]?=some (.cells (f s) t)):=fun s X Y row hs hg hrow=>by
 have hs':X.heap[B]?=some (.cells (f s) t):=hs
 exact (hg.block B (lt_of_block hs') (fun e'=>by obtain⟨o,ho,hc⟩:=hrow B e'.symm;rw [hs'] at ho;cases ho;cases hc)).trans hs'
theorem cells7 {w:World} {k:Nat} {a b c d e f g:Value} {t:TypeId} (h:w.heap[k]?=some (.cells #[a,b,c,d,e,f,g] t)) :
  w.cell? ⟨k,0,none⟩=some a∧w.cell? ⟨k,1,none⟩=some b∧w.cell? ⟨k,2,none⟩=some c∧w.cell? ⟨k,3,none⟩=some d∧w.cell? ⟨k,4,none⟩=some e∧w.cell? ⟨k,5,none⟩=some f∧w.cell? ⟨k,6,none⟩=some g:=by
 simp [World.cell?,h]
theorem rds_length:∀ (n a:Nat) (l:List UInt8),(rds n a l).length≤l.length
 | 0,_,_=>by simp [rds]
 | n+1,a,l=>by
  by_cases hl:l=[]
  ·subst hl
   simp [rds]
  have hp:0<l.length:=List.length_pos_iff.2 hl
  by_cases he:(decF l).2.2=0
  ·obtain⟨s,hs,h1,h2,h3⟩:=decF_ok l he
   rw [rds_go n a s l hl he hs]
   have:=rds_length n (a+s) (l.drop (8*s))
   rw [List.length_drop] at this
   simp only [List.length_cons]
   omega
  ·rw [rds_bad n a l hl he]
   simp only [List.length_cons,List.length_nil]
   omega
theorem owns_slice {w:World} {base e:TypeId} {size:Nat} {v:Value} {n:Nat} {xs:List Value} (h:w.ownsRow base e size v n xs):∃ a c,v=.slice a n c:=by
 rcases h.2 with ⟨rfl,rfl⟩|⟨g,cap,cur,rfl,_⟩
 ·exact⟨_,_,rfl⟩
 ·exact⟨_,_,rfl⟩
theorem box_putObj {W:World} {B:Nat} {t:TypeId} {v:Value} (h:Boxed W B t v) {l:Nat} {o:Obj} (o':Obj) (hl:W.heap[l]?=some o) (ho:o.isCells=false):Boxed (W.putObj l o') B t v :=
 h.kept (grownBy_putObj' W l o') (fun e=>by
  cases e
  have h':W.heap[B]?=some (.cells #[v] t (0,0)):=h
  rw [h'] at hl;cases hl;cases ho)
def AllI (w:World) (g:Nat) (pre:List Rdg) (W:World):Prop :=
 ((Boxed W g 38 (.slice none 0 0)∧Boxed W (g+1) 3 (.int .i64 0)∧Boxed W (g+1+1) 29 (.int .i64 0))∧(∀ r∈pre,r.e=0)) ∧
  (∃ v,Boxed W (g+1+1+1) 38 v∧W.ownsRow w.heap.size 45 6 v pre.length (insC pre)∧True)∧Below w.heap.size w W
def AllX (w:World) (g:Nat) (c:Code) (pre:List Rdg) (W:World):Prop :=
 ((c=.ret∧(la pre).e≠0)∧Boxed W g 38 (.slice none 0 0)∧Boxed W (g+1) 3 (.int .i64 ((la pre).at':Int))∧Boxed W (g+1+1) 29 (.int .i64 (la pre).e))∧Below w.heap.size w W
theorem allI_own (w:World) (B:Nat) (hB:w.heap.size≤B):OwnFrom B (AllI w w.heap.size) :=
 OwnFrom.and (OwnFrom.and (OwnFrom.and (Own.from (boxed_own _ _ _) _) (OwnFrom.and (Own.from (boxed_own _ _ _) _) (Own.from (boxed_own _ _ _) _))) (ownFrom_pure _ _))
  (OwnFrom.and (Own.from (holdsRow_own _ _ _ _ _ (fun pre:List Rdg=>pre.length) (fun pre=>insC pre) (fun _ _=>True)) _) (ownFrom_below (Nat.le_refl _) hB))
theorem allX_own (w:World) (B:Nat) (hB:w.heap.size≤B) (c:Code):OwnFrom B (AllX w w.heap.size c) :=
 OwnFrom.and (OwnFrom.and (ownFrom_pure _ _) (OwnFrom.and (Own.from (boxed_own _ _ _) _) (OwnFrom.and (Own.from (boxed_own _ _ (fun pre=>.int .i64 ((la pre).at':Int))) _) (Own.from (boxed_own _ _ (fun pre=>.int .i64 (la pre).e)) _))))
  (ownFrom_below (Nat.le_refl _) hB)
def AllP (w:World) (r:List Rdg) (e:Ending) (w':World):Prop :=
 (((la r).e≠0∧e=.returned (.tuple #[.slice none 0 0,.int .i64 ((la r).at':Int),.int .i64 (la r).e])) ∨
  ((∀ x∈r,x.e=0)∧∃ v,e=.returned (.tuple #[v,.int .i64 0,.int .i64 0])∧w'.ownsRow w.heap.size 45 6 v r.length (insC r)))∧Below w.heap.size w w'
theorem rds_last:∀ (n a:Nat) (l:List UInt8) (p:List Rdg),p <+: rds n a l→(la p).e≠0→p=rds n a l
 | 0,a,l,p,h,he=>by
  simp only [rds,List.prefix_nil] at h
  subst h
  exact absurd rfl he
 | n+1,a,l,p,h,he=>by
  by_cases hl:l=[]
  ·subst hl
   simp only [rds,if_true,List.prefix_nil] at h
   subst h
   exact absurd rfl he
  cases p with
  | nil=>exact absurd rfl he
  | cons x q =>
   by_cases hd:(decF l).2.2=0
   ·obtain⟨s,hs,-⟩:=decF_ok l hd
    rw [rds_go n a s l hl hd hs] at h ⊢
    obtain⟨h1,h2⟩:=List.cons_prefix_cons.1 h
    subst h1
    congr 1
    refine rds_last n _ _ q h2 ?_
    cases q with
    | nil=>exact absurd rfl he
    | cons y r=>simpa [la] using he
   ·rw [rds_bad n a l hl hd] at h ⊢
    obtain⟨h1,h2⟩:=List.cons_prefix_cons.1 h
    subst h1
    rw [List.prefix_nil.1 h2]
theorem all_at (ad:Option Addr) (cap:Nat) (l:List UInt8) (fu:Nat) (hfu:l.length≤fu) (hl:l.length≤100000) (w:World) (hw:Wid w) (hv:BsAt w (.slice ad l.length cap) l) :
  Calls Tryz.prog 92 #[.slice ad l.length cap] w fun e w'=>AllP w (rds fu 0 l) e w':=by
 have hL:=hv.low
 have hw0:0<w.heap.size:=by
  obtain⟨t,fr,hg⟩:=hw
  have:=lt_of_block hg
  omega
 obtain⟨i0,hi,hz0,hz1,hz2⟩:=info_parts Tryz.info45
 refine (callsIn_wide (n:=6)).1 ?_
 refine callsIn_of_wp_marks Tryz.func92 rfl trivial ?_ rfl
 simp only [Tryz.ntmps92,List.size_toArray,List.length_cons,List.length_nil,Nat.reduceAdd,Nat.reduceSub,Array.replicate_succ,Array.replicate_zero,List.push_toArray,List.append_toArray,List.nil_append,List.cons_append]
 gi_wp2_with (refine⟨trivial,?_⟩;gi_at_call 141;refine (callsIn_wide.2 (readings_at _ ad l.length cap rfl _)).mono ?_;rintro e w1 ⟨rfl,rfl⟩)
 have b0:=((((Boxed.new w 38 (.slice none 0 0)).alloc (.cells #[.int .i64 0] 3)).alloc (.cells #[.int .i64 0] 29)).alloc (.cells #[.slice none 0 0] 38)).alloc (.cells #[.slice ad l.length cap] 23)
 have b1:=(((Boxed.new (w.alloc (.cells #[.slice none 0 0] 38)) 3 (.int .i64 0)).alloc (.cells #[.int .i64 0] 29)).alloc (.cells #[.slice none 0 0] 38)).alloc (.cells #[.slice ad l.length cap] 23)
 have b2:=((Boxed.new ((w.alloc (.cells #[.slice none 0 0] 38)).alloc (.cells #[.int .i64 0] 3)) 29 (.int .i64 0)).alloc (.cells #[.slice none 0 0] 38)).alloc (.cells #[.slice ad l.length cap] 23)
 have b3:=(Boxed.new (((w.alloc (.cells #[.slice none 0 0] 38)).alloc (.cells #[.int .i64 0] 3)).alloc (.cells #[.int .i64 0] 29)) 38 (.slice none 0 0)).alloc (.cells #[.slice ad l.length cap] 23)
 have b4:=Boxed.new ((((w.alloc (.cells #[.slice none 0 0] 38)).alloc (.cells #[.int .i64 0] 3)).alloc (.cells #[.int .i64 0] 29)).alloc (.cells #[.slice none 0 0] 38)) 23 (.slice ad l.length cap)
 simp only [World.size_alloc] at b1 b2 b3 b4
 have hB0:Below w.heap.size w (((((w.alloc (.cells #[.slice none 0 0] 38)).alloc (.cells #[.int .i64 0] 3)).alloc (.cells #[.int .i64 0] 29)).alloc (.cells #[.slice none 0 0] 38)).alloc (.cells #[.slice ad l.length cap] 23)) :=
  (((((Below.refl _ w).alloc (Nat.le_refl _) _).alloc (by simp) _).alloc (by simp;omega) _).alloc (by simp;omega) _).alloc (by simp;omega) _
 have hsz:(((((w.alloc (.cells #[.slice none 0 0] 38)).alloc (.cells #[.int .i64 0] 3)).alloc (.cells #[.int .i64 0] 29)).alloc (.cells #[.slice none 0 0] 38)).alloc (.cells #[.slice ad l.length cap] 23)).heap.size=w.heap.size+1+1+1+1+1:=by simp
 obtain⟨W0,hW0⟩:∃ W0,((((w.alloc (.cells #[.slice none 0 0] 38)).alloc (.cells #[.int .i64 0] 3)).alloc (.cells #[.int .i64 0] 29)).alloc (.cells #[.slice none 0 0] 38)).alloc (.cells #[.slice ad l.length cap] 23)=W0:=⟨_,rfl⟩
 rw [hW0] at b0 b1 b2 b3 b4 hB0 hsz
 have HSZ:=Lib.hid hsz
 have hsz1:w.heap.size+1+1+1+1<W0.heap.size:=by omega
 simp only [hW0]
 clear hsz
 clear hW0
 refine wpIn_rangeFunc_ownH rfl (by omega) (gf:=170) (lb:=#[.pointer (some ⟨w.heap.size+1+1+1+1,0,none⟩)]) rfl trivial (enters_of Tryz.func170 (by kernel_rfl) rfl)
  (stops_at _ (by omega) (w.heap.size+1+1+1+1) w.heap.size (.slice ad l.length cap) l fu hfu W0 (by omega) (by omega) hw0 b4.cell (hL.below hB0) (wid_below hw hB0)) belowK_t (belowK_b (by omega)) (Below.refl _ _) (fun _=>rfl)
  (AllI w w.heap.size) (AllX w w.heap.size) (allI_own w _ (by omega)) (allX_own w _ (by omega))
  ⟨⟨⟨b0,b1,b2⟩,fun r hr=>by cases hr⟩,⟨_,b3,World.ownsRow_nil _ _ _ _,trivial⟩,hB0⟩
  (fun x a' W=>∃ Bx,w.heap.size+1+1+1<Bx∧W.heap[Bx]?=some (.cells x.cs 187)∧a'={ tmps:=#[.slice ad l.length cap,undef,.pointer (some ⟨w.heap.size,0,none⟩),.pointer (some ⟨w.heap.size+1,0,none⟩),.pointer (some ⟨w.heap.size+1+1,0,none⟩),.pointer (some ⟨w.heap.size+1+1+1,0,none⟩),.int .i64 (x.at':Int),.pointer (some ⟨Bx,0,none⟩),.slice ad l.length cap,.func (.func 170) #[] #[.pointer (some ⟨w.heap.size+1+1+1+1,0,none⟩)],.int .i64 (x.at':Int),.agg x.cs,undef,undef,undef,undef,undef,undef,undef,undef,undef,undef,undef,undef],defers:=[] })
  (fun x a' _ X Y row hs hg hr=>by obtain⟨Bx,h1,h2,h3⟩:=hs;exact⟨Bx,h1,cells_own Bx 187 (fun (_:Unit)=>x.cs) () X Y row h2 hg (fun r e=>(hr r e).2),h3⟩)
  ?assign ?body ?done ?stop
 case assign =>
  rintro lp pre x W K ⟨⟨⟨c0,c1,c2⟩,hz⟩,⟨vv,c3,hrow,-⟩,hB1⟩ hK
  gi_wp2
  exact hK _ _ ((KeepsOthers.alloc _ _).from _) ((Below.refl _ W).alloc hB1.size _) ⟨⟨⟨c0.alloc _,c1.alloc _,c2.alloc _⟩,hz⟩,⟨vv,c3.alloc _,hrow.alloc _,trivial⟩,hB1.alloc hB1.size _⟩ ⟨W.heap.size,c3.lt,heap_alloc_last _ _,rfl⟩
 case body =>
  rintro lp pre x a' W hlp - ⟨⟨⟨c0,c1,c2⟩,hz⟩,⟨vv,c3,hrow,-⟩,hB1⟩ ⟨Bx,hBx,bX,rfl⟩ hlt
  obtain⟨x0,x1,x2,x3,x4,x5,x6⟩:=cells7 bX
  have d0:=c0.cell
  have d1:=c1.cell
  have d2:=c2.cell
  have d3:=c3.cell
  have f0:=c0.frozen
  have f1:=c1.frozen
  have f2:=c2.frozen
  by_cases he:x.e=0
  ·have heb:(x.e != 0)=false:=by simpa using he
   have hpl:pre.length<100000:=by have:=rds_length fu 0 l;omega
   have hle:w.heap.size≤w.heap.size+1+1+1:=by omega
   gi_wp2_with (gi_at_builtin;refine wpListIn_append_own _ rfl _ _ 38 rfl w.heap.size 45 i0 (.agg #[.int .i64 0,.bool false,.int .i64 0,.int .i64 0,.int .i64 0,.int .i64 0]) 6 48 Tryz.underlying38 hi hz0 hz1 hz2 rfl (by decide) _ _ _ rfl (hrow.alloc _) ⟨W.heap.size,0,none⟩ 1 1 x.x.cs.toList rfl rfl (World.news_of_block (cs:=x.x.cs) (t:=45) (fr:=(0,0)) (heap_alloc_last W _)) (by simp [Value.oneCell']) (by unfold maxLen;omega) (by omega) (by have:=hB1.size;simp;omega) ?_;intro v' w1 hown' hgrow _;obtain⟨g',cap',rfl⟩:=ownsRow_succ hown';obtain⟨hv1,hv2,hr2,hk2,hb2⟩:=c3.appended (by decide) hrow hB1.size hle hown' hgrow;have hc1:=hv1.cell;have hf1:=hv1.frozen)
   refine⟨hk2.from _,hb2,⟨⟨⟨((c0.alloc _).kept hgrow (c0.not_row (by decide) hrow)).other (by omega) _,((c1.alloc _).kept hgrow (c1.not_row (by decide) hrow)).other (by omega) _,((c2.alloc _).kept hgrow (c2.not_row (by decide) hrow)).other (by omega) _⟩,?_⟩,⟨_,hv2,?_,trivial⟩,hB1.trans hb2⟩⟩
   ·intro r hr
    rcases List.mem_append.1 hr with h|h
    ·exact hz r h
    ·rw [List.mem_singleton.1 h];exact he
   ·rw [insC_snoc,List.length_append]
    exact hr2
  ·have heb:(x.e != 0)=true:=by simpa using he
   have hmx:Tryz.prog.follows .mixedOrders=true:=by kernel_rfl
   have hlx:Tryz.prog.follows .lateStores=true:=by kernel_rfl
   gi_wp2
   gi_region_with_o (fail)
   all_goals gi_wp2
   all_goals exact⟨((((KeepsOthers.setCell _ _ _).trans (KeepsOthers.setCell _ _ _)).trans (KeepsOthers.setCell _ _ _)).trans (KeepsOthers.drew _)).from _,
    ⟨⟨⟨rfl,by rw [la_snoc];exact he⟩,((c0.set _).other (by omega) _).other (by omega) _,by rw [la_snoc];exact ((c1.other (by omega) _).set _).other (by omega) _,by rw [la_snoc];exact ((c2.other (by omega) _).other (by omega) _).set _⟩,
     (((hB1.setCell (p:=⟨_,0,none⟩) (Nat.le_refl _) _).setCell (p:=⟨_,0,none⟩) (Nat.le_succ _) _).setCell (p:=⟨_,0,none⟩) (by show w.heap.size≤w.heap.size+1+1;omega) _).drew⟩⟩
 case done =>
  rintro D ys W hD rfl ⟨⟨⟨c0,c1,c2⟩,hz⟩,⟨vv,c3,hrow,-⟩,hB1⟩ hK
  obtain⟨va,vc,rfl⟩:=owns_slice hrow
  have d0:=c0.cell
  have d1:=c1.cell
  have d2:=c2.cell
  have d3:=c3.cell
  have f0:=c0.frozen
  have f1:=c1.frozen
  have f2:=c2.frozen
  gi_wp2
  have e0:=((c0.set (.slice va (rds fu 0 l).length vc)).other (B':=w.heap.size+1) (by omega) (.int .i64 0)).other (B':=w.heap.size+1+1) (by omega) (.int .i64 0)
  have e1:=((c1.other (B':=w.heap.size) (by omega) (.slice va (rds fu 0 l).length vc)).set (.int .i64 0)).other (B':=w.heap.size+1+1) (by omega) (.int .i64 0)
  have e2:=((c2.other (B':=w.heap.size) (by omega) (.slice va (rds fu 0 l).length vc)).other (B':=w.heap.size+1) (by omega) (.int .i64 0)).set (.int .i64 0)
  have hK2:=(((KeepsOthers.setCell W ⟨w.heap.size,0,none⟩ (.slice va (rds fu 0 l).length vc)).trans (KeepsOthers.setCell _ ⟨w.heap.size+1,0,none⟩ (.int .i64 0))).trans (KeepsOthers.setCell _ ⟨w.heap.size+1+1,0,none⟩ (.int .i64 0))).same D _ hK rfl
  have r1:=hrow.kept (grownBy_setCell' W w.heap.size (.slice va (rds fu 0 l).length vc)) (.inr (c0.not_row (by decide) hrow).symm)
  have c1':=c1.other (B':=w.heap.size) (by omega) (.slice va (rds fu 0 l).length vc)
  have r2:=r1.kept (grownBy_setCell' _ (w.heap.size+1) (.int .i64 0)) (.inr (c1'.not_row (by decide) r1).symm)
  have c2':=(c2.other (B':=w.heap.size) (by omega) (.slice va (rds fu 0 l).length vc)).other (B':=w.heap.size+1) (by omega) (.int .i64 0)
  have r3:=r2.kept (grownBy_setCell' _ (w.heap.size+1+1) (.int .i64 0)) (.inr (c2'.not_row (by decide) r2).symm)
  have hBE:=((hB1.setCell (p:=⟨w.heap.size,0,none⟩) (Nat.le_refl _) (.slice va (rds fu 0 l).length vc)).setCell (p:=⟨w.heap.size+1,0,none⟩) (Nat.le_succ _) (.int .i64 0)).setCell (p:=⟨w.heap.size+1+1,0,none⟩) (by show w.heap.size≤w.heap.size+1+1;omega) (.int .i64 0)
  generalize ((W.setCell ⟨w.heap.size,0,none⟩ _).setCell ⟨w.heap.size+1,0,none⟩ _).setCell ⟨w.heap.size+1+1,0,none⟩ _=E at e0 e1 e2 hK2 r3 hBE ⊢
  refine⟨by simp,.inl ⟨_,_,rfl,run_takeDeferred hK2,?_⟩⟩
  have k0:=(box_putObj e0 (.deferred none) hK2 rfl).cell
  have k1:=(box_putObj e1 (.deferred none) hK2 rfl).cell
  have k2:=(box_putObj e2 (.deferred none) hK2 rfl).cell
  exact⟨.tuple #[.slice va (rds fu 0 l).length vc,.int .i64 0,.int .i64 0],by simp [results,Tryz.results92,go_sem,k0,k1,k2],.inr ⟨hz,_,rfl,ownsRow_putObj r3 _ hK2 rfl⟩,hBE.trans (belowK_b (w:=w) (Nat.le_refl _) E D _ _ (by omega) hK2 rfl rfl)⟩
 case stop =>
  rintro D c pre W hD hp ⟨⟨⟨rfl,he⟩,c0,c1,c2⟩,hB1⟩ hK
  gi_wp2
  obtain rfl:=rds_last fu 0 l pre hp he
  refine⟨by simp,.inl ⟨_,_,rfl,run_takeDeferred hK,?_⟩⟩
  have k0:=(box_putObj c0 (.deferred none) hK rfl).cell
  have k1:=(box_putObj c1 (.deferred none) hK rfl).cell
  have k2:=(box_putObj c2 (.deferred none) hK rfl).cell
  exact⟨.tuple #[.slice none 0 0,.int .i64 ((la (rds fu 0 l)).at':Int),.int .i64 (la (rds fu 0 l)).e],by simp [results,Tryz.results92,go_sem,k0,k1,k2],.inl ⟨he,rfl⟩,hB1.trans (belowK_b (w:=w) (Nat.le_refl _) W D _ _ (by omega) hK rfl rfl)⟩
end Go.Proofs.YtihiggnglmhggaaGreatDoor.L5
end
