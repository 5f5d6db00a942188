/- Lemmas and walks of L10Opw, L10Few: what each theorem states; conditions stand in each theorem. -/
import Derived.Test.YtohkgdfkklfgmaaGreatDoorM13
section
set_option maxRecDepth 100000
namespace Go.Proofs.YtohkgdfkklfgmaaGreatDoor.L10
open Go.ChangeShapes Go.WideShapes Go.ChangeAt Go.RowKit Go.Deep
def Wt {H:Type} (t:TypeId) (d:DataW H):Prop:=∀ n∈d.weights Tryz.prog t,n≤reachBytes
def TxRoom (l:List ByteArray):Prop:=l.length≤8796093022208∧∀ t∈l,t.size≤140737488351232
theorem mem_wAll {H:Type} {P:Program} {e:TypeId} {n:Nat}:∀ (ds:List (DataW H)) (d:DataW H),d∈ds→n∈d.weights P e→n∈DataW.weightsAll P e ds
 | a::r,d,h,hn=>by
  rw [DataW.weightsAll,List.mem_append]
  rcases List.mem_cons.1 h with rfl|h
  ·exact .inl hn
  ·exact .inr (mem_wAll r d h hn)
theorem bT:Tryz.prog.bytesOf 9=16:=by kernel_rfl
section
variable {H:Type} {enc:TypeId × Value→H} {W:World} {base:Nat} {sp:Nat→Bool} {held:Bool}
theorem open_textsw {fuel:Nat} {cs:List Value} {x:DataW H × List MemPlace} (h:DataW.trod enc Tryz.prog W base sp held fuel 65 cs=some x) :
  ∃ v l,cs=[v]∧L8.StAt W v l∧(∀ t∈l,t.size≤maxLen)∧(Wt 65 x.1→TxRoom l):=by
 rcases open_strings Tryz.underlying65 Tryz.underlying9 cT h with ⟨hcs,-⟩|⟨a,len,cap,ss,hcs,-,hl,-,hz,hx,hcell,hws⟩
 ·exact⟨_,[],hcs,.inr ⟨rfl,none,0,rfl⟩,by simp,fun _=>⟨by simp,by simp⟩⟩
 ·have hsl:len≤ss.length:=by rw [hz];split <;> omega
  have hll:(ss.take len).length=len:=by rw [List.length_take];omega
  refine⟨_,ss.take len,hcs,?_,fun s hs=>hws s (List.mem_of_mem_take hs),fun hw=>?_⟩
  ·by_cases hl0:len=0
   ·exact .inr ⟨List.eq_nil_of_length_eq_zero (by omega),some a,cap,by rw [hl0]⟩
   ·obtain⟨b,off,spot⟩:=a
    have hspot:spot=none:=by simpa [Addr.add] using World.cell?_spot (hcell 0 (by omega))
    subst hspot
    have hb:=World.block_lt_of_cell? W _ (hcell 0 (by omega))
    refine .inl ⟨b,off,cap,by rw [hll],hb,fun j hj=>?_⟩
    rw [hll] at hj
    have e:(ss.take len).getD j ByteArray.empty=ss.getD j ByteArray.empty:=by simp [List.getD,hj]
    rw [e,← add_plain]
    exact hcell j (by omega)
  ·subst hx
   unfold Wt at hw
   simp only [DataW.weights,Tryz.underlying65,bT] at hw
   have hlen:∀ l:List ByteArray,(strs (H:=H) l).length=l.length:=fun l=>by simp [strs]
   refine⟨?_,fun t ht=>?_⟩
   ·have:=hw _ (List.mem_cons_self ..)
    rw [hlen,hlen,hll] at this
    rw [hll]
    unfold reachBytes at this
    omega
   ·have hm:(DataW.lit (.string t.data.toList):DataW H)∈strs (ss.take len):=by
     unfold strs
     exact List.mem_map.2 ⟨t,ht,rfl⟩
    have:=hw t.data.toList.length (List.mem_cons_of_mem _ (List.mem_append_left _ (mem_wAll _ _ hm (by simp [DataW.weights]))))
    rw [L8.size_list] at this
    exact this
theorem open_stmw {fuel:Nat} {cs:List Value} {x:DataW H × List MemPlace} (h:DataW.trod enc Tryz.prog W base sp held fuel 94 cs=some x) :
  ∃ (lv:Value) (s:Stm),cs=smL lv s∧L8.StAt W lv s.labs∧SmFit s∧(Wt 94 x.1→TxRoom s.labs):=by
 obtain⟨xs,n,_,hx,hcl,hlen,hg⟩:=DataW.trod_struct Tryz.underlying94 h
 rw [cS] at hcl
 match cs,hcl,xs,hlen with
 | [c0,c1,c2,c3,c4,c5,c6,c7,c8],_,[y0,y1,y2,y3],_ =>
  have g0:DataW.trod enc Tryz.prog W base sp held n 65 [c0]=some y0:=by simpa [cTs] using hg 0 _ rfl
  have g1:DataW.trod enc Tryz.prog W base sp held n 92 [c1,c2,c3,c4,c5,c6]=some y1:=by simpa [cI] using hg 1 _ rfl
  have g2:DataW.trod enc Tryz.prog W base sp held n 9 [c7]=some y2:=by simpa [cT] using hg 2 _ rfl
  have g3:DataW.trod enc Tryz.prog W base sp held n 9 [c8]=some y3:=by simpa [cT] using hg 3 _ rfl
  obtain⟨lv,l,e0,hl,hz,hr⟩:=open_textsw g0
  obtain⟨d,e1,k0,k1,k2,k3,k4⟩:=open_insC g1
  obtain⟨s2,e2,-,z2⟩:=DataW.trod_string Tryz.underlying9 g2
  obtain⟨s3,e3,-,z3⟩:=DataW.trod_string Tryz.underlying9 g3
  simp only [List.cons.injEq,and_true] at e0 e1 e2 e3
  obtain⟨rfl,rfl,rfl,rfl,rfl,rfl⟩:=e1
  subst e0 e2 e3
  refine⟨c0,⟨l,d,s2,s3⟩,rfl,hl,⟨hz,z2,z3,k0,k1,k2,k3,k4⟩,fun hw=>hr fun n hn=>hw n ?_⟩
  rw [hx]
  simp only [DataW.weights,Tryz.underlying94,List.map_cons,DataW.weightsEach]
  exact List.mem_append_left _ hn
theorem open_stmsw {fuel:Nat} {cs:List Value} {x:DataW H × List MemPlace} (h:DataW.trod enc Tryz.prog W base sp held fuel 48 cs=some x) :
  ∃ v l,cs=[v]∧SmAt W v l∧(∀ d∈l,SmFit d)∧(Wt 48 x.1→∀ d∈l,TxRoom d.labs):=by
 rcases open_slice Tryz.underlying48 h with ⟨hcs,-⟩|⟨a,len,cap,m,n,D,Pl,hcs,-,hl,-,hmm,hx,hi⟩
 ·exact⟨_,[],hcs,.inr ⟨rfl,none,0,rfl⟩,by simp,by simp⟩
 ·rw [cS] at hi
  have each:∀ i,i<len→∃ s:Stm,(SmFit s∧(Wt 94 (D i)→TxRoom s.labs))∧∃ lv,L8.StAt W lv s.labs∧∀ k u,(smL lv s)[k]?=some u→W.cell? (a.add (i*9+k))=some u:=by
   intro i hil
   obtain⟨cs',hc,ht⟩:=hi i (by split at hmm <;> omega)
   obtain⟨lv,d,hd,hst,hfit,hrm⟩:=open_stmw ht
   obtain⟨_,hcl,hat⟩:=World.cells?_some hc
   refine⟨d,⟨hfit,hrm⟩,lv,hst,fun k u hu=>?_⟩
   have hk:k<9:=by
    have:=(List.getElem?_eq_some_iff.1 hu).1
    simpa using this
   rw [← Go.Deep.add_add,hat k hk,hd];exact hu
  obtain⟨l,hll,hp⟩:=list_of len each
  subst hll
  refine⟨_,l,hcs,?_,fun d hd=>?_,fun hw d hd=>?_⟩
  ·by_cases h0:l=[]
   ·exact .inr ⟨h0,some a,cap,by rw [h0];rfl⟩
   ·have hpos:0<l.length:=List.length_pos_iff.2 h0
    obtain⟨lv0,_,hq0⟩:=(hp 0 hpos).2
    have hc0:=hq0 0 _ rfl
    obtain⟨b,off,spot⟩:=a
    have hspot:spot=none:=by simpa [Addr.add] using World.cell?_spot hc0
    subst hspot
    have hb:=World.block_lt_of_cell? W _ hc0
    refine .inl ⟨b,off,cap,rfl,hb,fun j hj=>?_⟩
    obtain⟨lv,hst,hq⟩:=(hp j hj).2
    refine⟨lv,hst,fun i u hu=>?_⟩
    rw [Nat.add_assoc,← add_plain]
    exact hq i u hu
  ·obtain⟨i,hi,rfl⟩:=List.mem_iff_getElem.1 hd
   exact (hp i hi).1.1
  ·obtain⟨i,hi,rfl⟩:=List.mem_iff_getElem.1 hd
   refine (hp i hi).1.2 fun n hn=>hw n ?_
   rw [hx]
   simp only [DataW.weights,Tryz.underlying48]
   exact List.mem_cons_of_mem _ (List.mem_append_left _ (mem_wAll _ _ (List.mem_map.2 ⟨i,List.mem_range.2 hi,rfl⟩) hn))
theorem open_pgw {r:Reach} {b0:Nat} {v:Value} {d:DataW H} {ps:List MemPlace} (hval:Value.okWide Tryz.prog W r b0 50 v) (hd:DataW.Trod enc Tryz.prog W base sp held 50 v d ps) :
  ∃ (vm vs:Value) (p:Pg),v=.agg #[vm,vs]∧PgAt W vm vs p∧PgFit p∧(Wt 50 d→∀ s∈p.stmts,TxRoom s.labs):=by
 obtain⟨cs,rfl,hsz⟩:=okWide_struct Tryz.underlying50 hval
 rw [cP] at hsz
 obtain⟨l⟩:=cs
 obtain⟨fuel,hf⟩:=hd
 obtain⟨xs,n,_,hx,_,hlen,hg⟩:=DataW.trod_struct Tryz.underlying50 hf
 match l,hsz,xs,hlen with
 | [c0,c1],_,[y0,y1],_ =>
  have g0:DataW.trod enc Tryz.prog W base sp held n 22 [c0]=some y0:=by simpa [Value.cells,cDs] using hg 0 _ rfl
  have g1:DataW.trod enc Tryz.prog W base sp held n 48 [c1]=some y1:=by simpa [Value.cells,cSs] using hg 1 _ rfl
  obtain⟨v0,l0,e0,h0,f0⟩:=open_defs g0
  obtain⟨v1,l1,e1,h1,f1,r1⟩:=open_stmsw g1
  simp only [List.cons.injEq,and_true] at e0 e1
  subst e0 e1
  refine⟨c0,c1,⟨l0,l1⟩,rfl,⟨h0,h1⟩,⟨f0,f1⟩,fun hw=>r1 fun n hn=>hw n ?_⟩
  have hx1:=congrArg Prod.fst hx
  simp only at hx1
  rw [hx1]
  simp only [DataW.weights,Tryz.underlying50,List.map_cons,DataW.weightsEach]
  exact List.mem_append_right _ (List.mem_append_left _ hn)
end
end Go.Proofs.YtohkgdfkklfgmaaGreatDoor.L10
end
section
set_option maxRecDepth 100000
set_option maxHeartbeats 2000000
namespace Go.Proofs.YtohkgdfkklfgmaaGreatDoor.L10
open Go.RowKit
attribute [local go_sem] Oper.semAt_some
def lsum:List Stm→Nat
 | []=>0
 | s::r=>s.labs.length+lsum r
theorem lsum_snoc (l:List Stm) (k:Nat) (h:k<l.length):lsum (l.take (k+1))=lsum (l.take k)+l[k].labs.length:=by
 have e:∀ (a:List Stm) (s:Stm),lsum (a++[s])=lsum a+s.labs.length:=fun a s=>by
  induction a with
  | nil=>simp [lsum]
  | cons x r ih=>simp only [List.cons_append,lsum,ih];omega
 rw [List.take_add_one,List.getElem?_eq_getElem h,Option.toList,e]
theorem lsum_le (l:List Stm) (R:Nat) (h:∀ s∈l,s.labs.length≤R):∀ k,lsum (l.take k)≤k*R:=by
 intro k
 induction k with
 | zero=>simp [lsum]
 | succ k ih =>
  by_cases hk:k<l.length
  ·rw [lsum_snoc l k hk,Nat.add_mul]
   have:=h l[k] (List.getElem_mem hk)
   omega
  ·rw [List.take_of_length_le (by omega)] at ih ⊢
   rw [Nat.add_mul];omega
theorem lsum_flat (l:List Stm):(l.flatMap (fun s=>s.labs)).length=lsum l:=by
 induction l with
 | nil=>rfl
 | cons s r ih=>rw [List.flatMap_cons,List.length_append,ih,lsum]
theorem lsum_mem:∀ (l:List Stm) (s:Stm),s∈l→s.labs.length≤lsum l
 | a::r,s,h=>by
  rw [lsum]
  rcases List.mem_cons.1 h with rfl|h
  ·omega
  ·have:=lsum_mem r s h;omega
theorem few_at (vm vs:Value) (p:Pg) (w:World) (hp:PgAt w vm vs p) (hr:∀ s∈p.stmts,TxRoom s.labs) (b1 b2 b3:Bool) (h1:decide (p.maps.length≤300)=b1) (h2:decide (p.stmts.length≤60)=b2) (h3:decide (lsum (p.stmts.take 61)≤200)=b3) :
  Calls Tryz.prog 21 #[.agg #[vm,vs]] w fun e w'=>e=.returned (.bool ((b1 && b2) && b3))∧Below w.heap.size w w':=by
 obtain⟨n1,hn1⟩:∃ n,p.maps.length=n:=⟨_,rfl⟩
 obtain⟨n2,hn2⟩:∃ n,p.stmts.length=n:=⟨_,rfl⟩
 obtain⟨a1,c1,rfl,-⟩:=df_form hn1 hp.1
 obtain⟨a2,c2,rfl,hc⟩:=sm_form hn2 hp.2
 rw [hn1] at h1
 rw [hn2] at h2
 have hle:=lsum_le p.stmts 8796093022208 (fun s hs=>(hr s hs).1)
 have HC:=Lib.hid hc
 have HN:=Lib.hid hn2
 have HR:=Lib.hid hr
 have HLE:=Lib.hid hle
 have H3:=Lib.hid h3
 have hb0:=L8.bnew w (.cells #[.slice a1 n1 c1,.slice a2 n2 c2] 50)
 have HB:=Lib.hid hb0
 have g1:decide ((n1:Int)≤300)=b1:=by rw [← h1,decide_eq_decide];omega
 have g2:decide ((n2:Int)≤60)=b2:=by rw [← h2,decide_eq_decide];omega
 have G1:=Lib.hid g1
 have G2:=Lib.hid g2
 clear hp hr hn1 hn2 hc hle h1 h2 h3 g1 g2 hb0
 go_enter Tryz.func21,Tryz.ntmps21
 go_wp2
 go_loop [3,4] (fun n i=>∃ k:Nat,k≤n2∧k≤61∧i=.int .i64 (k:Int)∧n=.int .i64 (lsum (p.stmts.take k):Int)) (fun _ i=>61-(intOf i).toNat)
 case atStart=>exact⟨0,Nat.zero_le _,by omega,rfl,rfl⟩
 case round =>
  obtain⟨k,hk,hk2,rfl,rfl⟩:=hrel
  have hle:=HLE.out k
  by_cases hlt:k<n2∧k≤60
  ·obtain⟨hlt,hl6⟩:=hlt
   have hkl:k<p.stmts.length:=by rw [HN.out];exact hlt
   obtain⟨b,o,rfl,hbl,hc⟩:=HC.out (by omega)
   obtain⟨lv,hst,hx⟩:=hc k hkl
   obtain⟨ln,hln⟩:∃ ln,p.stmts[k].labs.length=ln:=⟨_,rfl⟩
   have hrm:=(HR.out _ (List.getElem_mem hkl)).1
   rw [hln] at hrm
   obtain⟨la,lc,rfl,-⟩:=st_form hln hst
   have x0:=hx 0 _ rfl
   rw [Nat.add_zero] at x0
   have hs:=lsum_snoc p.stmts k hkl
   rw [hln] at hs
   have HS:=Lib.hid hs
   obtain⟨m,hm⟩:∃ m,lsum (p.stmts.take k)=m:=⟨_,rfl⟩
   rw [hm] at hle HS ⊢
   have hmb:m≤60*8796093022208:=Nat.le_trans hle (Nat.mul_le_mul_right _ hl6)
   clear hx hc hst hln hs hm hle
   go_wp2
   go_round
   case rel=>exact⟨k+1,by omega,by omega,by go_num,by rw [HS.out];go_num⟩
   case measure=>simp [intOf];omega
  ·have hk61:p.stmts.take k=p.stmts.take 61:=by
    by_cases hlt2:k<n2
    ·have:k=61:=by omega
     rw [this]
    ·rw [List.take_of_length_le (by rw [HN.out];omega),List.take_of_length_le (by rw [HN.out];omega)]
   rw [hk61] at hle ⊢
   have g3:decide ((lsum (p.stmts.take 61):Int)≤200)=b3:=by rw [← H3.out,decide_eq_decide];omega
   obtain⟨m,hm⟩:∃ m,lsum (p.stmts.take 61)=m:=⟨_,rfl⟩
   rw [hm] at g3 ⊢
   have g1:=G1.out
   have g2:=G2.out
   clear hk61 hm hle
   by_cases hlt2:k<n2
   ·have h6:¬ (k:Int)≤60:=by omega
    clear hlt
    cases b1 <;> cases b2 <;> cases b3
    all_goals
     go_wp2
     go_ret
     exact⟨rfl,HB.out⟩
   ·clear hlt
    cases b1 <;> cases b2 <;> cases b3
    all_goals
     go_wp2
     go_ret
     exact⟨rfl,HB.out⟩
theorem few_ex (vm vs:Value) (p:Pg) (w:World) (hp:PgAt w vm vs p) (hr:∀ s∈p.stmts,TxRoom s.labs) :
  ∃ b:Bool,(b=true→p.maps.length≤300∧p.stmts.length≤60∧lsum p.stmts≤200)∧∀ W,Below w.heap.size w W→Calls Tryz.prog 21 #[.agg #[vm,vs]] W fun e w'=>e=.returned (.bool b)∧Below W.heap.size W w':=by
 refine⟨_,fun h=>?_,fun W hb=>few_at vm vs p W (hp.below hb) hr _ _ _ rfl rfl rfl⟩
 simp only [Bool.and_eq_true,decide_eq_true_eq] at h
 obtain⟨⟨h1,h2⟩,h3⟩:=h
 rw [List.take_of_length_le (by omega)] at h3
 exact⟨h1,h2,h3⟩
theorem sml_few {p:Pg} (h:p.maps.length≤300∧p.stmts.length≤60∧lsum p.stmts≤200):Sml p :=
 ⟨by omega,by omega,fun s hs=>by have:=lsum_mem p.stmts s hs;omega⟩
end Go.Proofs.YtohkgdfkklfgmaaGreatDoor.L10
end
