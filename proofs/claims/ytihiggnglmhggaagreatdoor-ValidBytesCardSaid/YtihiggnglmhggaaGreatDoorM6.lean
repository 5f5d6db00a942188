/- Lemmas and walks of L15Fn, L15Mm, L15Ck: what each theorem states; conditions stand in each theorem. -/
import Derived.Test.YtihiggnglmhggaaGreatDoorM1
set_option maxHeartbeats 2000000
set_option maxRecDepth 100000
section
namespace Go.Proofs.YtihiggnglmhggaaGreatDoor.L15
open Go.RowKit L14
attribute [local go_sem] Oper.semAt_some
theorem padded_at (n N:Nat) (w:World) (hn:n≤1000000000000) (hN:up n=N) :
  Calls Tryz.prog 177 #[.int .i64 (n:Int)] w fun e w'=>e=.returned (.int .i64 (N:Int))∧w=w':=by
 have e1:((n:Int)+8-1).tdiv 8*8=(N:Int):=by
  rw [← hN,Int.tdiv_eq_ediv_of_nonneg (by omega)];unfold up;omega
 have b1:=up_le n
 have HE:=Lib.hid e1
 go_enter Tryz.func177,Tryz.ntmps177
 go_wp2
 go_ret
 exact⟨rfl,rfl⟩
theorem rowS_at (n:Nat) (N:Int) (w:World) (hn:n≤1000000000000) (hN:N=((16+12*n:Nat):Int)) :
  Calls Tryz.prog 175 #[.int .i64 (n:Int)] w fun e w'=>e=.returned (.int .i64 N)∧w=w':=by
 have e1:16+12*(n:Int)=N:=by rw [hN];omega
 have HE:=Lib.hid e1
 clear hN
 go_enter Tryz.func175,Tryz.ntmps175
 go_wp2
 go_ret
 exact⟨rfl,rfl⟩
theorem dataS_at (n N:Nat) (w:World) (hn:n≤10000000000) (hN:hd n=N) :
  Calls Tryz.prog 176 #[.int .i64 (n:Int)] w fun e w'=>e=.returned (.int .i64 (N:Int))∧w=w':=by
 have HR:=Lib.hid (fun w=>rowS_at n _ w (by omega) rfl)
 have HP:=Lib.hid (fun w=>padded_at (16+12*n) N w (by omega) hN)
 generalize 16+12*n=m at HR HP
 clear hN
 go_enter Tryz.func176,Tryz.ntmps176
 go_wp2_with (first
  | (go_at_call 175;((with_reducible refine (HR.out _).mono ?_);rintro e w1 ⟨rfl,rfl⟩))
  | (go_at_call 177;((with_reducible refine (HP.out _).mono ?_);rintro e w2 ⟨rfl,rfl⟩)))
 go_ret
 exact⟨rfl,rfl⟩
theorem i64_or (i:Nat) (y x:Int) (hy:0≤y) (hy1:y<2 ^ i) (hx:0≤x) (hx1:x % 2 ^ i=0) (hy2:y<9223372036854775808) (hx2:x<9223372036854775808):bits .or .i64 y x=y+x :=
 bits_join_low .i64 63 (by decide) (fun n h0 h1=>by simp [IntKind.wrap,IntKind.bits,IntKind.signed];omega) i y x hy hy1 hy2 hx hx1 hx2
theorem or1 (a:UInt8):bits .or .i64 0 (a.toNat:Int)=(a.toNat:Int):=by
 have ha:=a.toNat_lt
 rw [i64_or 0 0 _ (by omega) (by omega) (by omega) (by omega) (by omega) (by omega)];omega
theorem or2 (a b:UInt8):bits .or .i64 (a.toNat:Int) ((b.toNat:Int)*256)=(a.toNat:Int)+(b.toNat:Int)*256:=by
 have ha:=a.toNat_lt
 have hb:=b.toNat_lt
 exact i64_or 8 _ _ (by omega) (by omega) (by omega) (by omega) (by omega) (by omega)
theorem or3 (a b c:UInt8):bits .or .i64 ((a.toNat:Int)+(b.toNat:Int)*256) ((c.toNat:Int)*65536)=(a.toNat:Int)+(b.toNat:Int)*256+(c.toNat:Int)*65536:=by
 have ha:=a.toNat_lt
 have hb:=b.toNat_lt
 have hc:=c.toNat_lt
 exact i64_or 16 _ _ (by omega) (by omega) (by omega) (by omega) (by omega) (by omega)
theorem or4 (a b c d:UInt8):bits .or .i64 ((a.toNat:Int)+(b.toNat:Int)*256+(c.toNat:Int)*65536) ((d.toNat:Int)*16777216)=(a.toNat:Int)+(b.toNat:Int)*256+(c.toNat:Int)*65536+(d.toNat:Int)*16777216:=by
 have ha:=a.toNat_lt
 have hb:=b.toNat_lt
 have hc:=c.toNat_lt
 have hd:=d.toNat_lt
 exact i64_or 24 _ _ (by omega) (by omega) (by omega) (by omega) (by omega) (by omega)
theorem get2_at (v:Value) (l:List UInt8) (V:Nat) (w:World) (h:Rw eB w v l) (hl:l.length=2) (hV:va l=V) :
  Calls Tryz.prog 174 #[v] w fun e w'=>e=.returned (.int .i64 (V:Int))∧w=w':=by
 obtain⟨a,c,rfl,h1,h2,h3⟩:=h
 obtain⟨b,o,rfl,hb,hc⟩:=h3 (by omega)
 match l,hl with
 | [x,y],_ =>
  have c0:=hc 0 (by simp)
  have c1:=hc 1 (by simp)
  have o1:=or1 x
  have o2:=or2 x y
  have b1:=x.toNat_lt
  have b2:=y.toNat_lt
  have e:(x.toNat:Int)+(y.toNat:Int)*256=(V:Int):=by rw [← hV];simp [va];omega
  have HV:=Lib.hid e
  simp only [List.length_cons,List.length_nil,Nat.zero_add,Nat.reduceAdd,Nat.add_zero,List.getElem_cons_zero,List.getElem_cons_succ,eB] at c0 c1 ⊢
  clear hc h1 h2 h3 hV hb e
  go_enter Tryz.func174,Tryz.ntmps174
  go_wp2
  refine wp_loop_rounds 3 ?_
  repeat (rw [rounds_succ];go_wp2)
  go_ret
  exact⟨congrArg (fun z=>Ending.returned (.int .i64 z)) HV.out,rfl⟩
theorem get4_at (v:Value) (l:List UInt8) (V:Nat) (w:World) (h:Rw eB w v l) (hl:l.length=4) (hV:va l=V) :
  Calls Tryz.prog 174 #[v] w fun e w'=>e=.returned (.int .i64 (V:Int))∧w=w':=by
 obtain⟨a,c,rfl,h1,h2,h3⟩:=h
 obtain⟨b,o,rfl,hb,hc⟩:=h3 (by omega)
 match l,hl with
 | [x,y,z,u],_ =>
  have c0:=hc 0 (by simp)
  have c1:=hc 1 (by simp)
  have c2:=hc 2 (by simp)
  have c3:=hc 3 (by simp)
  have o1:=or1 x
  have o2:=or2 x y
  have o3:=or3 x y z
  have o4:=or4 x y z u
  have b1:=x.toNat_lt
  have b2:=y.toNat_lt
  have b3:=z.toNat_lt
  have b4:=u.toNat_lt
  have e:(x.toNat:Int)+(y.toNat:Int)*256+(z.toNat:Int)*65536+(u.toNat:Int)*16777216=(V:Int):=by rw [← hV];simp [va];omega
  have HV:=Lib.hid e
  simp only [List.length_cons,List.length_nil,Nat.zero_add,Nat.reduceAdd,Nat.add_zero,List.getElem_cons_zero,List.getElem_cons_succ,eB] at c0 c1 c2 c3 ⊢
  clear hc h1 h2 h3 hV hb e
  go_enter Tryz.func174,Tryz.ntmps174
  go_wp2
  refine wp_loop_rounds 5 ?_
  repeat (rw [rounds_succ];go_wp2)
  go_ret
  exact⟨congrArg (fun z=>Ending.returned (.int .i64 z)) HV.out,rfl⟩
theorem le_snoc:∀ (n z:Nat),le (n+1) z=le n z++[UInt8.ofNat (z / 256 ^ n % 256)]
 | 0,z=>by simp [le]
 | n+1,z=>by
  rw [le,le_snoc n (z / 256),le,List.cons_append,Nat.div_div_eq_div_mul,show 256*256 ^ n=256 ^ (n+1) by rw [Nat.pow_succ,Nat.mul_comm]]
theorem run_three {t:TypeId} (ht:Tryz.prog.underlying t=some (.slice (Tryz.prog.elem t))) (hz:∀ w,(Go.sizeOf (Tryz.prog.elem t)).run Tryz.prog w=.ok 1 w) (g o n c k m:Nat) (hk:k<m) (hm:m≤c) (W:World) :
  (Instr.slice t (.slice (some ⟨g,o,none⟩) n c) (some (.int .i64 (k:Int))) (some (.int .i64 (m:Int))) (some (.int .i64 (m:Int)))).run Tryz.prog W=.ok (.slice (some ⟨g,o+k,none⟩) (m-k) (m-k)) W:=by
 rw [run_slice_lhm W t _ n c ht .i64 .i64 .i64 (k:Int) (m:Int) (m:Int) (by omega) (by omega) (by omega) (by omega)]
 simp [hz,Result.andThen,sliced,add0,show ¬ m=k by omega]
structure Oth (g:Nat) (w w':World):Prop where
 b:Below g w w'
 o:∀ k,k≠g→w'.heap[k]?=w.heap[k]?
theorem Oth.refl (g:Nat) (w:World):Oth g w w:=⟨Below.refl _ _,fun _ _=>rfl⟩
theorem Oth.setCell {g:Nat} {w w':World} (h:Oth g w w') (k:Nat) (v:Value):Oth g w (w'.setCell ⟨g,k,none⟩ v) :=
 ⟨h.b.setCell (p:=⟨g,k,none⟩) (Nat.le_refl _) v,fun j hj=>(Below.heap_setCell _ _ _ _ (by exact hj)).trans (h.o j hj)⟩
theorem Oth.cell {g:Nat} {w w':World} (h:Oth g w w') {k j:Nat} (hk:k≠g):w'.cell? ⟨k,j,none⟩=w.cell? ⟨k,j,none⟩:=by
 unfold World.cell?
 simp only [h.o k hk]
theorem put_at (g m N x:Nat) (xs:List UInt8) (o:Nat) (w:World) (ho:xs.length=o) (hm:m≤4) (hN:o+m≤N) (hNN:N≤1000000000) (hx:x<4294967296) (hg:w.heap[g]?=some (.cells (rowZ eB (.int .u8 0) xs N) 5 (0,0))) :
  Calls Tryz.prog 200 #[.slice (some ⟨g,o,none⟩) m m,.int .i64 (x:Int)] w fun e w'=>e=.returned (.tuple #[])∧w'.heap[g]?=some (.cells (rowZ eB (.int .u8 0) (xs++le m x) N) 5 (0,0))∧Oth g w w':=by
 have HO:=Lib.hid ho
 have HG:=Lib.hid hg
 clear ho hg
 go_enter Tryz.func200,Tryz.ntmps200
 go_wp2
 go_loopw [1,4,7] (fun y _ q wr=>∃ j:Nat,j≤m∧q=.int .i64 (j:Int)∧y=.int .i64 ((x / 256 ^ j:Nat):Int)∧Hid (wr.heap[g]?=some (.cells (rowZ eB (.int .u8 0) (xs++le j x) N) 5 (0,0))∧Oth g w wr)) (fun _ _ q _=>m-(intOf q).toNat)
 case atStart=>exact⟨0,Nat.zero_le _,rfl,by simp,Lib.hid ⟨by simpa [le] using HG.out,Oth.refl _ _⟩⟩
 case round =>
  obtain⟨j,hj,rfl,rfl,hI⟩:=hrel
  obtain⟨hG,hB⟩:=hI.out
  by_cases hlt:j<m
  ·have hlen:(xs++le j x).length=o+j:=by rw [List.length_append,HO.out,le_len]
   have hnx:=rowZ_next eB (.int .u8 0) (xs++le j x) N (by omega)
   have hst:=rowZ_set eB (.int .u8 0) (xs++le j x) (UInt8.ofNat (x / 256 ^ j % 256)) N (by omega)
   rw [hlen] at hnx hst
   rw [List.append_assoc,← le_snoc] at hst
   obtain⟨hc,hf⟩:=cell_in (k:=o+j) hG
   rw [hnx] at hc
   have hdv:x / 256 ^ j≤x:=Nat.div_le_self _ _
   have hnext:x / 256 ^ (j+1)=x / 256 ^ j / 256:=by rw [Nat.div_div_eq_div_mul,Nat.pow_succ]
   have hbv:eB (UInt8.ofNat (x / 256 ^ j % 256))=.int .u8 ((x / 256 ^ j % 256:Nat):Int):=by
    unfold eB
    rw [UInt8.toNat_ofNat']
    congr 2
    omega
   rw [hbv] at hst
   obtain⟨y,hy⟩:∃ y,x / 256 ^ j=y:=⟨_,rfl⟩
   rw [hy] at hdv hnext hst ⊢
   have HS:=Lib.hid (And.intro hG (And.intro hst hB))
   have HY:=Lib.hid hnext
   have hy4:y<4294967296:=by omega
   clear hI hG hB hlen hnx hst hnext hbv hy hdv
   go_wp2
   refine⟨⟨j+1,hlt,by go_num,by rw [HY.out];go_num,Lib.hid ⟨?_,HS.out.2.2.setCell _ _⟩⟩,by simp [intOf];omega⟩
   rw [← HS.out.2.1]
   exact cells_set HS.out.1
  ·obtain rfl:j=m:=by omega
   have HS:=Lib.hid (And.intro hG hB)
   clear hI hG hB
   go_wp2
   go_end0
   exact⟨rfl,HS.out.1,HS.out.2⟩
def Ss (w:World) (v:Value) (l:List Sc):Prop :=
 ∃ a c,v=.slice a l.length c∧l.length≤c∧(a=none→c=0)∧(0<l.length→∃ b o,a=some ⟨b,o,none⟩∧b<w.heap.size∧∀ j,(h:j<l.length)→w.cell? ⟨b,o+j*2,none⟩=some (.int .i64 l[j].1)∧∃ dv,w.cell? ⟨b,o+j*2+1,none⟩=some dv∧Rw eB w dv l[j].2)
theorem Ss.below {w w':World} {v:Value} {l:List Sc} (h:Ss w v l) (hb:Below w.heap.size w w'):Ss w' v l:=by
 obtain⟨a,c,hv,h1,h2,h3⟩:=h
 refine⟨a,c,hv,h1,h2,fun hp=>?_⟩
 obtain⟨b,o,e,hlt,hc⟩:=h3 hp
 refine⟨b,o,e,Nat.lt_of_lt_of_le hlt hb.size,fun j hj=>?_⟩
 obtain⟨h4,dv,h5,h6⟩:=hc j hj
 exact⟨(hb.cell (by exact hlt)).trans h4,dv,(hb.cell (by exact hlt)).trans h5,h6.below hb⟩
theorem Ss.form {w:World} {v:Value} {l:List Sc} {n:Nat} (hn:l.length=n) (h:Ss w v l):∃ a c,v=.slice a n c∧n≤c∧(a=none→c=0)∧(0<n→∃ b o,a=some ⟨b,o,none⟩∧b<w.heap.size∧∀ j,(h:j<l.length)→w.cell? ⟨b,o+j*2,none⟩=some (.int .i64 l[j].1)∧∃ dv,w.cell? ⟨b,o+j*2+1,none⟩=some dv∧Rw eB w dv l[j].2):=by
 subst hn;exact h
theorem Ss.nil (w:World):Ss w (.slice none 0 0) []:=⟨none,0,rfl,Nat.le_refl _,fun _=>rfl,fun h=>absurd h (by simp)⟩
structure Sml (l:List Sc):Prop where
 n:l.length≤100000
 d:∀ s∈l,s.2.length≤1000000
theorem Sml.tot {l:List Sc} (h:Sml l):tot l≤100001000000:=by
 have h1:=tot_bound l 1000000 h.d
 have h2:=h.n
 have h3:l.length*(1000000+7)≤100000*(1000000+7):=Nat.mul_le_mul_right _ h2
 omega
theorem Sml.hd {l:List Sc} (h:Sml l):hd l.length≤1300000:=by
 have h1:=up_le (16+12*l.length)
 have h2:=h.n
 unfold L15.hd;omega
theorem size_at (v:Value) (l:List Sc) (S:Nat) (w:World) (hv:Ss w v l) (hs:Sml l) (hS:szL l=S) :
  Calls Tryz.prog 148 #[v] w fun e w'=>e=.returned (.int .i64 (S:Int))∧Below w.heap.size w w':=by
 obtain⟨n,hn⟩:∃ n,l.length=n:=⟨_,rfl⟩
 obtain⟨a,c,rfl,-,-,hc⟩:=hv.form hn
 have hnl:=hs.n
 have htt:=hs.tot
 have hhd:=hs.hd
 rw [hn] at hnl hhd
 obtain⟨H,hH⟩:∃ H,hd n=H:=⟨_,rfl⟩
 rw [hH] at hhd
 have HD:=Lib.hid (fun w=>dataS_at n H w (by omega) hH)
 have HC:=Lib.hid hc
 have HN:=Lib.hid hn
 have HS:=Lib.hid (show H+tot (l.take n)=S by rw [← hS,← hH,← hn,List.take_length];rfl)
 have HT:=Lib.hid htt
 have HM:=Lib.hid hs.d
 clear hn hc hv hs htt hH hS
 go_enter Tryz.func148,Tryz.ntmps148
 go_wp2_with (go_at_call 176;((with_reducible refine (HD.out _).mono ?_);rintro e w1 ⟨rfl,rfl⟩))
 go_loopw [3,5,11] (fun s _ q wr=>∃ j:Nat,j≤n∧q=.int .i64 (j:Int)∧s=.int .i64 ((H+tot (l.take j):Nat):Int)∧Below w.heap.size w wr) (fun _ _ q _=>n-(intOf q).toNat)
 case atStart=>exact⟨0,Nat.zero_le _,rfl,by simp [tot],Below.refl _ _⟩
 case round =>
  obtain⟨j,hj,rfl,rfl,hB⟩:=hrel
  by_cases hlt:j<n
  ·have hjl:j<l.length:=by rw [HN.out];exact hlt
   obtain⟨b,o,rfl,hbl,hcc⟩:=HC.out (by omega)
   obtain⟨x0,dv,x1,hr⟩:=hcc j hjl
   obtain⟨m,hm⟩:∃ m,l[j].2.length=m:=⟨_,rfl⟩
   obtain⟨da,dc,rfl,-⟩:=hr.form hm
   have y0:=(hB.cell (p:=⟨b,o+j*2,none⟩) (by exact hbl)).trans x0
   have y1:=(hB.cell (p:=⟨b,o+j*2+1,none⟩) (by exact hbl)).trans x1
   have hml:=HM.out _ (List.getElem_mem hjl)
   have hst:=tot_step l j hjl
   have hle:=tot_le l (j+1)
   have htt:=HT.out
   rw [hm] at hml hst
   obtain⟨u,hu⟩:∃ u,up m=u:=⟨_,rfl⟩
   have HP:=Lib.hid (fun w=>padded_at m u w (by omega) hu)
   rw [hu] at hst
   obtain⟨t,ht⟩:∃ t,tot (l.take j)=t:=⟨_,rfl⟩
   rw [ht] at hst ⊢
   have HST:=Lib.hid hst
   have hbd:t+u≤100001000000:=by omega
   generalize l[j].1=kk at y0
   have hsz:=hB.size
   clear hcc x0 x1 hr hm hst hle htt hu ht
   go_wp2_with (go_at_call 177;((with_reducible refine (HP.out _).mono ?_);rintro e w2 ⟨rfl,rfl⟩))
   go_roundw
   case rel=>exact⟨j+1,hlt,by go_num,by rw [HST.out];go_num,bch hB (bnew _ _)⟩
   case measure=>simp [intOf];omega
  ·obtain rfl:j=n:=by omega
   go_wp2
   go_ret
   exact⟨congrArg (fun (z:Nat)=>Ending.returned (.int .i64 (z:Int))) HS.out,hB⟩
theorem asc_cons (k:Int) (s:Sc) (r:List Sc):asc k (s::r)=(decide (k<s.1) && decide (s.1≤65535) && asc s.1 r):=rfl
theorem check_at (v:Value) (l:List Sc) (R:Int) (w:World) (hv:Ss w v l) (hs:Sml l) (hR:chkV l=R) :
  Calls Tryz.prog 147 #[v] w fun e w'=>e=.returned (.int .i64 R)∧Below w.heap.size w w':=by
 obtain⟨S,hS⟩:∃ S,szL l=S:=⟨_,rfl⟩
 have HZ:=Lib.hid (size_at v l S w hv hs hS)
 obtain⟨n,hn⟩:∃ n,l.length=n:=⟨_,rfl⟩
 obtain⟨a,c,rfl,-,-,hc⟩:=hv.form hn
 have hnl:=hs.n
 rw [hn] at hnl
 unfold chkV at hR
 rw [hS,hn] at hR
 by_cases h1:16<n
 ·rw [if_pos (.inl h1)] at hR
  have h1':(16:Int)<(n:Int):=by omega
  subst hR
  clear hc hS hn h1 hv
  go_enter Tryz.func147,Tryz.ntmps147
  go_wp2
  go_ret
  exact⟨rfl,Below.refl _ _⟩
 have h1':¬ (16:Int)<(n:Int):=by omega
 by_cases h2:1073741824<S
 ·rw [if_pos (.inr h2)] at hR
  have h2':(1073741824:Int)<(S:Int):=by omega
  subst hR
  clear hc hS hn h1 h2 hv
  go_enter Tryz.func147,Tryz.ntmps147
  go_wp2_with (go_at_call 148;((with_reducible refine (HZ.out).mono ?_);rintro e w1 ⟨rfl,b1⟩))
  go_ret
  exact⟨rfl,b1⟩
 have h2':¬ (1073741824:Int)<(S:Int):=by omega
 rw [if_neg (by omega)] at hR
 have HC:=Lib.hid hc
 have HN:=Lib.hid hn
 have HR:Hid ((if asc 0 (l.drop 0)=true then (0:Int) else 4)=R):=Lib.hid (by simpa using hR)
 clear hc hS hn h1 h2 hv hR hs
 go_enter Tryz.func147,Tryz.ntmps147
 go_wp2_with (go_at_call 148;((with_reducible refine (HZ.out).mono ?_);rintro e w1 ⟨rfl,b1⟩))
 have HB1:=Lib.hid b1
 clear b1
 go_loopw [3,5,16] (fun s _ q wr=>∃ j:Nat,j≤n∧q=.int .i64 (j:Int)∧∃ K:Int,s=.int .i64 K∧Below w.heap.size w wr∧Hid ((if asc K (l.drop j)=true then (0:Int) else 4)=R)) (fun _ _ q _=>n-(intOf q).toNat)
 case atStart=>exact⟨0,Nat.zero_le _,rfl,0,rfl,HB1.out,HR⟩
 case round =>
  obtain⟨j,hj,rfl,K,rfl,hB,hA⟩:=hrel
  clear HR
  by_cases hlt:j<n
  ·have hjl:j<l.length:=by rw [HN.out];exact hlt
   obtain⟨b,o,rfl,hbl,hcc⟩:=HC.out (by omega)
   obtain⟨x0,dv,x1,hr⟩:=hcc j hjl
   obtain⟨m,hm⟩:∃ m,l[j].2.length=m:=⟨_,rfl⟩
   obtain⟨da,dc,rfl,-⟩:=hr.form hm
   have y0:=(hB.cell (p:=⟨b,o+j*2,none⟩) (by exact hbl)).trans x0
   have y1:=(hB.cell (p:=⟨b,o+j*2+1,none⟩) (by exact hbl)).trans x1
   have hE:=hA.out
   rw [List.drop_eq_getElem_cons hjl,asc_cons] at hE
   obtain⟨kk,hkk⟩:∃ kk,l[j].1=kk:=⟨_,rfl⟩
   rw [hkk] at y0 hE
   have hsz:=hB.size
   clear hcc x0 x1 hr hm hkk hA
   by_cases k1:K<kk
   ·by_cases k2:kk≤65535
    ·have HE:Hid ((if asc kk (l.drop (j+1))=true then (0:Int) else 4)=R):=Lib.hid (by simpa [k1,k2] using hE)
     have k1':¬ kk≤K:=by omega
     have k2':¬ (65535:Int)<kk:=by omega
     clear hE k1 k2
     go_wp2
     go_roundw
     case rel=>exact⟨j+1,hlt,by go_num,kk,rfl,bch hB (bnew _ _),HE⟩
     case measure=>simp [intOf];omega
    ·have hRR:(4:Int)=R:=by simpa [k1,k2] using hE
     have k1':¬ kk≤K:=by omega
     have k2':(65535:Int)<kk:=by omega
     subst hRR
     clear hE k1 k2
     go_wp2
     go_ret
     exact⟨rfl,bch hB (bnew _ _)⟩
   ·have hRR:(4:Int)=R:=by simpa [k1] using hE
    have k1':kk≤K:=by omega
    subst hRR
    clear hE k1
    go_wp2
    go_ret
    exact⟨rfl,bch hB (bnew _ _)⟩
  ·obtain rfl:j=n:=by omega
   have hE:=hA.out
   rw [List.drop_eq_nil_of_le (by rw [HN.out];exact Nat.le_refl _)] at hE
   have hRR:(0:Int)=R:=by simpa [asc] using hE
   subst hRR
   clear hE hA
   go_wp2
   go_ret
   exact⟨rfl,hB⟩
end Go.Proofs.YtihiggnglmhggaaGreatDoor.L15
end
