/- Lemmas and walks of L11De, L11Bu, L11Df, L11Pr: what each theorem states; conditions stand in each theorem. -/
import Derived.Test.YtgljoilddjmohaaGreatDoorM21
import Derived.Test.YtgljoilddjmohaaGreatDoorM13
import Derived.Test.YtgljoilddjmohaaGreatDoorShelg
import Derived.KernelRfl
import Derived.Lib.AppendStr
import Derived.Test.YtgljoilddjmohaaGreatDoorL11Ck
section
set_option maxRecDepth 100000
set_option maxHeartbeats 4000000
namespace Go.Proofs.YtgljoilddjmohaaGreatDoor.L11
open Go.RowKit
attribute [local go_sem] Oper.semAt_some
abbrev sE:TypeId:=9
abbrev OwT (w:World) (B:Nat) (v:Value) (n:Nat) (l:List ByteArray):Prop:=w.ownsRow B sE 1 v n (L8.stC l)
theorem own_lit (w:World) (B:Nat) (l:List ByteArray) (n:Nat) (hn:l.length=n) (hB:B≤w.heap.size) (hm:n≤maxLen):OwT (w.alloc (.cells (L8.stC l).toArray sE)) B (.slice (some ⟨w.heap.size,0,none⟩) n n) n l:=by
 subst hn
 refine⟨by simp [L8.stC],.inr ⟨w.heap.size,l.length,_,rfl,hB,heap_alloc_last w _,Nat.le_refl _,hm,by simp [L8.stC],?_⟩⟩
 rw [List.toList_toArray]
 exact List.take_of_length_le (by simp [L8.stC])
theorem join5 (a b c d e:ByteArray):(⟨(Lib.join ([a,b,c,d,e].map (·.data.toList)) spB.data.toList).toArray⟩:ByteArray)=a++spB++b++spB++c++spB++d++spB++e:=by
 apply ByteArray.ext
 apply Array.toList_inj.1
 simp [Lib.join,List.intercalate,spB]
theorem cl4 {w:World} {k:Nat} {a b c d:Value} {t:TypeId} (h:w.heap[k]?=some (.cells #[a,b,c,d] t)):w.cell? ⟨k,0,none⟩=some a∧w.cell? ⟨k,1,none⟩=some b∧w.cell? ⟨k,2,none⟩=some c∧w.cell? ⟨k,3,none⟩=some d:=by
 simp [World.cell?,h]
theorem cl3 {w:World} {k:Nat} {a b c:Value} {t:TypeId} (h:w.heap[k]?=some (.cells #[a,b,c] t)):w.cell? ⟨k,0,none⟩=some a∧w.cell? ⟨k,1,none⟩=some b∧w.cell? ⟨k,2,none⟩=some c:=by
 simp [World.cell?,h]
theorem own_some {w:World} {B:Nat} {v:Value} {m:Nat} {l:List ByteArray} (h:OwT w B v m l) (hm:0<m):∃ k c,v=.slice (some ⟨k,0,none⟩) m c∧(∀ (j:Nat) x,l[j]?=some x→w.cell? ⟨k,0+j,none⟩=some (.string x))∧k<w.heap.size∧m≤c:=by
 have h0:=h
 rcases h.2 with ⟨_,e⟩|⟨g,cap,cur,rfl,_,hh,hc,_⟩
 ·omega
 ·refine⟨g,cap,rfl,fun j x hx=>?_,lt_of_block hh,hc⟩
  have:=h0.cells (g:=g) rfl j (.string x) (by simp [L8.stC,hx])
  rw [L8.add0] at this
  rw [Nat.zero_add]
  exact this
structure DRng (key val ent:Int):Prop where
 k0:-9223372036854775808≤key
 k1:key≤9223372036854775807
 v0:-9223372036854775808≤val
 v1:val≤9223372036854775807
 e0:-9223372036854775808≤ent
 e1:ent≤9223372036854775807
def deW (nm:ByteArray) (key val ent:Int):List ByteArray:=[L9.mapT,nm,nB key,nB val,nB ent]
theorem row_own {w w':World} {g:Option Nat} {k:Nat} {cs:Array Value} {t:TypeId} (h:w.heap[k]?=some (.cells cs t)) (hg:w.grownBy w' g) (hne:g≠some k):w'.heap[k]?=some (.cells cs t) :=
 (hg.block k (lt_of_block h) (fun e=>hne e.symm)).trans h
theorem declaration_at (nm:ByteArray) (key val ent:Int) (w:World) (hT:Tb w) (hR:DRng key val ent) (hn:nm.size≤1000) :
  Calls Tryz.prog 36 #[.agg #[.string nm,.int .i64 key,.int .i64 val,.int .i64 ent]] w (fun e w'=>e=.returned (.string (deT ⟨nm,key,val,ent⟩))∧Below w.heap.size w w'):=by
 obtain⟨i0,hi,hz0,hz1,hz2⟩:=info_parts L8.Tryz.info9
 have hl1:=nB_len key hR.k0 hR.k1
 have hl2:=nB_len val hR.v0 hR.v1
 have hl3:=nB_len ent hR.e0 hR.e1
 have HU:=Lib.hid (fun W (h:Tb W)=>(⟨number_at key hR.k0 hR.k1 W h,number_at val hR.v0 hR.v1 W h,number_at ent hR.e0 hR.e1 W h⟩:Calls Tryz.prog 69 #[.int .i64 key] W _∧Calls Tryz.prog 69 #[.int .i64 val] W _∧Calls Tryz.prog 69 #[.int .i64 ent] W _))
 have hD0:=heap_alloc_last w (.cells #[.string nm,.int .i64 key,.int .i64 val,.int .i64 ent] 70)
 have hB0:=L8.bnew w (.cells #[.string nm,.int .i64 key,.int .i64 val,.int .i64 ent] 70)
 have hT0:=hT.new (.cells #[.string nm,.int .i64 key,.int .i64 val,.int .i64 ent] 70)
 have HJ:Hid (deT ⟨nm,key,val,ent⟩=⟨(Lib.join ((deW nm key val ent).map (·.data.toList)) spB.data.toList).toArray⟩):=Lib.hid (by unfold deW;rw [join5];rfl)
 have HJL:Hid ((Lib.join ((deW nm key val ent).map (·.data.toList)) spB.data.toList).length≤140737488355328):=Lib.hid (by
  have h:=congrArg ByteArray.size HJ.out
  have e1:L9.mapT.size=3:=rfl
  have e2:spB.size=1:=rfl
  have h3:(deT ⟨nm,key,val,ent⟩).size≤5000:=by
   unfold deT
   simp only [ByteArray.size_append,e1,e2]
   omega
  have h4:(⟨(Lib.join ((deW nm key val ent).map (·.data.toList)) spB.data.toList).toArray⟩:ByteArray).size=(Lib.join ((deW nm key val ent).map (·.data.toList)) spB.data.toList).length:=by
   show (Array.size _)=_
   simp
  omega)
 have HTW:=Lib.hid (fun (W:World) (h:Below w.heap.size w W)=>hT.below h)
 clear hT hR
 go_enter Tryz.func36,Tryz.ntmps36
 go_upto_region 1 with (fail)
 generalize w.alloc (.cells #[.string nm,.int .i64 key,.int .i64 val,.int .i64 ent] 70)=W0 at hD0 hB0 hT0 ⊢
 generalize hws:w.heap.size=ks at hD0 ⊢
 have HB0:=Lib.hid hB0
 clear hB0 hws
 obtain⟨x0,x1,x2,x3⟩:=cl4 hD0
 have hO1:OwT (W0.alloc (.cells #[.string L9.mapT,.string nm] sE)) W0.heap.size (.slice (some ⟨W0.heap.size,0,none⟩) 2 2) 2 [L9.mapT,nm]:=own_lit W0 W0.heap.size [L9.mapT,nm] 2 rfl (Nat.le_refl _) (by unfold maxLen;omega)
 have hB1:=L8.bnew W0 (.cells #[.string L9.mapT,.string nm] sE)
 have hD1:=L8.row_up hD0 hB1
 have hT1:=hT0.below hB1
 go_upto_region 2 with (fail)
 rw [show (⟨#[109,97,112]⟩:ByteArray)=L9.mapT from rfl]
 generalize W0.alloc (.cells #[.string L9.mapT,.string nm] sE)=W1 at hO1 hB1 hD1 hT1 ⊢
 have HB1:=Lib.hid (L2.bch HB0.out hB1)
 have hsz0:w.heap.size≤W0.heap.size:=HB0.out.size
 have hO1':OwT W1 w.heap.size (.slice (some ⟨W0.heap.size,0,none⟩) 2 2) 2 [L9.mapT,nm]:=by
  obtain⟨e,h|⟨g,cap,cur,h1,h2,h3⟩⟩:=hO1
  ·exact⟨e,.inl h⟩
  ·exact⟨e,.inr ⟨g,cap,cur,h1,Nat.le_trans hsz0 h2,h3⟩⟩
 clear hO1 x0 x1 x2 x3 hD0 hB1
 obtain⟨x0,x1,x2,x3⟩:=cl4 hD1
 have hI:=heap_alloc_last W1 (.cells #[.int .i64 key,.int .i64 val,.int .i64 ent] 3)
 have hB2:=L8.bnew W1 (.cells #[.int .i64 key,.int .i64 val,.int .i64 ent] 3)
 have HO2:=Lib.hid (L8.own_below hO1' hB2)
 have HT2:=Lib.hid (hT1.below hB2)
 have HB2:=Lib.hid (L2.bch HB1.out hB2)
 go_wp2_with (fail)
 generalize W1.alloc (.cells #[.int .i64 key,.int .i64 val,.int .i64 ent] 3)=W2 at hI HO2 HT2 HB2 ⊢
 generalize W1.heap.size=k2 at hI ⊢
 generalize W0.heap.size=k1 at HO2 ⊢
 have HI:=Lib.hid hI
 clear x0 x1 x2 x3 hD1 hT1 hB2 hO1' hI HB1 HB0 hT0 hsz0
 go_loopw [3,17] (fun us i wr=>∃ (j:Nat) (ws:Value),ws=us∧i=.int .i64 (j:Int)∧j≤3∧Hid (OwT wr w.heap.size ws (2+j) ((deW nm key val ent).take (2+j)))∧Hid (wr.heap[k2]?=some (.cells #[.int .i64 key,.int .i64 val,.int .i64 ent] 3))∧Hid (Tb wr)∧Hid (Below w.heap.size w wr)) (fun _ i _=>3-(intOf i).toNat)
 case atStart=>exact⟨0,_,rfl,rfl,by omega,HO2,HI,HT2,HB2⟩
 case round =>
  clear HO2 HI HT2 HB2
  obtain⟨j,ws,rfl,rfl,hj,hO,hI,hT,hB⟩:=hrel
  have hHU:=HU.out wr hT.out
  obtain⟨y0,y1,y2⟩:=cl3 hI.out
  have hwl:=lt_of_block hI.out
  have hwz:=hB.out.size
  have hown:=hO.out
  have hne:=Lib.ownBlock_ne hown hI.out (by decide)
  have HHN:=Lib.hid (fun (w3:World) (b3:Below wr.heap.size wr w3)=>(⟨L8.own_below hown b3,L8.row_up hI.out b3,hT.out.below b3,L2.bch hB.out b3,Nat.le_trans hwz b3.size⟩:OwT w3 w.heap.size ws (2+j) ((deW nm key val ent).take (2+j))∧w3.heap[k2]?=some (.cells #[.int .i64 key,.int .i64 val,.int .i64 ent] 3)∧Tb w3∧Below w.heap.size w w3∧w.heap.size≤w3.heap.size))
  have HNE:=Lib.hid hne
  have HBO:=Lib.hid (L8.own_base hown)
  clear hne hown hO hT hI hB
  rcases (show j=0∨j=1∨j=2∨j=3 by omega) with rfl|rfl|rfl|rfl
  ·have HC:=Lib.hid hHU.1
   clear hHU
   go_wp2_with (first
    | (go_at_call 69;((with_reducible refine (HC.out).mono ?_);rintro e w3 ⟨rfl,b3⟩;obtain⟨o3,i3,t3,B3,z3⟩:=HHN.out _ b3;clear y0 y1 y2))
    | (at_builtin;refine wpList_append_own _ rfl _ _ 48 rfl w.heap.size 9 i0 (.string ⟨#[]⟩) 1 16 Tryz.underlying48 hi hz0 hz1 hz2 rfl (by decide) _ 2 _ rfl (o3.alloc _) ⟨w3.heap.size,0,none⟩ 1 1 [.string (nB key)] rfl rfl (World.news_of_block (cs:=#[.string (nB key)]) (t:=9) (fr:=(0,0)) (heap_alloc_last w3 _)) (by simp [Value.oneCell']) (by unfold maxLen;omega) (by omega) (by simp;omega) ?_;intro v5 w5 o5 g5 _;have i5:=row_own (L8.row_up i3 (L8.bnew w3 (.cells #[.string (nB key)] 9))) g5 HNE.out;have B5:=(B3.alloc z3 (.cells #[.string (nB key)] 9)).grown g5 (by simp;omega) HBO.out))
   go_roundw
   case rel=>exact⟨1,_,rfl,by go_num,by omega,Lib.hid o5,Lib.hid i5,Lib.hid (HTW.out _ B5),Lib.hid B5⟩
   case measure=>simp [intOf]
  ·have HC:=Lib.hid hHU.2.1
   clear hHU
   go_wp2_with (first
    | (go_at_call 69;((with_reducible refine (HC.out).mono ?_);rintro e w3 ⟨rfl,b3⟩;obtain⟨o3,i3,t3,B3,z3⟩:=HHN.out _ b3;clear y0 y1 y2))
    | (at_builtin;refine wpList_append_own _ rfl _ _ 48 rfl w.heap.size 9 i0 (.string ⟨#[]⟩) 1 16 Tryz.underlying48 hi hz0 hz1 hz2 rfl (by decide) _ 3 _ rfl (o3.alloc _) ⟨w3.heap.size,0,none⟩ 1 1 [.string (nB val)] rfl rfl (World.news_of_block (cs:=#[.string (nB val)]) (t:=9) (fr:=(0,0)) (heap_alloc_last w3 _)) (by simp [Value.oneCell']) (by unfold maxLen;omega) (by omega) (by simp;omega) ?_;intro v5 w5 o5 g5 _;have i5:=row_own (L8.row_up i3 (L8.bnew w3 (.cells #[.string (nB val)] 9))) g5 HNE.out;have B5:=(B3.alloc z3 (.cells #[.string (nB val)] 9)).grown g5 (by simp;omega) HBO.out))
   go_roundw
   case rel=>exact⟨2,_,rfl,by go_num,by omega,Lib.hid o5,Lib.hid i5,Lib.hid (HTW.out _ B5),Lib.hid B5⟩
   case measure=>simp [intOf]
  ·have HC:=Lib.hid hHU.2.2
   clear hHU
   go_wp2_with (first
    | (go_at_call 69;((with_reducible refine (HC.out).mono ?_);rintro e w3 ⟨rfl,b3⟩;obtain⟨o3,i3,t3,B3,z3⟩:=HHN.out _ b3;clear y0 y1 y2))
    | (at_builtin;refine wpList_append_own _ rfl _ _ 48 rfl w.heap.size 9 i0 (.string ⟨#[]⟩) 1 16 Tryz.underlying48 hi hz0 hz1 hz2 rfl (by decide) _ 4 _ rfl (o3.alloc _) ⟨w3.heap.size,0,none⟩ 1 1 [.string (nB ent)] rfl rfl (World.news_of_block (cs:=#[.string (nB ent)]) (t:=9) (fr:=(0,0)) (heap_alloc_last w3 _)) (by simp [Value.oneCell']) (by unfold maxLen;omega) (by omega) (by simp;omega) ?_;intro v5 w5 o5 g5 _;have i5:=row_own (L8.row_up i3 (L8.bnew w3 (.cells #[.string (nB ent)] 9))) g5 HNE.out;have B5:=(B3.alloc z3 (.cells #[.string (nB ent)] 9)).grown g5 (by simp;omega) HBO.out))
   go_roundw
   case rel=>exact⟨3,_,rfl,by go_num,by omega,Lib.hid o5,Lib.hid i5,Lib.hid (HTW.out _ B5),Lib.hid B5⟩
   case measure=>simp [intOf]
  ·obtain⟨k9,lc,rfl,hc9⟩:=own_some (m:=5) (HHN.out _ (Below.refl _ _)).1 (by decide)
   have HJO:=Lib.hid (show Calls Tryz.prog 70 #[.slice (some ⟨k9,0,none⟩) 5 lc,.string ⟨#[32]⟩] wr _ from Tryz.strings_Join k9 0 lc (deW nm key val ent) spB wr hc9.1 hc9.2.1 (by show 5≤140737488355328;omega) hc9.2.2 HJL.out)
   rw [← HJ.out] at HJO
   clear hHU
   go_wp2_with (go_at_call 70;((with_reducible refine (HJO.out).mono ?_);rintro e w3 ⟨rfl,b3⟩;obtain⟨o3,i3,t3,B3,z3⟩:=HHN.out _ b3))
   go_ret
   exact⟨rfl,B3⟩
end Go.Proofs.YtgljoilddjmohaaGreatDoor.L11
end
section
set_option maxRecDepth 100000
set_option maxHeartbeats 2000000
namespace Go.Proofs.YtgljoilddjmohaaGreatDoor.L11
open Go.RowKit
abbrev bT:TypeId:=122
abbrev bE:TypeId:=5
theorem bSize:(Tryz.prog.info? bT).map (·.size)=some 2:=by kernel_rfl
theorem bLies:liesAt Tryz.prog Tryz.prog.depth bT (2 / Tryz.prog.cellsOf bT) 0 bT 1=true:=by kernel_rfl
theorem eInfo:(Tryz.prog.info? bE).map (fun i=>(i.zero,i.size,i.bytes))=some (some (.int .u8 0),1,1):=by kernel_rfl
section
variable {B b:Nat} {bs:List Value} {w:World}
theorem ccheck_used (h0:w.cell? ⟨b,0,none⟩=some (.pointer (some ⟨b,0,none⟩))):Calls Tryz.prog 116 #[.pointer (some ⟨b,0,none⟩)] w fun e w'=>e=.returned (.tuple #[])∧w'=w:=by
 obtain⟨j,hj,_⟩:=Option.map_eq_some_iff.1 bSize
 go_enter Tryz.func116,Tryz.ntmps116
 go_wp2
 rw [Lib.run_neq_ptr_same w _ Tryz.underlying120 hj]
 go_wp2
 go_end0
 exact⟨rfl,rfl⟩
theorem ccheck_new (h0:w.cell? ⟨b,0,none⟩=some (.pointer none)) (hsh:w.shape? b=some (bT,2)) (hfz:w.frozen? ⟨b,0,none⟩=false) :
  Calls Tryz.prog 116 #[.pointer (some ⟨b,0,none⟩)] w fun e w'=>e=.returned (.tuple #[])∧w'=w.setCell ⟨b,0,none⟩ (.pointer (some ⟨b,0,none⟩)):=by
 obtain⟨j,hj,hjs⟩:=Option.map_eq_some_iff.1 bSize
 go_enter Tryz.func116,Tryz.ntmps116
 go_wp2
 rw [Lib.run_to_unsafe w ⟨b,0,none⟩ Tryz.underlying120 Tryz.underlying216 hj (by rw [hjs];decide) hsh (Nat.zero_lt_succ 1)]
 simp only [Result.andThen]
 rw [Oper.upon_value]
 go_wp2
 rw [run_callFunc_extern Tryz.func163 (by kernel_rfl) (by kernel_rfl) (by kernel_rfl) (e:=Extern.AbiNoEscape.same) (by kernel_rfl)]
 rw [Lib.run_noEscape]
 simp only [Result.andThen]
 rw [Oper.upon_value]
 go_wp2
 rw [Lib.run_from_unsafe w ⟨b,0,none⟩ Tryz.underlying216 Tryz.underlying120 hj hsh bLies]
 simp only [Result.andThen]
 rw [Oper.upon_value]
 go_wp2
 go_end0
 exact⟨rfl,rfl⟩
abbrev BdAt (B b:Nat) (bs:List Value) (w:World):Prop:=Lib.BuilderAt bT bE B b (.pointer (some ⟨b,0,none⟩)) bs w
theorem ccheck_at (h:Lib.IsBuilder bT bE B b bs w):Calls Tryz.prog 116 #[.pointer (some ⟨b,0,none⟩)] w fun e w'=>e=.returned (.tuple #[])∧BdAt B b bs w'∧Below B w w':=by
 rcases h with h|h
 ·refine (ccheck_new h.cell0 h.shape h.frozen0).mono ?_
  rintro e w' ⟨rfl,rfl⟩
  exact⟨rfl,h.used _,(Below.refl B w).setCell (p:=⟨b,0,none⟩) h.1 _⟩
 ·refine (ccheck_used h.cell0).mono ?_
  rintro e w' ⟨rfl,rfl⟩
  exact⟨rfl,h,Below.refl B _⟩
theorem bd_cells {p v:Value} (h:w.heap[b]?=some (.cells #[p,v] bT)):b<w.heap.size∧w.cell? ⟨b,0,none⟩=some p∧w.cell? ⟨b,1,none⟩=some v∧w.frozen? ⟨b,1,none⟩=false :=
 ⟨lt_of_block h,by simp [World.cell?,h],by simp [World.cell?,h],by simp [World.frozen?,h]⟩
theorem wstring_at (s:ByteArray) (h:Lib.IsBuilder bT bE B b bs w) (hl:bs.length+s.size≤140737488355328) (hB:B≤w.heap.size) :
  Calls Tryz.prog 73 #[.pointer (some ⟨b,0,none⟩),.string s] w fun e w'=>e=.returned (.tuple #[.int .i64 s.size,.nilIface])∧BdAt B b (bs++Lib.strCells s) w'∧Below B w w':=by
 obtain⟨i,hi,z0,z1,z2⟩:=info_parts eInfo
 have HC:=Lib.hid (ccheck_at h)
 clear h
 go_enter Tryz.func73,Tryz.ntmps73
 go_wp2_with (go_at_call 116;refine (HC.out).mono ?_)
 rintro e w1 ⟨rfl,h1,b1⟩
 obtain⟨g0,v,hb,ho,hne⟩:=h1
 obtain⟨q0,q1,q2,q3⟩:=bd_cells hb
 have q4:=b1.size
 go_wp2_with (at_builtin;refine Lib.wpList_append_own_string _ rfl _ _ 35 9 rfl B bE i Tryz.underlying35 Tryz.underlying9 hi z0 z1 z2 _ _ _ rfl ho s rfl (by unfold maxLen;omega) (by omega) (by omega) ?_)
 intro v2 w2 ho2 hg2 _
 have hb2:w2.heap[b]?=some (.cells #[.pointer (some ⟨b,0,none⟩),v] bT):=(hg2.block b q0 (fun e=>hne e.symm)).trans hb
 obtain⟨r0,r1,r2,r3⟩:=bd_cells hb2
 obtain⟨a3,n3,c3,rfl⟩:∃ a n c,v2=.slice a n c:=by
  rcases ho2.2 with ⟨e,_⟩|⟨_,_,_,e,_⟩ <;> exact⟨_,_,_,e⟩
 clear q1 q2 q3
 go_wp2
 go_ret2
 exact⟨rfl,Lib.BuilderAt.put g0 hb2 (bs':=bs++Lib.strCells s) (by simpa [Lib.strCells_length] using ho2) (by decide),(b1.grown hg2 (by omega) (fun k hk=>(ho.lt k hk).1)).setCell (p:=⟨b,1,none⟩) g0 _⟩
theorem wbyte_at (c:Int) (h:Lib.IsBuilder bT bE B b bs w) (hl:bs.length+1≤140737488355328) (hB:B≤w.heap.size) :
  Calls Tryz.prog 74 #[.pointer (some ⟨b,0,none⟩),.int .u8 c] w fun e w'=>e=.returned .nilIface∧BdAt B b (bs++[.int .u8 c]) w'∧Below B w w':=by
 obtain⟨i,hi,z0,z1,z2⟩:=info_parts eInfo
 have HC:=Lib.hid (ccheck_at h)
 clear h
 go_enter Tryz.func74,Tryz.ntmps74
 go_wp2_with (go_at_call 116;refine (HC.out).mono ?_)
 rintro e w1 ⟨rfl,h1,b1⟩
 obtain⟨g0,v,hb,ho,hne⟩:=h1
 obtain⟨q0,q1,q2,q3⟩:=bd_cells hb
 have q4:=b1.size
 go_wp2_with (at_builtin;refine wpList_append_own _ rfl _ _ 35 rfl B bE i (.int .u8 0) 1 1 Tryz.underlying35 hi z0 z1 z2 rfl (by decide) _ _ _ rfl (ho.alloc _) ⟨w1.heap.size,0,none⟩ 1 1 [.int .u8 c] rfl rfl ?c1 ?c2 (by unfold maxLen;omega) (by omega) (by simp;omega) ?_)
 case c1 =>
  intro j u hj
  match j,hj with
  | 0,hj=>simp at hj;subst hj;simp [Addr.add]
 case c2=>intro u hu;simp at hu;subst hu;rfl
 intro v2 w2 ho2 hg2 _
 have hb2:w2.heap[b]?=some (.cells #[.pointer (some ⟨b,0,none⟩),v] bT):=by
  rw [hg2.block b (by simp;omega) (fun e=>hne e.symm),Lib.alloc_old w1 _ b q0]
  exact hb
 obtain⟨r0,r1,r2,r3⟩:=bd_cells hb2
 obtain⟨a3,n3,c3,rfl⟩:∃ a n c,v2=.slice a n c:=by
  rcases ho2.2 with ⟨e,_⟩|⟨_,_,_,e,_⟩ <;> exact⟨_,_,_,e⟩
 clear q1 q2 q3
 go_wp2
 go_ret
 exact⟨rfl,Lib.BuilderAt.put g0 hb2 (bs':=bs++[.int .u8 c]) (by simpa using ho2) (by decide),((b1.alloc (by omega) _).grown hg2 (by simp;omega) (fun k hk=>(ho.lt k hk).1)).setCell (p:=⟨b,1,none⟩) g0 _⟩
end
end Go.Proofs.YtgljoilddjmohaaGreatDoor.L11
end
section
set_option maxRecDepth 100000
set_option maxHeartbeats 4000000
namespace Go.Proofs.YtgljoilddjmohaaGreatDoor.L11
open Go.RowKit
open L10 (Stm Pg)
attribute [local go_sem] Oper.semAt_some
theorem liT_snoc (l:List ByteArray) (t:ByteArray):(liT (l++[t])).data.toList=(liT l).data.toList++t.data.toList++[10]:=by
 rw [liT_app]
 simp [liT,lfB,L9.eB]
theorem liT_take (l:List ByteArray) (j:Nat) (h:j<l.length):(liT (l.take (j+1))).data.toList=(liT (l.take j)).data.toList++l[j].data.toList++[10]:=by
 rw [List.take_succ_eq_append_getElem h,liT_snoc]
theorem liT_le (l:List ByteArray):∀ j,(liT (l.take j)).size≤(liT l).size:=by
 intro j
 have:liT l=liT (l.take j)++liT (l.drop j):=by rw [← liT_app,List.take_append_drop]
 rw [this,ByteArray.size_append]
 omega
theorem lines_at (v:Value) (l:List ByteArray) (w:World) (hv:L8.StAt w v l) (hl:l.length≤100000000) (hs:(liT l).size≤100000000) :
  Calls Tryz.prog 38 #[v] w (fun e w'=>e=.returned (.string (liT l))∧Below w.heap.size w w'):=by
 obtain⟨n,hn⟩:∃ n,l.length=n:=⟨_,rfl⟩
 obtain⟨a,c,rfl,hc⟩:=L10.st_form hn hv
 have HC:=Lib.hid hc
 have HN:=Lib.hid hn
 have h0:=Lib.fresh_isBuilder bT bE w
 have hB0:=L8.bnew w (.cells #[.pointer none,.slice none 0 0] bT)
 rw [hn] at hl
 clear hv hc hn
 go_enter Tryz.func38,Tryz.ntmps38
 go_wp2_with (fail)
 have HI:Hid (Lib.IsBuilder bT bE w.heap.size w.heap.size (Lib.byteCells (liT (l.take 0)).data.toList) (w.alloc (.cells #[.pointer none,.slice none 0 0] bT))):=Lib.hid h0
 have HB:=Lib.hid hB0
 clear h0 hB0
 generalize w.alloc (.cells #[.pointer none,.slice none 0 0] bT)=W0 at HI HB ⊢
 go_loopw [8] (fun i wr=>∃ j:Nat,i=.int .i64 (j:Int)∧j≤n∧Hid (Lib.IsBuilder bT bE w.heap.size w.heap.size (Lib.byteCells (liT (l.take j)).data.toList) wr)∧Hid (Below w.heap.size w wr)) (fun i _=>n-(intOf i).toNat)
 case atStart=>exact⟨0,rfl,Nat.zero_le _,HI,HB⟩
 case round =>
  clear HI HB
  obtain⟨j,rfl,hj,hI,hB⟩:=hrel
  have hz:=hB.out.size
  by_cases hlt:j<n
  ·have hjl:j<l.length:=by rw [HN.out];exact hlt
   obtain⟨b,o,rfl,hb,hcc⟩:=HC.out (by omega)
   have x0:=(hB.out.cell (by exact hb)).trans (hcc j hjl)
   have ht:=liT_take l j hjl
   have hle:=liT_le l (j+1)
   obtain⟨T,hT⟩:∃ T,l[j]=T:=⟨_,rfl⟩
   rw [hT] at x0 ht
   have hsz:(liT (l.take j)).data.toList.length+T.size+1≤100000000:=by
    have e1:(liT (l.take (j+1))).size=(liT (l.take (j+1))).data.toList.length:=(L8.size_list _).symm
    rw [ht] at e1
    simp only [List.length_append,List.length_cons,List.length_nil] at e1
    have e2:=L8.size_list T
    omega
   have hbl:(Lib.byteCells (liT (l.take j)).data.toList).length=(liT (l.take j)).data.toList.length:=Lib.byteCells_length _
   have HS:=Lib.hid (wstring_at T hI.out (by rw [hbl];omega) hz)
   have HY:=Lib.hid (fun (W:World) (h:BdAt w.heap.size w.heap.size (Lib.byteCells (liT (l.take j)).data.toList++Lib.strCells T) W) (hW:w.heap.size≤W.heap.size)=>wbyte_at 10 (.inr h) (by rw [List.length_append,hbl,Lib.strCells_length];omega) hW)
   have HT:=Lib.hid ht
   have HBL:=Lib.hid hB.out
   clear hcc hjl ht hle hT hsz hbl hI hB
   go_wp2_with (first
    | (go_at_call 73;((with_reducible refine (HS.out).mono ?_);rintro e w3 ⟨rfl,h3,b3⟩;have B3:=HBL.out.trans b3;have z3:=B3.size;have H3:=Lib.hid h3;clear h3))
    | (go_at_call 74;((with_reducible refine (HY.out _ H3.out z3).mono ?_);rintro e w4 ⟨rfl,h4,b4⟩;have B4:=B3.trans b4;have H4:=Lib.hid h4;clear h4)))
   go_roundw
   case rel =>
    refine⟨j+1,by go_num,by omega,Lib.hid (.inr ?_),Lib.hid B4⟩
    rw [HT.out,Lib.byteCells_append,Lib.byteCells_append]
    exact H4.out
   case measure=>simp [intOf];omega
  ·obtain rfl:j=n:=by omega
   have hI2:=hI.out
   rw [List.take_of_length_le (by rw [HN.out];exact Nat.le_refl _)] at hI2
   have HS:=Lib.hid (Tryz.Builder_String_any w.heap.size w.heap.size _ _ hI2 hz)
   have e:(⟨(liT l).data.toList.toArray⟩:ByteArray)=liT l:=by simp
   rw [e] at HS
   clear hI2 e
   go_wp2_with (go_at_call 75;((with_reducible refine (HS.out).mono ?_);rintro e w3 ⟨rfl,b3⟩))
   go_ret
   exact⟨rfl,hB.out.trans b3⟩
end Go.Proofs.YtgljoilddjmohaaGreatDoor.L11
end
section
set_option maxRecDepth 100000
set_option maxHeartbeats 16000000
namespace Go.Proofs.YtgljoilddjmohaaGreatDoor.L11
open Go.RowKit
open L10 (Stm Pg)
attribute [local go_sem] Oper.semAt_some
theorem rng_of {f imm:Int} (h:L4.rng f imm=true):-9223372036854775808≤imm∧imm≤9223372036854775807:=by
 unfold L4.rng at h
 split at h
 ·simp only [Bool.and_eq_true,decide_eq_true_eq] at h;omega
 split at h
 ·simp only [Bool.and_eq_true,decide_eq_true_eq] at h;omega
 split at h
 ·have e:(imm+9223372036854775808) % 18446744073709551616-9223372036854775808=imm:=by simpa [L1.sx] using h
  omega
 ·have e:(imm+2147483648) % 4294967296-2147483648=imm:=by simpa [L1.sx] using h
  omega
theorem vd_32 {t:ByteArray} (h:L2.vd t=true):t.size≤32:=by
 unfold L2.vd at h
 simp only [Bool.and_eq_true,decide_eq_true_eq] at h
 exact h.1.1.1.2
structure SOk (s:Stm):Prop where
 rng:Rng s.x.off s.x.imm
 tg:s.tg.size≤1000
 mp:s.mp.size≤1000
 lb:∀ t∈s.labs,t.size≤32
theorem stE_ok (s:Stm) (h:L10.stE s=0):SOk s:=by
 obtain⟨labs,⟨op,reg,dst,src,off,imm⟩,tg,mp⟩:=s
 unfold L10.stE at h
 dsimp only at h
 split at h
 ·rename_i hl
  split at h
  ·rename_i hc
   split at h
   ·cases h
   ·rename_i hb
    split at h
    ·cases h
    ·rename_i hn
     have hb':L10.badF ⟨labs,⟨op,reg,dst,src,off,imm⟩,tg,mp⟩=false:=by simpa using hb
     have hn':L10.badN ⟨labs,⟨op,reg,dst,src,off,imm⟩,tg,mp⟩=false:=by simpa using hn
     simp only [L10.badF,L10.badN,L10.jmI,L10.rfI,L10.fmI,Bool.or_eq_false_iff] at hb' hn'
     obtain⟨⟨⟨b1,b2⟩,b3⟩,b4⟩:=hb'
     obtain⟨n1,n2⟩:=hn'
     obtain⟨_,_,_,_,_,_,_,_,c9,c10⟩:=chk_all hc
     have e16:(off+32768) % 65536-32768=off:=c9
     obtain⟨i0,i1⟩:=rng_of c10
     refine⟨⟨by show (-9223372036854775808:Int)≤off;omega,by show off≤9223372036854775807;omega,i0,i1⟩,?_,?_,fun t ht=>vd_32 (List.all_eq_true.1 hl t ht)⟩
     ·show tg.size≤1000
      cases hj:L4.jmpF (L3.frm (L3.ix op))
      ·rw [hj] at b3
       rw [show tg=L9.eB from emp (by simpa using b3)];decide
      ·rw [hj] at n1
       have:=vd_32 (t:=tg) (by simpa using n1)
       omega
     ·show mp.size≤1000
      cases hj:(L3.frm (L3.ix op)==11)
      ·rw [hj] at b4
       rw [show mp=L9.eB from emp (by simpa using b4)];decide
      ·rw [hj] at n2
       have:=vd_32 (t:=mp) (by simpa using n2)
       omega
  ·rename_i hc
   exact absurd h hc
 ·cases h
structure DOk (d:L9.Df):Prop where
 rng:DRng d.key d.val d.ent
 nm:d.nm.size≤1000
theorem deE_ok (d:L9.Df) (h:L10.deE d=0):DOk d:=by
 obtain⟨hv,⟨k0,k1⟩,⟨v0,v1⟩,e0,e1⟩:=deE_of h
 have:=vd_32 hv
 exact⟨⟨by omega,by omega,by omega,by omega,by omega,by omega⟩,by omega⟩
theorem map_take {α β:Type} (f:α→β) (l:List α) (j:Nat) (h:j<l.length):(l.take (j+1)).map f=(l.take j).map f++[f l[j]]:=by
 rw [List.take_succ_eq_append_getElem h,List.map_append];rfl
theorem flat_take {α β:Type} (f:α→List β) (l:List α) (j:Nat) (h:j<l.length):(l.take (j+1)).flatMap f=(l.take j).flatMap f++f l[j]:=by
 rw [List.take_succ_eq_append_getElem h,List.flatMap_append];simp
theorem own_snoc {w:World} {B n:Nat} {v:Value} {l:List ByteArray} {x:ByteArray} (h:w.ownsRow B sE 1 v (n+1) (L8.stC l++[.string x])):OwT w B v (n+1) (l++[x]):=by
 show w.ownsRow B sE 1 v (n+1) (L8.stC (l++[x]))
 rw [L8.stC_snoc]
 exact h
structure Room (p:Pg):Prop where
 maps:p.maps.length≤100000
 stmts:p.stmts.length≤100000
 labs:∀ s∈p.stmts,s.labs.length≤100000
 len:(lnT p).length≤100000000
 size:(pgT p).size≤100000000
abbrev pgA (vm vs:Value):Obj:=.cells #[vm,vs] 25
theorem program_ok (vm vs:Value) (p:Pg) (w:World) (hp:L10.PgAt w vm vs p) (hf:L10.Fits p) (hT:Tb w) (hr:Room p) (h:(L10.brV p).2.2=0) :
  Calls Tryz.prog 16 #[.agg #[vm,vs]] w (fun e w'=>e=.returned (.string (pgT p))∧Below w.heap.size w w'):=by
 obtain⟨i0,hi,hz0,hz1,hz2⟩:=info_parts L8.Tryz.info9
 obtain⟨b,k,er,hbr⟩:∃ b k er,L10.brV p=(b,k,er):=⟨_,_,_,rfl⟩
 obtain⟨h1,h2⟩:=brV_parts h
 rw [hbr] at h
 have h':er=0:=h
 subst h'
 obtain⟨n1,hn1⟩:∃ n,p.maps.length=n:=⟨_,rfl⟩
 obtain⟨n2,hn2⟩:∃ n,p.stmts.length=n:=⟨_,rfl⟩
 have hB0:=L8.bnew w (pgA vm vs)
 have hp0:=hp.below hB0
 have hT0:=hT.below hB0
 have HC:=Lib.hid (L10.check_at vm vs p _ hp0 hf hT0.two b k 0 hbr)
 obtain⟨a1,c1,rfl,hc1⟩:=L10.df_form4 hn1 hp0.1
 obtain⟨a2,c2,rfl,hc2⟩:=L10.sm_form hn2 hp0.2
 have hK0:=heap_alloc_last w (pgA (.slice a1 n1 c1) (.slice a2 n2 c2))
 have hm1:=hr.maps
 have hm2:=hr.stmts
 rw [hn1] at hm1
 rw [hn2] at hm2
 have HN1:=Lib.hid hn1
 have HN2:=Lib.hid hn2
 have HC1:=Lib.hid hc1
 have HC2:=Lib.hid hc2
 have HR:=Lib.hid hr
 have HD:=Lib.hid (fun (d:L9.Df) (hd:d∈p.maps) (W:World) (hW:Tb W)=>declaration_at d.nm d.key d.val d.ent W hW (deE_ok d (h1 d hd)).rng (deE_ok d (h1 d hd)).nm)
 have HS:=Lib.hid (fun (s:Stm) (hs:s∈p.stmts)=>stE_ok s (h2 s hs))
 have HB0:=Lib.hid hB0
 have HT0:=Lib.hid hT0
 clear hp hf hT h hbr hn1 hn2 hp0 hc1 hc2 hr h1 h2 hT0 hB0
 go_enter Tryz.func16,Tryz.ntmps16
 go_upto_region 1 with (fail)
 generalize w.alloc (pgA (.slice a1 n1 c1) (.slice a2 n2 c2))=W0 at hK0 HC HC1 HC2 HB0 HT0 ⊢
 generalize hgk:w.heap.size=k1 at hK0 ⊢
 have hsz0:=HB0.out.size
 obtain⟨x0,x1⟩:=L10.cells2p hK0
 go_upto_region 5 with (go_at_call 35;((with_reducible refine (HC.out).mono ?_);rintro e w1 ⟨rfl,b1⟩;have hK1:=L8.row_up hK0 b1;obtain⟨y0,y1⟩:=L10.cells2p hK1))
 have HK0:=Lib.hid hK0
 have HB1:=Lib.hid b1
 have HO0:Hid (OwT w1 W0.heap.size (.slice none 0 0) 0 ((p.maps.take 0).map deT)):=Lib.hid (World.ownsRow_nil _ _ _ _)
 clear x0 x1 hK0 hK1 b1 HC
 go_wp2_with (fail)
 clear y0 y1
 go_loopw [5,22] (fun us i wr=>∃ (j:Nat) (u:Value),u=us∧i=.int .i64 (j:Int)∧j≤n1∧Hid (OwT wr W0.heap.size u j ((p.maps.take j).map deT))∧Hid (Below W0.heap.size W0 wr)) (fun _ i _=>n1-(intOf i).toNat)
 case atStart=>exact⟨0,_,rfl,rfl,Nat.zero_le _,HO0,HB1⟩
 case round =>
  clear HO0 HB1
  obtain⟨j,u,rfl,rfl,hj,hO,hB⟩:=hrel
  have hz:=hB.out.size
  by_cases hlt:j<n1
  ·have hjl:j<p.maps.length:=by rw [HN1.out];exact hlt
   obtain⟨b,o,rfl,hbl,hcc⟩:=HC1.out (by omega)
   obtain⟨q0,q1,q2,q3⟩:=hcc j hjl
   have x0:=(hB.out.cell (by exact hbl)).trans q0
   have x1:=(hB.out.cell (by exact hbl)).trans q1
   have x2:=(hB.out.cell (by exact hbl)).trans q2
   have x3:=(hB.out.cell (by exact hbl)).trans q3
   have hlb:=World.block_lt_of_cell? _ _ x0
   simp only at hlb
   have hmt:=map_take deT p.maps j hjl
   have hDj:=HD.out p.maps[j] (List.getElem_mem hjl)
   obtain⟨d,hd⟩:∃ d,p.maps[j]=d:=⟨_,rfl⟩
   rw [hd] at x0 x1 x2 x3 hmt hDj
   have HDJ:=Lib.hid hDj
   have HM:=Lib.hid hmt
   have hbA:=L8.bnew wr (.cells #[.string d.nm,.int .i64 d.key,.int .i64 d.val,.int .i64 d.ent] 70)
   have HTA:=Lib.hid (HT0.out.below (L2.bch hB.out hbA))
   have HOA:=Lib.hid (L8.own_below hO.out hbA)
   have HBA:=Lib.hid (L2.bch hB.out hbA)
   have HOB:=Lib.hid (L8.own_base hO.out)
   clear q0 q1 q2 q3 hcc hjl hmt hDj hd hbA hO
   go_wp2_with (first
    | (go_at_call 36;((with_reducible refine (HDJ.out _ HTA.out).mono ?_);rintro e w3 ⟨rfl,b3⟩;have o3:=L8.own_below HOA.out b3;have B3:=L2.bch HBA.out b3;have z3:=B3.size))
    | (at_builtin;refine wpList_append_own _ rfl _ _ 48 rfl W0.heap.size 9 i0 (.string ⟨#[]⟩) 1 16 Tryz.underlying48 hi hz0 hz1 hz2 rfl (by decide) _ j _ rfl (o3.alloc _) ⟨w3.heap.size,0,none⟩ 1 1 [.string (deT d)] rfl rfl (World.news_of_block (cs:=#[.string (deT d)]) (t:=9) (fr:=(0,0)) (heap_alloc_last w3 _)) (by simp [Value.oneCell']) (by unfold maxLen;omega) (by omega) (by simp;omega) ?_;intro v5 w5 o5 g5 _;have B5:=(B3.alloc z3 (.cells #[.string (deT d)] 9)).grown g5 (by simp;omega) HOB.out))
   go_roundw
   case rel=>exact⟨j+1,_,rfl,by go_num,by omega,Lib.hid (by rw [HM.out];exact own_snoc o5),Lib.hid B5⟩
   case measure=>simp [intOf];omega
  ·obtain rfl:j=n1:=by omega
   have hO1:=hO.out
   rw [List.take_of_length_le (by rw [HN1.out];exact Nat.le_refl _)] at hO1
   have HO1:Hid (OwT wr W0.heap.size u j (p.maps.map deT++(p.stmts.take 0).flatMap slT)):=Lib.hid (by rw [List.take_zero,List.flatMap_nil,List.append_nil];exact hO1)
   have HB1:=hB
   obtain⟨x0,x1⟩:=L10.cells2p (L8.row_up HK0.out hB.out)
   clear hO hO1 hB HD HC1 hlt hz
   go_wp2_with (fail)
   clear x0 x1
   go_loopw [5,35] (fun us i wr=>∃ (k:Nat) (u:Value) (m:Nat),u=us∧i=.int .i64 (k:Int)∧k≤n2∧m≤j+k*100001∧Hid (OwT wr W0.heap.size u m (p.maps.map deT++(p.stmts.take k).flatMap slT))∧Hid (Below W0.heap.size W0 wr)) (fun _ i _=>n2-(intOf i).toNat)
   case atStart=>exact⟨0,_,j,rfl,rfl,Nat.zero_le _,by omega,HO1,HB1⟩
   case round =>
    clear HO1 HB1
    obtain⟨k,u,m,rfl,rfl,hk,hmk,hO,hB⟩:=hrel
    have hz:=hB.out.size
    by_cases hlt:k<n2
    ·have hkl:k<p.stmts.length:=by rw [HN2.out];exact hlt
     obtain⟨b,o,rfl,hbl,hcc⟩:=HC2.out (by omega)
     obtain⟨lv,hst,hx⟩:=hcc k hkl
     have x0:=(hB.out.cell (by exact hbl)).trans (hx 0 _ rfl)
     have x1:=(hB.out.cell (by exact hbl)).trans (hx 1 _ rfl)
     have x2:=(hB.out.cell (by exact hbl)).trans (hx 2 _ rfl)
     have x3:=(hB.out.cell (by exact hbl)).trans (hx 3 _ rfl)
     have x4:=(hB.out.cell (by exact hbl)).trans (hx 4 _ rfl)
     have x5:=(hB.out.cell (by exact hbl)).trans (hx 5 _ rfl)
     have x6:=(hB.out.cell (by exact hbl)).trans (hx 6 _ rfl)
     have x7:=(hB.out.cell (by exact hbl)).trans (hx 7 _ rfl)
     have x8:=(hB.out.cell (by exact hbl)).trans (hx 8 _ rfl)
     rw [Nat.add_zero] at x0
     have hlb:=World.block_lt_of_cell? _ _ x0
     simp only at hlb
     have hmt:=flat_take slT p.stmts k hkl
     have hSk:=HS.out p.stmts[k] (List.getElem_mem hkl)
     have hll:=HR.out.labs p.stmts[k] (List.getElem_mem hkl)
     obtain⟨s,hs⟩:∃ s,p.stmts[k]=s:=⟨_,rfl⟩
     rw [hs] at x1 x2 x3 x4 x5 x6 x7 x8 hmt hSk hst hll
     obtain⟨ln,hln⟩:∃ ln,s.labs.length=ln:=⟨_,rfl⟩
     obtain⟨la,lc,rfl,hla⟩:=L10.st_form hln hst
     rw [hln] at hll
     obtain⟨L,hL⟩:∃ L,p.maps.map deT++(p.stmts.take k).flatMap slT=L:=⟨_,rfl⟩
     have hmt2:p.maps.map deT++(p.stmts.take (k+1)).flatMap slT=(L++s.labs.map (·++L9.tCol))++[smT s]:=by
      rw [hmt,← List.append_assoc,hL]
      unfold slT
      rw [← List.append_assoc]
     rw [hL] at hO
     have HM:=Lib.hid hmt2
     have HLA:=Lib.hid hla
     have HLN:=Lib.hid hln
     have HLB:=Lib.hid hSk.lb
     have HIN:=Lib.hid (fun W hW=>instruction_at (.slice la ln lc) s.x.op s.x.reg s.x.dst s.x.src s.x.off s.x.imm s.tg s.mp W hW ⟨la,ln,lc,rfl⟩ hSk.rng hSk.tg hSk.mp)
     have hS:=heap_alloc_last wr (.cells (stA (.slice la ln lc) s.x.op s.x.reg s.x.dst s.x.src s.x.off s.x.imm s.tg s.mp) 52)
     have hbA:=L8.bnew wr (.cells (stA (.slice la ln lc) s.x.op s.x.reg s.x.dst s.x.src s.x.off s.x.imm s.tg s.mp) 52)
     have HBA:=Lib.hid (L2.bch hB.out hbA)
     have HOA:Hid (OwT (wr.alloc (.cells (stA (.slice la ln lc) s.x.op s.x.reg s.x.dst s.x.src s.x.off s.x.imm s.tg s.mp) 52)) W0.heap.size u m (L++(s.labs.take 0).map (·++L9.tCol))):=Lib.hid (by rw [List.take_zero,List.map_nil,List.append_nil];exact L8.own_below hO.out hbA)
     clear hmt hmt2 hSk hs hL hx hst hcc hkl hla hln hO hB hbA
     go_upto_region 13 with (fail)
     generalize wr.alloc (.cells (stA (.slice la ln lc) s.x.op s.x.reg s.x.dst s.x.src s.x.off s.x.imm s.tg s.mp) 52)=WA at hS HBA HOA ⊢
     generalize wr.heap.size=g at hS ⊢
     clear x0 x1 x2 x3 x4 x5 x6 x7 x8 hlb
     obtain⟨x0,x1,x2,x3,x4,x5,x6,x7,x8⟩:=cl9 hS
     have HSR:=Lib.hid hS
     clear hS
     go_wp2_with (fail)
     clear x0 x1 x2 x3 x4 x5 x6 x7 x8
     go_loopw [5,42] (fun us ix wi=>∃ (i:Nat) (u:Value) (q:Nat),u=us∧ix=.int .i64 (i:Int)∧i≤ln∧q≤m+i∧Hid (OwT wi W0.heap.size u q (L++(s.labs.take i).map (·++L9.tCol)))∧Hid (wi.heap[g]?=some (.cells (stA (.slice la ln lc) s.x.op s.x.reg s.x.dst s.x.src s.x.off s.x.imm s.tg s.mp) 52))∧Hid (Below W0.heap.size W0 wi)) (fun _ ix _=>ln-(intOf ix).toNat)
     case atStart=>exact⟨0,_,m,rfl,rfl,Nat.zero_le _,by omega,HOA,HSR,HBA⟩
     case round =>
      clear HOA HSR HBA
      obtain⟨i,u,q,rfl,rfl,hii,hqi,hO,hS,hB⟩:=hrel
      have hz:=hB.out.size
      have hown:=hO.out
      have HNE:=Lib.hid (Lib.ownBlock_ne hown hS.out (by decide))
      have HOB:=Lib.hid (L8.own_base hown)
      by_cases hlt3:i<ln
      ·have hil:i<s.labs.length:=by rw [HLN.out];exact hlt3
       obtain⟨bb,oo,rfl,hbb,hcc⟩:=HLA.out (by omega)
       have z0:=(hB.out.cell (by exact hbb)).trans (hcc i hil)
       have hlb:=World.block_lt_of_cell? _ _ z0
       simp only at hlb
       have hmt:=map_take (·++L9.tCol) s.labs i hil
       have hsT:=HLB.out s.labs[i] (List.getElem_mem hil)
       obtain⟨T,hT⟩:∃ T,s.labs[i]=T:=⟨_,rfl⟩
       rw [hT] at z0 hmt hsT
       have HMT:=Lib.hid hmt
       have e1:L9.tCol.size=1:=rfl
       have s1:(T++(⟨#[58]⟩:ByteArray)).size≤1000:=by show (T++L9.tCol).size≤1000;rw [ByteArray.size_append,e1];omega
       have HS2:=Lib.hid (fun (v5:Value) (w5:World) (g5:(wr.alloc (.cells #[.string (T++(⟨#[58]⟩:ByteArray))] 9)).grownBy w5 u.ownBlock)=>row_own (L8.row_up hS.out (L8.bnew wr (.cells #[.string (T++(⟨#[58]⟩:ByteArray))] 9))) g5 HNE.out)
       have HBO:=Lib.hid hB.out
       clear hmt hT hcc hil hO hS hB
       go_wp2_with (first
        | (at_builtin;refine wpList_append_own _ rfl _ _ 48 rfl W0.heap.size 9 i0 (.string ⟨#[]⟩) 1 16 Tryz.underlying48 hi hz0 hz1 hz2 rfl (by decide) _ q _ rfl (hown.alloc _) ⟨wr.heap.size,0,none⟩ 1 1 [.string (T++(⟨#[58]⟩:ByteArray))] rfl rfl (World.news_of_block (cs:=#[.string (T++(⟨#[58]⟩:ByteArray))]) (t:=9) (fr:=(0,0)) (heap_alloc_last wr _)) (by simp [Value.oneCell']) (by unfold maxLen;omega) (by omega) (by simp;omega) ?_;intro v5 w5 o5 g5 _;have B5:=(HBO.out.alloc hz (.cells #[.string (T++(⟨#[58]⟩:ByteArray))] 9)).grown g5 (by simp;omega) HOB.out;have r5:=HS2.out v5 w5 g5))
       go_roundw
       case rel=>exact⟨i+1,_,q+1,rfl,by go_num,by omega,by omega,Lib.hid (by rw [HMT.out,← List.append_assoc];exact own_snoc o5),Lib.hid r5,Lib.hid B5⟩
       case measure=>simp [intOf];omega
      ·obtain rfl:i=ln:=by omega
       obtain⟨x0,x1,x2,x3,x4,x5,x6,x7,x8⟩:=cl9 hS.out
       have HTA:=Lib.hid (HT0.out.below hB.out)
       have HOA:=Lib.hid hown
       have HBA:=Lib.hid hB.out
       have hlnl:(s.labs.take i)=s.labs:=List.take_of_length_le (by rw [HLN.out];exact Nat.le_refl _)
       rw [hlnl] at HOA
       clear hown hO hS hB hlnl HNE
       go_wp2_with (first
        | (go_at_call 37;((with_reducible refine (HIN.out _ HTA.out).mono ?_);rintro e w3 ⟨rfl,b3⟩;have o3:=L8.own_below HOA.out b3;have B3:=L2.bch HBA.out b3;have z3:=B3.size))
        | (at_builtin;refine wpList_append_own _ rfl _ _ 48 rfl W0.heap.size 9 i0 (.string ⟨#[]⟩) 1 16 Tryz.underlying48 hi hz0 hz1 hz2 rfl (by decide) _ q _ rfl (o3.alloc _) ⟨w3.heap.size,0,none⟩ 1 1 [.string (inT ⟨s.x.op,s.x.reg,s.x.dst,s.x.src,s.x.off,s.x.imm⟩ s.tg s.mp)] rfl rfl (World.news_of_block (cs:=#[.string (inT ⟨s.x.op,s.x.reg,s.x.dst,s.x.src,s.x.off,s.x.imm⟩ s.tg s.mp)]) (t:=9) (fr:=(0,0)) (heap_alloc_last w3 _)) (by simp [Value.oneCell']) (by unfold maxLen;omega) (by omega) (by simp;omega) ?_;intro v5 w5 o5 g5 _;have B5:=(B3.alloc z3 (.cells #[.string (inT ⟨s.x.op,s.x.reg,s.x.dst,s.x.src,s.x.off,s.x.imm⟩ s.tg s.mp)] 9)).grown g5 (by simp;omega) HOB.out))
       go_roundw
       case rel=>exact⟨k+1,_,q+1,rfl,by go_num,by omega,by omega,Lib.hid (by rw [HM.out];exact own_snoc o5),Lib.hid B5⟩
       case measure=>simp [intOf];omega
    ·obtain rfl:k=n2:=by omega
     have hO1:=hO.out
     rw [List.take_of_length_le (by rw [HN2.out];exact Nat.le_refl _)] at hO1
     have hO2:OwT wr W0.heap.size u m (lnT p):=hO1
     have hml:m=(lnT p).length:=by
      have:=hO2.1
      simp only [L8.stC,List.length_map] at this
      omega
     subst hml
     have HL:=Lib.hid (lines_at u (lnT p) wr (L8.own_st hO2) HR.out.len HR.out.size)
     have HBF:=Lib.hid (L2.bch HB0.out hB.out)
     clear hO hO1 hO2 hB
     go_wp2_with (go_at_call 38;((with_reducible refine (HL.out).mono ?_);rintro e w3 ⟨rfl,b3⟩))
     go_ret
     exact⟨rfl,L2.bch HBF.out b3⟩
end Go.Proofs.YtgljoilddjmohaaGreatDoor.L11
end
