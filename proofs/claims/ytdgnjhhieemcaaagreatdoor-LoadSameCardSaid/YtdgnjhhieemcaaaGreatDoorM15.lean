/- Lemmas and walks of L9Rdef, L9Nxt, L5Enc, L5Encm, L5Enca: what each theorem states; conditions stand in each theorem. -/
import Derived.Test.YtdgnjhhieemcaaaGreatDoorM14
import Derived.Test.YtdgnjhhieemcaaaGreatDoorM13
import Derived.Test.YtdgnjhhieemcaaaGreatDoorL5Fld
import Derived.Deep.OwnRows
set_option maxHeartbeats 4000000
set_option maxRecDepth 100000
section
namespace Go.Proofs.YtdgnjhhieemcaaaGreatDoor.L9
open Go.RowKit
attribute [local go_sem] Oper.semAt_some
theorem frozen_all {w:World} {k:Nat} {cs:Array Value} {t:TypeId} (h:w.heap[k]?=some (.cells cs t)) (i:Nat):w.frozen? ⟨k,i,none⟩=false:=by simp [World.frozen?,h]
theorem cells3 {w:World} {k:Nat} {a b c:Value} {t:TypeId} (h:w.heap[k]?=some (.cells #[a,b,c] t)):w.cell? ⟨k,0,none⟩=some a∧w.cell? ⟨k,1,none⟩=some b∧w.cell? ⟨k,2,none⟩=some c:=by
 simp [World.cell?,h]
theorem cells4 {w:World} {k:Nat} {a b c d:Value} {t:TypeId} (h:w.heap[k]?=some (.cells #[a,b,c,d] t)):w.cell? ⟨k,0,none⟩=some a∧w.cell? ⟨k,1,none⟩=some b∧w.cell? ⟨k,2,none⟩=some c∧w.cell? ⟨k,3,none⟩=some d:=by
 simp [World.cell?,h]
theorem row_up {w w':World} {k:Nat} {cs:Array Value} {t:TypeId} (h:w.heap[k]?=some (.cells cs t)) (hb:Below w.heap.size w w'):w'.heap[k]?=some (.cells cs t):=(hb.block _ (lt_of_block h)).trans h
theorem row_set {w:World} {k:Nat} {cs:Array Value} {t:TypeId} (h:w.heap[k]?=some (.cells cs t)) (i:Nat) (v:Value):(w.setCell ⟨k,i,none⟩ v).heap[k]?=some (.cells (cs.setIfInBounds i v) t):=by
 have hlt:=lt_of_block h
 have h':w.heap[k]=.cells cs t:=by simpa [Array.getElem?_eq_getElem hlt] using h
 show (w.heap.modify k _)[k]?=_
 rw [Array.getElem?_eq_getElem (by simpa using hlt),Array.getElem_modify_self,h']
 rfl
theorem row_other {w:World} {k g:Nat} {o:Option Obj} (h:w.heap[k]?=o) (i:Nat) (v:Value) (hne:k≠g):(w.setCell ⟨g,i,none⟩ v).heap[k]?=o:=by
 rw [← h]
 show (w.heap.modify g _)[k]?=_
 simp [Array.getElem?_modify,Ne.symm hne]
theorem shp_txs (xs:L8.Tks):L8.shB xs=shpB (txs xs):=by
 unfold L8.shB shpB txs L8.txt
 rw [List.map_map];rfl
theorem cells9 {w:World} {k:Nat} {a b c d e f g h i:Value} {t:TypeId} (hh:w.heap[k]?=some (.cells #[a,b,c,d,e,f,g,h,i] t)) :
  w.cell? ⟨k,0,none⟩=some a∧w.cell? ⟨k,1,none⟩=some b∧w.cell? ⟨k,2,none⟩=some c∧w.cell? ⟨k,3,none⟩=some d∧w.cell? ⟨k,4,none⟩=some e∧w.cell? ⟨k,5,none⟩=some f∧w.cell? ⟨k,6,none⟩=some g∧w.cell? ⟨k,7,none⟩=some h∧w.cell? ⟨k,8,none⟩=some i:=by
 simp [World.cell?,hh]
abbrev rdC (v:Value) (x:Ins) (tg mp:ByteArray):Array Value:=#[v,.int .i64 x.op,.bool x.reg,.int .i64 x.dst,.int .i64 x.src,.int .i64 x.off,.int .i64 x.imm,.string tg,.string mp]
def RdAt (B g:Nat) (w:World) (s:St):Prop:=∃ (b o n cap:Nat) (xs:L8.Tks),b<B∧B≤g∧n≤cap∧xs.length=n∧n≤100000∧txs xs=s.rest∧(∀ t∈s.rest,t.size≤100000)∧L8.Tksat w b o xs∧w.heap[g]?=some (.cells (rdC (.slice (some ⟨b,o,none⟩) n cap) s.x s.tg s.mp) 327)
theorem gr_refl (w:World) (r:Option Nat):w.grownBy w r:=⟨rfl,rfl,rfl,Nat.le_refl _,fun _ _ _=>rfl⟩
theorem gr_trans {a b c:World} {g:Nat} (h:a.grownBy b (some g)) (k:b.grownBy c (some g)):a.grownBy c (some g) :=
 ⟨k.os.trans h.os,k.tape.trans h.tape,k.output.trans h.output,Nat.le_trans h.size k.size,fun i hi hn=>(k.block i (Nat.lt_of_lt_of_le hi h.size) hn).trans (h.block i hi hn)⟩
theorem gr_below {a b:World} {g:Nat} (h:Below a.heap.size a b):a.grownBy b (some g):=⟨h.os,h.tape,h.output,h.size,fun i hi _=>h.block i hi⟩
theorem gr_set {a b:World} {g:Nat} (h:a.grownBy b (some g)) (i:Nat) (v:Value):a.grownBy (b.setCell ⟨g,i,none⟩ v) (some g) :=
 gr_trans h ⟨rfl,rfl,rfl,by simp [World.setCell],fun k _ hn=>Below.heap_setCell _ _ _ _ (by simpa using hn)⟩
theorem tks_gr {a b:World} {g k o:Nat} {xs:L8.Tks} (h:L8.Tksat a k o xs) (hk:k≠g) (hl:k<a.heap.size) (hg:a.grownBy b (some g)):L8.Tksat b k o xs :=
 fun j hj=>⟨(World.cell?_of_block (hg.block k hl (by simpa using hk))).trans (h j hj).1,(World.cell?_of_block (hg.block k hl (by simpa using hk))).trans (h j hj).2⟩
theorem sub_from (k o n cap a:Nat) (h:a≤n) (hc:n≤cap) (w:World) :
  (Instr.slice 267 (.slice (some ⟨k,o,none⟩) n cap) (some (.int .i64 (a:Int))) none none).run Tryz.prog w=.ok (.slice (some ⟨k,if cap=a then o else o+a*2,none⟩) (n-a) (cap-a)) w:=by
 have h2:a≤cap:=by omega
 by_cases hq:cap=a <;> simp [go_sem,Tryz.underlying267,h,hq]
theorem tks_from {w:World} {b o n cap a:Nat} {xs:L8.Tks} (hx:L8.Tksat w b o xs) (hn:xs.length=n) (hc:n≤cap) (ha:a≤n):L8.Tksat w b (if cap=a then o else o+a*2) (xs.drop a):=by
 intro j hj
 rw [List.length_drop,hn] at hj
 rw [if_neg (by omega)]
 have:=hx (a+j) (by omega)
 rw [show o+a*2+j*2=o+(a+j)*2 by omega]
 simpa using this
theorem nx_step (sg:ByteArray) (l:List ByteArray) (j:Nat) (h:j<l.length):nx sg (l.drop j)=if brk l[j] then nx (if l[j]=tMin then tMin else sg) (l.drop (j+1)) else (sg++l[j],l.drop (j+1)):=by
 rw [List.drop_eq_getElem_cons h,nx]
theorem hasW_drop (l:List ByteArray) (j:Nat) (h:j<l.length):hasW (l.drop j)=(!brk l[j] || hasW (l.drop (j+1))):=by
 rw [List.drop_eq_getElem_cons h];rfl
theorem next_at (B g:Nat) (s:St) (w:World) (h:RdAt B g w s) (hw:hasW s.rest=true) (p:ByteArray) (q:List ByteArray) (hp:nx eB s.rest=(p,q)) :
  Calls Tryz.prog 297 #[.pointer (some ⟨g,0,none⟩)] w fun e w'=>e=.returned (.string p)∧RdAt B g w' ⟨q,s.x,s.tg,s.mp⟩∧w.grownBy w' (some g):=by
 obtain⟨b,o,n,cap,xs,hbB,hBg,hcp,hn,hm,htx,hsz,hc,hr⟩:=h
 have hgl:=lt_of_block hr
 have hbg:b≠g:=by omega
 have hbl:b<w.heap.size:=by omega
 rw [← htx] at hw hp
 have HC:=Lib.hid hc
 have HN:=Lib.hid hn
 have HTX:=Lib.hid htx
 have HSZ:=Lib.hid hsz
 have HP:=Lib.hid hp
 have HR:=Lib.hid hr
 obtain⟨r0,r1,r2,r3,r4,r5,r6,r7,r8⟩:=cells9 hr
 clear r1 r2 r3 r4 r5 r6 r7 r8
 clear hc hn htx hsz hp hr
 go_enter Tryz.func297,Tryz.ntmps297
 go_wp2
 clear r0
 go_loopw [3,11] (fun sv a wr=>∃ (j:Nat) (t:ByteArray),a=.int .i64 (j:Int)∧j≤n∧sv=.string t∧t.size≤1∧Hid (nx t ((txs xs).drop j)=(p,q))∧Hid (hasW ((txs xs).drop j)=true)∧Below w.heap.size w wr) (fun _ a _=>n-(intOf a).toNat)
 case atStart=>exact⟨0,⟨#[]⟩,rfl,Nat.zero_le _,rfl,by decide,HP,Lib.hid hw,Below.refl _ _⟩
 case round =>
  obtain⟨j,t,rfl,hj,rfl,hts,hX,hW,hB⟩:=hrel
  have hlt:j<n:=by
   by_cases hlt:j<n
   ·exact hlt
   ·have:=hW.out
    rw [List.drop_eq_nil_of_le (by rw [txs,List.length_map,HN.out];omega)] at this
    cases this
  have hjx:j<xs.length:=by rw [HN.out];exact hlt
  have hjt:j<(txs xs).length:=by rw [txs,List.length_map];exact hjx
  have hcw:=HC.out.below hbl hB
  obtain⟨c0,c1⟩:=hcw j hjx
  obtain⟨T,hT⟩:∃ T,xs[j].1=T:=⟨_,rfl⟩
  obtain⟨P,hP⟩:∃ P,xs[j].2=P:=⟨_,rfl⟩
  have hjT:(txs xs)[j]=T:=by rw [← hT];simp [txs]
  rw [hT] at c0
  rw [hP] at c1
  have hx1:=hX.out
  rw [nx_step t (txs xs) j hjt,hjT] at hx1
  have hw1:=hW.out
  rw [hasW_drop (txs xs) j hjt,hjT] at hw1
  have hTs:T.size≤100000:=HSZ.out T (by rw [← HTX.out,← hjT];exact List.getElem_mem _)
  have hgw:wr.heap[g]?=some (.cells (rdC (.slice (some ⟨b,o,none⟩) n cap) s.x s.tg s.mp) 327):=(hB.block g hgl).trans HR.out
  obtain⟨r0,r1,r2,r3,r4,r5,r6,r7,r8⟩:=cells9 hgw
  have fz:=frozen_all hgw 0
  have hbs:=hB.size
  have hg2:g<wr.heap.size:=by omega
  clear r1 r2 r3 r4 r5 r6 r7 r8 hT hP hjT hcw hX hW
  rcases brk_bits T with ⟨hk,⟨hne,hbits⟩|⟨hmn,hbits⟩⟩|⟨hk,hbits⟩
  ·have HX:=Lib.hid (show nx t ((txs xs).drop (j+1))=(p,q) by rw [if_pos hk,if_neg hne] at hx1;exact hx1)
   have HW:=Lib.hid (show hasW ((txs xs).drop (j+1))=true by rw [hk] at hw1;simpa using hw1)
   clear hx1 hw1 hk hne
   rcases hbits with ⟨t1,t2,t3,t4,t5⟩|⟨t1,t2,t3,t4,t5⟩|⟨t1,t2,t3,t4,t5⟩|⟨t1,t2,t3,t4,t5⟩
   all_goals
    go_wp2
    go_roundw
    case rel=>exact⟨j+1,t,by go_num,by omega,rfl,hts,HX,HW,L2.bch hB (L8.bnew _ _)⟩
    case measure=>simp [intOf];omega
  ·have HX:=Lib.hid (show nx ⟨#[45]⟩ ((txs xs).drop (j+1))=(p,q) by rw [if_pos hk,if_pos hmn] at hx1;exact hx1)
   have HW:=Lib.hid (show hasW ((txs xs).drop (j+1))=true by rw [hk] at hw1;simpa using hw1)
   clear hx1 hw1 hk hmn
   obtain⟨t1,t2,t3,t4,t5⟩:=hbits
   go_wp2
   go_roundw
   case rel=>exact⟨j+1,⟨#[45]⟩,by go_num,by omega,rfl,by decide,HX,HW,L2.bch hB (L8.bnew _ _)⟩
   case measure=>simp [intOf];omega
  ·have HX:=Lib.hid (show (t++T,(txs xs).drop (j+1))=(p,q) by rw [if_neg (by rw [hk];exact Bool.false_ne_true)] at hx1;exact hx1)
   clear hx1 hw1 hk
   obtain⟨t1,t2,t3,t4,t5⟩:=hbits
   have hsl:=sub_from b o n cap (j+1) (by omega) hcp
   obtain⟨o2,ho2⟩:∃ o2,(if cap=j+1 then o else o+(j+1)*2)=o2:=⟨_,rfl⟩
   rw [ho2] at hsl
   have HO:=Lib.hid ho2
   clear ho2
   have q1:t.size+T.size≤9223372036854775807:=by omega
   have q2:t.size+T.size≤maxLen:=by unfold maxLen;omega
   rw [show ((j+1:Nat):Int)=(j:Int)+1 by omega] at hsl
   go_wp2
   go_ret
   have hX2:=HX.out
   obtain⟨rfl,rfl⟩:t++T=p∧(txs xs).drop (j+1)=q:=by cases hX2;exact⟨rfl,rfl⟩
   have HG:∀ u ob,w.grownBy ((wr.setCell ⟨g,0,none⟩ u).alloc ob) (some g):=fun u ob=>gr_trans (gr_set (gr_below hB) 0 u) (gr_below (L8.bnew _ ob))
   refine⟨rfl,⟨b,o2,n-(j+1),cap-(j+1),xs.drop (j+1),hbB,hBg,by omega,by rw [List.length_drop,HN.out],by omega,by simp [txs],fun t ht=>HSZ.out t (by rw [← HTX.out];exact List.mem_of_mem_drop ht),?_,?_⟩,HG _ _⟩
   ·rw [← HO.out]
    exact tks_gr (tks_from HC.out HN.out hcp (by omega)) hbg hbl (HG _ _)
   ·exact row_up (row_set hgw 0 _) (L8.bnew _ _)
end Go.Proofs.YtdgnjhhieemcaaaGreatDoor.L9
end
section
namespace Go.Proofs.YtdgnjhhieemcaaaGreatDoor.L5
open Go.RowKit L3 L1 L4
structure EncS (w W:World) (g k:Nat) (X cs:Array Value):Prop where
 hb:Below w.heap.size w W
 hg:W.heap[g]?=some (.cells X 45)
 hk:W.heap[k]?=some (.cells cs 5)
 ne:g≠k
 le:w.heap.size≤k
theorem EncS.below {w W W':World} {g k:Nat} {X cs:Array Value} (h:EncS w W g k X cs) (hb:Below W.heap.size W W'):EncS w W' g k X cs :=
 ⟨bch h.hb hb,(hb.block _ (lt_of_block h.hg)).trans h.hg,(hb.block _ (lt_of_block h.hk)).trans h.hk,h.ne,h.le⟩
theorem cells_set {w:World} {b k:Nat} {cs:Array Value} {v:Value} {t:TypeId} {fr:Nat × Nat} (h:w.heap[b]?=some (.cells cs t fr)):(w.setCell ⟨b,k,none⟩ v).heap[b]?=some (.cells (cs.setIfInBounds k v) t fr):=by
 have hlt:=lt_of_block h
 have h':w.heap[b]=.cells cs t fr:=by simpa [Array.getElem?_eq_getElem hlt] using h
 show (w.heap.modify b _)[b]?=_
 rw [Array.getElem?_eq_getElem (by simpa using hlt),Array.getElem_modify_self,h']
 rfl
theorem EncS.set {w W:World} {g k:Nat} {X cs:Array Value} (h:EncS w W g k X cs) (i:Nat) (v:Value):EncS w (W.setCell ⟨k,i,none⟩ v) g k X (cs.setIfInBounds i v) :=
 ⟨h.hb.setCell h.le _,(Below.heap_setCell _ _ _ _ h.ne).trans h.hg,cells_set h.hk,h.ne,h.le⟩
theorem Tryz.info5:(Tryz.prog.info? 5).map (fun i=>(i.zero,i.size,i.bytes))=some (some (.int .u8 0),1,1):=by kernel_rfl
theorem cell_of {w:World} {k i:Nat} {cs:Array Value} {t:TypeId} {v:Value} (h:w.heap[k]?=some (.cells cs t)) (hv:cs[i]?=some v):w.cell? ⟨k,i,none⟩=some v:=by simp [World.cell?,h,hv]
theorem enc_start {w w1 w2:World} {X cs:Array Value} (hb1:Below (w.alloc (.cells X 45)).heap.size (w.alloc (.cells X 45)) w1) (hb2:Below w1.heap.size w1 w2):EncS w (w2.alloc (.cells cs 5)) w.heap.size w2.heap.size X cs:=by
 have h:=bch hb1 hb2
 have hs:=h.size
 simp only [World.size_alloc] at hs
 have hq:=bch h (bnew w2 (.cells cs 5))
 exact⟨(bnew w _).trans (hq.mono (by simp)),(hq.block _ (by simp)).trans (heap_alloc_last w _),heap_alloc_last _ _,by omega,by omega⟩
theorem made16:madeCells #[Value.int .u8 0] 16=#[.int .u8 0,.int .u8 0,.int .u8 0,.int .u8 0,.int .u8 0,.int .u8 0,.int .u8 0,.int .u8 0,.int .u8 0,.int .u8 0,.int .u8 0,.int .u8 0,.int .u8 0,.int .u8 0,.int .u8 0,.int .u8 0]:=by kernel_rfl
theorem made8:madeCells #[Value.int .u8 0] 8=#[.int .u8 0,.int .u8 0,.int .u8 0,.int .u8 0,.int .u8 0,.int .u8 0,.int .u8 0,.int .u8 0]:=by kernel_rfl
theorem fixed_is (op r o i:Int) (w:World) (hr:sr (ix op)=r) (ho:of (ix op)=o) (hi:im (ix op)=i):Calls Tryz.prog 168 #[.int .i64 op] w fun e w'=>e=.returned (.tuple #[.int .i64 r,.int .i64 o,.int .i64 i])∧Below w.heap.size w w':=by
 subst hr;subst ho;subst hi
 exact fixed_any op w
theorem encode_no (op:Int) (reg:Bool) (dst src off imm f R:Int) (w:World) (hw:Wid w) (hf:frm (ix op)=f) (hc:chkF f reg dst src off imm=R) (hR:(R != 0)=true) :
  Calls Tryz.prog 121 #[.agg #[.int .i64 op,.bool reg,.int .i64 dst,.int .i64 src,.int .i64 off,.int .i64 imm]] w fun e w'=>e=.returned (.tuple #[.slice none 0 0,.int .i64 R])∧Below w.heap.size w w':=by
 have HC:=Lib.hid (fun w hw=>check_is op reg dst src off imm f R w hw hf hc)
 have HW:=Lib.hid hw
 clear hf hc hw
 go_enter Tryz.func121,Tryz.ntmps121
 go_wp2_with (first|(go_at_call 166;((with_reducible refine (HC.out _ (wid_below HW.out (bnew _ _))).mono ?_);rintro e w1 ⟨rfl,hb1⟩)))
 exact bodyPost_ret (v:=.tuple #[.slice none 0 0,.int .i64 R]) (by simp [results,Tryz.results121,go_sem]) rfl ⟨rfl,bch (bnew _ _) hb1⟩
theorem encode_8 (op:Int) (reg:Bool) (dst src off imm f:Int) (w:World) (hw:Wid w) (hf:frm (ix op)=f) (hc:chkF f reg dst src off imm=0) (hs:slo f=1) (v0 r o i:Int) (hV:cdV (ix op) reg=v0) (hK:cdB (ix op) reg=true) (hr:sr (ix op)=r) (ho:of (ix op)=o) (hi:im (ix op)=i)
  (v1:Int) (hs0:0≤src+r) (hs1:src+r≤15)  (h1:bits .or .i64 ((src+r)*16) dst=v1) (h1m:v1 % 256=v1) (hq0:-100000≤off+o) (hq1:off+o≤100000) (hp0:-9223372036854775808≤imm+i) (hp1:imm+i≤9223372036854775807)
  (v2 v3 v4 v5 v6 v7:Int) (h2:(IntKind.i16.wrap (off+o)) % 256=v2) (h3:(IntKind.i16.wrap (off+o)) / 256 % 256=v3) (h4:(wrap32 (imm+i)) % 256=v4) (h5:(wrap32 (imm+i)) / 256 % 256=v5) (h6:(wrap32 (imm+i)) / 256 / 256 % 256=v6) (h7:(wrap32 (imm+i)) / 256 / 256 / 256 % 256=v7) :
  Calls Tryz.prog 121 #[.agg #[.int .i64 op,.bool reg,.int .i64 dst,.int .i64 src,.int .i64 off,.int .i64 imm]] w fun e w'=>∃ k,w.heap.size≤k∧e=.returned (.tuple #[.slice (some ⟨k,0,none⟩) 8 8,.int .i64 0])∧w'.heap[k]?=some (.cells #[.int .u8 v0,.int .u8 v1,.int .u8 v2,.int .u8 v3,.int .u8 v4,.int .u8 v5,.int .u8 v6,.int .u8 v7] 5)∧Below w.heap.size w w':=by
 obtain⟨i0,hi0,hz0,hz1,hz2⟩:=info_parts Tryz.info5
 have HC:=Lib.hid (fun w hw=>check_is op reg dst src off imm f 0 w hw hf hc)
 have HS:=Lib.hid (fun w=>slots_at op f 1 w hf hs)
 have HW:=Lib.hid hw
 have HV:=Lib.hid hV
 have HK:=Lib.hid hK
 have HR:=Lib.hid hr
 have HO:=Lib.hid ho
 have HI:=Lib.hid hi
 have H2:=Lib.hid h2
 have H3:=Lib.hid h3
 have H4:=Lib.hid h4
 have H5:=Lib.hid h5
 have H6:=Lib.hid h6
 have H7:=Lib.hid h7
 clear hf hc hs hw hV hK hr ho hi h2 h3 h4 h5 h6 h7
 go_enter Tryz.func121,Tryz.ntmps121
 go_upto_region 5 with (first|(go_at_call 166;((with_reducible refine (HC.out _ (wid_below HW.out (bnew _ _))).mono ?_);rintro e w1 ⟨rfl,hb1⟩;have hg1:=(hb1.block _ (by simp)).trans (heap_alloc_last w _);have c0:=cell_of (i:=0) hg1 rfl))|(go_at_call 148;((with_reducible refine (HS.out _).mono ?_);rintro e w2 ⟨rfl,hb2⟩))|(at_make;refine wpList_make_row _ rfl _ _ 23 rfl 5 i0 (.int .u8 0) Tryz.underlying23 hi0 hz0 hz1 rfl .i64 .i64 8 rfl rfl (by rw [hz2];omega) (by omega) ?_))
 have E:=enc_start (cs:=madeCells #[Value.int .u8 0] 8) hb1 hb2
 rw [made8] at E ⊢
 obtain⟨g,hg⟩:∃ g,g=w.heap.size:=⟨_,rfl⟩
 obtain⟨k,hk⟩:∃ k,k=w2.heap.size:=⟨_,rfl⟩
 rw [← hg,← hk] at E ⊢
 generalize w2.alloc (.cells _ 5)=W at E ⊢
 clear hb1 hb2 hg1 c0 hg hk hi0 hz0 hz1 hz2 HC HS HW
 obtain⟨a0,a1,a2,a3,a4,a5⟩:=cells6 E.hg
 go_upto_region 6 with (first|(go_at_call 167;((with_reducible refine (code_at op reg v0 true _ HV.out HK.out).mono ?_);rintro e w3 ⟨rfl,hb3⟩;replace E:=E.below hb3;clear a0 a1 a2 a3 a4 a5;obtain⟨a0,a1,a2,a3,a4,a5⟩:=cells6 E.hg;have c0:=cell_of (i:=0) E.hk rfl;have f0:=frozen_all E.hk 0)))
 replace E:=E.set 0 (.int .u8 v0)
 generalize w3.setCell _ _=W at E ⊢
 clear a0 a1 a2 a3 a4 a5 c0 f0 hb3
 obtain⟨a0,a1,a2,a3,a4,a5⟩:=cells6 E.hg
 go_upto_region 7 with (first|(go_at_call 168;((with_reducible refine (fixed_is op r o i _ HR.out HO.out HI.out).mono ?_);rintro e w4 ⟨rfl,hb4⟩;replace E:=E.below hb4;clear a0 a1 a2 a3 a4 a5;obtain⟨a0,a1,a2,a3,a4,a5⟩:=cells6 E.hg;have c1:=cell_of (i:=1) E.hk rfl;have f1:=frozen_all E.hk 1)))
 go_upto_region 8 with (fail)
 replace E:=E.set 1 (.int .u8 v1)
 generalize w4.setCell _ _=W at E ⊢
 clear a0 a1 a2 a3 a4 a5 c1 f1 hb4
 refine wp_region_still_tail 7 (by kernel_rfl) (by kernel_rfl) ?_
 simp only [List.take_succ_cons,List.take_zero,List.drop_succ_cons,List.drop_zero]
 change wpStill _ _ (World.drew _) _ _ _
 replace E:=E.below ((Below.refl W.heap.size W).drew)
 obtain⟨D,hD⟩:∃ D,D=W.drew:=⟨_,rfl⟩
 rw [← hD] at E ⊢
 have HD:=Lib.hid hD
 clear hD
 obtain⟨a0,a1,a2,a3,a4,a5⟩:=cells6 E.hg
 repeat still_step
 refine wpStill_nil ?_
 change wpList _ _ _ _ _ W.drew
 rw [← HD.out]
 clear HD a0 a1 a2 a3 a4 a5
 go_wp2_with (go_at_call 169;((with_reducible refine (put16_at k 2 _ _ v2 v3 _ _ E.hk (by simp) H2.out H3.out).mono ?_);rintro e w5 ⟨rfl,rfl⟩))
 replace E:=(E.set 2 (.int .u8 v2)).set 3 (.int .u8 v3)
 clear hq0 hq1
 generalize (D.setCell _ _).setCell _ _=W at E ⊢
 refine wp_region_still_tail 7 (by kernel_rfl) (by kernel_rfl) ?_
 simp only [List.take_succ_cons,List.take_zero,List.drop_succ_cons,List.drop_zero]
 change wpStill _ _ (World.drew _) _ _ _
 replace E:=E.below ((Below.refl W.heap.size W).drew)
 obtain⟨D,hD⟩:∃ D,D=W.drew:=⟨_,rfl⟩
 rw [← hD] at E ⊢
 have HD:=Lib.hid hD
 clear hD
 obtain⟨a0,a1,a2,a3,a4,a5⟩:=cells6 E.hg
 repeat still_step
 refine wpStill_nil ?_
 change wpList _ _ _ _ _ W.drew
 rw [← HD.out]
 clear HD a0 a1 a2 a3 a4 a5
 go_wp2_with (go_at_call 170;((with_reducible refine (put32_at k 4 _ _ v4 v5 v6 v7 _ _ E.hk (by simp) H4.out H5.out H6.out H7.out).mono ?_);rintro e w6 ⟨rfl,rfl⟩))
 replace E:=(((E.set 4 (.int .u8 v4)).set 5 (.int .u8 v5)).set 6 (.int .u8 v6)).set 7 (.int .u8 v7)
 exact bodyPost_ret (v:=.tuple #[.slice (some ⟨k,0,none⟩) 8 8,.int .i64 0]) (by simp [results,Tryz.results121,go_sem]) rfl ⟨k,E.le,rfl,by have hh:=E.hk;simp only [List.setIfInBounds_toArray,List.set_cons_zero,List.set_cons_succ] at hh;exact hh,E.hb⟩
theorem encode_16 (op:Int) (reg:Bool) (dst src off imm f:Int) (w:World) (hw:Wid w) (hf:frm (ix op)=f) (hc:chkF f reg dst src off imm=0) (hs:slo f=2) (v0 r o i:Int) (hV:cdV (ix op) reg=v0) (hK:cdB (ix op) reg=true) (hr:sr (ix op)=r) (ho:of (ix op)=o) (hi:im (ix op)=i)
  (v1:Int) (hs0:0≤src+r) (hs1:src+r≤15)  (h1:bits .or .i64 ((src+r)*16) dst=v1) (h1m:v1 % 256=v1) (hq0:-100000≤off+o) (hq1:off+o≤100000) (hp0:-9223372036854775808≤imm+i) (hp1:imm+i≤9223372036854775807) (hx0:-9223372036854775808≤imm) (hx1:imm≤9223372036854775807)
  (v2 v3 v4 v5 v6 v7 v12 v13 v14 v15:Int) (h2:(IntKind.i16.wrap (off+o)) % 256=v2) (h3:(IntKind.i16.wrap (off+o)) / 256 % 256=v3) (h4:(wrap32 (imm+i)) % 256=v4) (h5:(wrap32 (imm+i)) / 256 % 256=v5) (h6:(wrap32 (imm+i)) / 256 / 256 % 256=v6) (h7:(wrap32 (imm+i)) / 256 / 256 / 256 % 256=v7) (h12:(imm / 4294967296) % 256=v12) (h13:(imm / 4294967296) / 256 % 256=v13) (h14:(imm / 4294967296) / 256 / 256 % 256=v14) (h15:(imm / 4294967296) / 256 / 256 / 256 % 256=v15) :
  Calls Tryz.prog 121 #[.agg #[.int .i64 op,.bool reg,.int .i64 dst,.int .i64 src,.int .i64 off,.int .i64 imm]] w fun e w'=>∃ k,w.heap.size≤k∧e=.returned (.tuple #[.slice (some ⟨k,0,none⟩) 16 16,.int .i64 0])∧w'.heap[k]?=some (.cells #[.int .u8 v0,.int .u8 v1,.int .u8 v2,.int .u8 v3,.int .u8 v4,.int .u8 v5,.int .u8 v6,.int .u8 v7,.int .u8 0,.int .u8 0,.int .u8 0,.int .u8 0,.int .u8 v12,.int .u8 v13,.int .u8 v14,.int .u8 v15] 5)∧Below w.heap.size w w':=by
 obtain⟨i0,hi0,hz0,hz1,hz2⟩:=info_parts Tryz.info5
 have HC:=Lib.hid (fun w hw=>check_is op reg dst src off imm f 0 w hw hf hc)
 have HS:=Lib.hid (fun w=>slots_at op f 2 w hf hs)
 have HW:=Lib.hid hw
 have HV:=Lib.hid hV
 have HK:=Lib.hid hK
 have HR:=Lib.hid hr
 have HO:=Lib.hid ho
 have HI:=Lib.hid hi
 have H2:=Lib.hid h2
 have H3:=Lib.hid h3
 have H4:=Lib.hid h4
 have H5:=Lib.hid h5
 have H6:=Lib.hid h6
 have H7:=Lib.hid h7
 have H12:=Lib.hid h12
 have H13:=Lib.hid h13
 have H14:=Lib.hid h14
 have H15:=Lib.hid h15
 clear hf hc hs hw hV hK hr ho hi h2 h3 h4 h5 h6 h7 h12 h13 h14 h15
 go_enter Tryz.func121,Tryz.ntmps121
 go_upto_region 5 with (first|(go_at_call 166;((with_reducible refine (HC.out _ (wid_below HW.out (bnew _ _))).mono ?_);rintro e w1 ⟨rfl,hb1⟩;have hg1:=(hb1.block _ (by simp)).trans (heap_alloc_last w _);have c0:=cell_of (i:=0) hg1 rfl))|(go_at_call 148;((with_reducible refine (HS.out _).mono ?_);rintro e w2 ⟨rfl,hb2⟩))|(at_make;refine wpList_make_row _ rfl _ _ 23 rfl 5 i0 (.int .u8 0) Tryz.underlying23 hi0 hz0 hz1 rfl .i64 .i64 16 rfl rfl (by rw [hz2];omega) (by omega) ?_))
 have E:=enc_start (cs:=madeCells #[Value.int .u8 0] 16) hb1 hb2
 rw [made16] at E ⊢
 obtain⟨g,hg⟩:∃ g,g=w.heap.size:=⟨_,rfl⟩
 obtain⟨k,hk⟩:∃ k,k=w2.heap.size:=⟨_,rfl⟩
 rw [← hg,← hk] at E ⊢
 generalize w2.alloc (.cells _ 5)=W at E ⊢
 clear hb1 hb2 hg1 c0 hg hk hi0 hz0 hz1 hz2 HC HS HW
 obtain⟨a0,a1,a2,a3,a4,a5⟩:=cells6 E.hg
 go_upto_region 6 with (first|(go_at_call 167;((with_reducible refine (code_at op reg v0 true _ HV.out HK.out).mono ?_);rintro e w3 ⟨rfl,hb3⟩;replace E:=E.below hb3;clear a0 a1 a2 a3 a4 a5;obtain⟨a0,a1,a2,a3,a4,a5⟩:=cells6 E.hg;have c0:=cell_of (i:=0) E.hk rfl;have f0:=frozen_all E.hk 0)))
 replace E:=E.set 0 (.int .u8 v0)
 generalize w3.setCell _ _=W at E ⊢
 clear a0 a1 a2 a3 a4 a5 c0 f0 hb3
 obtain⟨a0,a1,a2,a3,a4,a5⟩:=cells6 E.hg
 go_upto_region 7 with (first|(go_at_call 168;((with_reducible refine (fixed_is op r o i _ HR.out HO.out HI.out).mono ?_);rintro e w4 ⟨rfl,hb4⟩;replace E:=E.below hb4;clear a0 a1 a2 a3 a4 a5;obtain⟨a0,a1,a2,a3,a4,a5⟩:=cells6 E.hg;have c1:=cell_of (i:=1) E.hk rfl;have f1:=frozen_all E.hk 1)))
 go_upto_region 8 with (fail)
 replace E:=E.set 1 (.int .u8 v1)
 generalize w4.setCell _ _=W at E ⊢
 clear a0 a1 a2 a3 a4 a5 c1 f1 hb4
 refine wp_region_still_tail 7 (by kernel_rfl) (by kernel_rfl) ?_
 simp only [List.take_succ_cons,List.take_zero,List.drop_succ_cons,List.drop_zero]
 change wpStill _ _ (World.drew _) _ _ _
 replace E:=E.below ((Below.refl W.heap.size W).drew)
 obtain⟨D,hD⟩:∃ D,D=W.drew:=⟨_,rfl⟩
 rw [← hD] at E ⊢
 have HD:=Lib.hid hD
 clear hD
 obtain⟨a0,a1,a2,a3,a4,a5⟩:=cells6 E.hg
 repeat still_step
 refine wpStill_nil ?_
 change wpList _ _ _ _ _ W.drew
 rw [← HD.out]
 clear HD a0 a1 a2 a3 a4 a5
 go_wp2_with (go_at_call 169;((with_reducible refine (put16_at k 2 _ _ v2 v3 _ _ E.hk (by simp) H2.out H3.out).mono ?_);rintro e w5 ⟨rfl,rfl⟩))
 replace E:=(E.set 2 (.int .u8 v2)).set 3 (.int .u8 v3)
 clear hq0 hq1
 generalize (D.setCell _ _).setCell _ _=W at E ⊢
 refine wp_region_still_tail 7 (by kernel_rfl) (by kernel_rfl) ?_
 simp only [List.take_succ_cons,List.take_zero,List.drop_succ_cons,List.drop_zero]
 change wpStill _ _ (World.drew _) _ _ _
 replace E:=E.below ((Below.refl W.heap.size W).drew)
 obtain⟨D,hD⟩:∃ D,D=W.drew:=⟨_,rfl⟩
 rw [← hD] at E ⊢
 have HD:=Lib.hid hD
 clear hD
 obtain⟨a0,a1,a2,a3,a4,a5⟩:=cells6 E.hg
 repeat still_step
 refine wpStill_nil ?_
 change wpList _ _ _ _ _ W.drew
 rw [← HD.out]
 clear HD a0 a1 a2 a3 a4 a5
 go_wp2_with (go_at_call 170;((with_reducible refine (put32_at k 4 _ _ v4 v5 v6 v7 _ _ E.hk (by simp) H4.out H5.out H6.out H7.out).mono ?_);rintro e w6 ⟨rfl,rfl⟩))
 replace E:=(((E.set 4 (.int .u8 v4)).set 5 (.int .u8 v5)).set 6 (.int .u8 v6)).set 7 (.int .u8 v7)
 generalize (((D.setCell _ _).setCell _ _).setCell _ _).setCell _ _=W at E ⊢
 refine wp_region_still_tail 6 (by kernel_rfl) (by kernel_rfl) ?_
 simp only [List.take_succ_cons,List.take_zero,List.drop_succ_cons,List.drop_zero]
 change wpStill _ _ (World.drew _) _ _ _
 replace E:=E.below ((Below.refl W.heap.size W).drew)
 obtain⟨D,hD⟩:∃ D,D=W.drew:=⟨_,rfl⟩
 rw [← hD] at E ⊢
 have HD:=Lib.hid hD
 clear hD
 obtain⟨a0,a1,a2,a3,a4,a5⟩:=cells6 E.hg
 repeat still_step
 refine wpStill_nil ?_
 change wpList _ _ _ _ _ W.drew
 rw [← HD.out]
 clear HD a0 a1 a2 a3 a4 a5
 go_wp2_with (go_at_call 170;((with_reducible refine (put32_at k 12 _ _ v12 v13 v14 v15 _ _ E.hk (by simp) H12.out H13.out H14.out H15.out).mono ?_);rintro e w6 ⟨rfl,rfl⟩))
 replace E:=(((E.set 12 (.int .u8 v12)).set 13 (.int .u8 v13)).set 14 (.int .u8 v14)).set 15 (.int .u8 v15)
 exact bodyPost_ret (v:=.tuple #[.slice (some ⟨k,0,none⟩) 16 16,.int .i64 0]) (by simp [results,Tryz.results121,go_sem]) rfl ⟨k,E.le,rfl,by have hh:=E.hk;simp only [List.setIfInBounds_toArray,List.set_cons_zero,List.set_cons_succ] at hh;exact hh,E.hb⟩
theorem wrap_i16 (n:Int):IntKind.i16.wrap n=(n+32768) % 65536-32768:=by simp [IntKind.wrap,IntKind.bits,IntKind.signed];omega
def encL (j:Nat) (f:Int) (reg:Bool) (dst src off imm:Int):List UInt8 :=
 UInt8.ofNat (cdV j reg % 256).toNat::UInt8.ofNat ((16*(src+sr j)+dst) % 256).toNat::(le 2 (off+of j)++(le 4 (imm+im j)++if slo f=2 then 0::0::0::0::le 4 (imm / 4294967296) else []))
theorem encL_length (j:Nat) (f:Int) (reg:Bool) (dst src off imm:Int):(encL j f reg dst src off imm).length=if slo f=2 then 16 else 8:=by
 unfold encL
 split <;> simp [le_length]
structure OkI (f:Int) (reg:Bool) (dst src off imm:Int):Prop where
 hop:f≠-1
 hreg:(!reg || f==0 || f==4)=true
 ud:uD f=true∨dst=0
 us:uS f reg=true∨src=0
 uo:uO f=true∨off=0
 ui:uI f reg=true∨imm=0
 gd:0≤dst∧dst≤10
 gs:0≤src∧src≤10
 ro:-32768≤off∧off≤32767
 ri:rng f imm=true
theorem chk_ok (f:Int) (reg:Bool) (dst src off imm:Int):chkF f reg dst src off imm=0↔OkI f reg dst src off imm:=by
 unfold chkF
 constructor
 ·intro h
  simp only [firstBad] at h
  repeat' (split at h)
  all_goals first|(exfalso;revert h;decide)|skip
  rename_i h1 h2 h3 h4 h5 h6 h7
  simp only [Bool.and_eq_true,Bool.or_eq_true,beq_iff_eq,isG,decide_eq_true_eq] at h3 h4 h5 h6
  refine⟨by simpa using h1,h2,h3.1,h3.2,h4.1,h4.2,h5.1,h5.2,?_,h7⟩
  unfold sx at h6
  simp at h6
  omega
 ·intro h
  have h1:(f != -1)=true:=by simpa using h.hop
  have h3:((uD f || dst==0) && (uS f reg || src==0))=true:=by simpa using ⟨h.ud,h.us⟩
  have h4:((uO f || off==0) && (uI f reg || imm==0))=true:=by simpa using ⟨h.uo,h.ui⟩
  have h5:(isG dst && isG src)=true:=by simpa [isG] using ⟨h.gd,h.gs⟩
  have h6:(sx 16 off==off)=true:=by
   have:=h.ro
   unfold sx
   simp
   omega
  simp [firstBad,h1,h.hreg,h3,h4,h5,h6,h.ri]
theorem tab1:∀ j,j<86→0≤sr j∧sr j≤1∧0≤of j∧of j≤64∧0≤im j∧im j≤64:=by decide +kernel
theorem tab2:∀ j,j<86→∀ r:Bool,(uS (fm j) r=true→sr j=0)∧(uO (fm j)=true→of j=0)∧(uI (fm j) r=true→im j=0):=by decide +kernel
theorem tab3:∀ j,j<86→∀ r:Bool,0≤cdV j r∧cdV j r≤255:=by decide +kernel
theorem tab4:∀ j,j<86→(slo (fm j)=1∨slo (fm j)=2)∧(slo (fm j)=2→of j=0∧im j=0∧uI (fm j) true=true∧uI (fm j) false=true):=by decide +kernel
theorem frm_lt {j:Nat} (h:frm j≠-1):j<86:=by
 by_cases hj:j<86
 ·exact hj
 ·exact absurd (by unfold frm;rw [if_neg hj]) h
theorem frm_fm {j:Nat} (h:j<86):frm j=fm j:=by unfold frm;rw [if_pos h]
def byC (l:List UInt8):Array Value:=(l.map fun c=>Value.int .u8 (c.toNat:Int)).toArray
theorem or_16 (a b:Int) (ha:0≤a) (ha2:a≤15) (hb:0≤b) (hb2:b≤15):bits .or .i64 (a*16) b=16*a+b:=by
 have h:∀ a:Fin 16,∀ b:Fin 16,bits .or .i64 (((a.val:Nat):Int)*16) ((b.val:Nat):Int)=16*((a.val:Nat):Int)+((b.val:Nat):Int):=by decide +kernel
 have:=h ⟨a.toNat,by omega⟩ ⟨b.toNat,by omega⟩
 simpa [Int.toNat_of_nonneg ha,Int.toNat_of_nonneg hb] using this
theorem wrap32_is (n:Int):wrap32 n=(n+2147483648) % 4294967296-2147483648:=by
 unfold wrap32
 omega
theorem le2_16 (z:Int):le 2 (IntKind.i16.wrap z)=le 2 z:=le_mod (by rw [wrap_i16];omega)
theorem le4_32 (z:Int):le 4 (wrap32 z)=le 4 z:=le_mod (by rw [wrap32_is];omega)
theorem le2_eq (z:Int):le 2 z=[UInt8.ofNat (z % 256).toNat,UInt8.ofNat (z / 256 % 256).toNat]:=rfl
theorem le4_eq (z:Int):le 4 z=[UInt8.ofNat (z % 256).toNat,UInt8.ofNat (z / 256 % 256).toNat,UInt8.ofNat (z / 256 / 256 % 256).toNat,UInt8.ofNat (z / 256 / 256 / 256 % 256).toNat]:=rfl
theorem encode_at (op:Int) (reg:Bool) (dst src off imm f:Int) (l:List UInt8) (n:Nat) (w:World) (hw:Wid w) (hf:frm (ix op)=f) (hc:OkI f reg dst src off imm) (i0:-9223372036854775808≤imm) (i1:imm≤9223372036854775807) (hl:encL (ix op) f reg dst src off imm=l) (hn:l.length=n) :
  Calls Tryz.prog 121 #[.agg #[.int .i64 op,.bool reg,.int .i64 dst,.int .i64 src,.int .i64 off,.int .i64 imm]] w fun e w'=>∃ k,w.heap.size≤k∧e=.returned (.tuple #[.slice (some ⟨k,0,none⟩) n n,.int .i64 0])∧w'.heap[k]?=some (.cells (byC l) 5)∧Below w.heap.size w w':=by
 subst hl hn
 have hj:ix op<86:=frm_lt (by rw [hf];exact hc.hop)
 have hfm:fm (ix op)=f:=(frm_fm hj).symm.trans hf
 have hchk:=(chk_ok f reg dst src off imm).2 hc
 have t1:=tab1 _ hj
 have t2:=tab2 _ hj reg
 have t3:=tab3 _ hj reg
 have t4:=tab4 _ hj
 rw [hfm] at t2 t4
 have hK:cdB (ix op) reg=true:=by
  unfold cdB
  rw [hfm]
  simpa [hj,isR,Bool.or_assoc] using hc.hreg
 have gd:=hc.gd
 have gs:=hc.gs
 have ro:=hc.ro
 have hor:=or_16 (src+sr (ix op)) dst (by omega) (by omega) (by omega) (by omega)
 have m0:cdV (ix op) reg % 256=cdV (ix op) reg:=by omega
 have m1:(16*(src+sr (ix op))+dst) % 256=16*(src+sr (ix op))+dst:=by omega
 have him:-9223372036854775808≤imm+im (ix op)∧imm+im (ix op)≤9223372036854775807:=by
  rcases hc.ui with h|h
  ·have:=t2.2.2 h
   omega
  ·omega
 rcases t4.1 with hs|hs
 ·refine (encode_8 op reg dst src off imm f w hw hf hchk hs _ _ _ _ rfl hK rfl rfl rfl _ (by omega) (by omega) hor (by omega) (by omega) (by omega) him.1 him.2 _ _ _ _ _ _ rfl rfl rfl rfl rfl rfl).mono fun e w' h=>?_
  obtain⟨k,hk,he,hh,hb⟩:=h
  refine⟨k,hk,?_,?_,hb⟩
  ·rw [encL_length,if_neg (by omega)];exact he
  ·rw [hh]
   unfold encL byC
   rw [if_neg (by omega),← le2_16,← le4_32,le2_eq,le4_eq]
   simp only [List.append_nil,List.cons_append,List.nil_append,List.map_cons,List.map_nil,byte_nat]
   rw [m0,m1]
 ·refine (encode_16 op reg dst src off imm f w hw hf hchk hs _ _ _ _ rfl hK rfl rfl rfl _ (by omega) (by omega) hor (by omega) (by omega) (by omega) him.1 him.2 i0 i1 _ _ _ _ _ _ _ _ _ _ rfl rfl rfl rfl rfl rfl rfl rfl rfl rfl).mono fun e w' h=>?_
  obtain⟨k,hk,he,hh,hb⟩:=h
  refine⟨k,hk,?_,?_,hb⟩
  ·rw [encL_length,if_pos hs];exact he
  ·rw [hh]
   unfold encL byC
   rw [if_pos hs,← le2_16,← le4_32 (imm+_),le2_eq,le4_eq,le4_eq]
   simp only [List.cons_append,List.nil_append,List.map_cons,List.map_nil,byte_nat]
   rw [m0,m1]
   rfl
end Go.Proofs.YtdgnjhhieemcaaaGreatDoor.L5
end
