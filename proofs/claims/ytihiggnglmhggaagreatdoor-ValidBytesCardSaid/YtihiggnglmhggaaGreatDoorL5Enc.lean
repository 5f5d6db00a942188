/- What Encode returns: the bytes of a correct instruction, in memory of its own, or the error of Check. Condition: the table of widths reads as laid. -/
import Derived.Test.YtihiggnglmhggaaGreatDoorL5Fld
import Derived.Test.YtihiggnglmhggaaGreatDoorM5
import Derived.Deep.OwnRows
set_option maxRecDepth 100000
set_option maxHeartbeats 4000000
namespace Go.Proofs.YtihiggnglmhggaaGreatDoor.L5
open Go.RowKit L3 L1 L4
structure EncS (w W:World) (g k:Nat) (X cs:Array Value):Prop where
 hb:Below w.heap.size w W
 hg:W.heap[g]?=some (.cells X 45)
 hk:W.heap[k]?=some (.cells cs 5)
 ne:g≠k
 le:w.heap.size≤k
theorem EncS.below {w W W':World} {g k:Nat} {X cs:Array Value} (h:EncS w W g k X cs) (hb:Below W.heap.size W W'):EncS w W' g k X cs :=
 ⟨bch h.hb hb,(hb.block _ (lt_of_block h.hg)).trans h.hg,(hb.block _ (lt_of_block h.hk)).trans h.hk,h.ne,h.le⟩
theorem cells_set {w:World} {b k:Nat} {cs:Array Value} {v:Value} {t:TypeId} {fr:Nat × Nat} (h:w.heap[b]?=some (.cells cs t fr)):(w.setCell ⟨b,k,none⟩ v).heap[b]?=some (.cells (cs.setIfInBounds k v) t fr):=by
 have hlt:=lt_of_block h
 have h':w.heap[b]=.cells cs t fr:=by simpa [Array.getElem?_eq_getElem hlt] using h
 show (w.heap.modify b _)[b]?=_
 rw [Array.getElem?_eq_getElem (by simpa using hlt),Array.getElem_modify_self,h']
 rfl
theorem EncS.set {w W:World} {g k:Nat} {X cs:Array Value} (h:EncS w W g k X cs) (i:Nat) (v:Value):EncS w (W.setCell ⟨k,i,none⟩ v) g k X (cs.setIfInBounds i v) :=
 ⟨h.hb.setCell h.le _,(Below.heap_setCell _ _ _ _ h.ne).trans h.hg,cells_set h.hk,h.ne,h.le⟩
theorem Tryz.info5:(Tryz.prog.info? 5).map (fun i=>(i.zero,i.size,i.bytes))=some (some (.int .u8 0),1,1):=by kernel_rfl
theorem cell_of {w:World} {k i:Nat} {cs:Array Value} {t:TypeId} {v:Value} (h:w.heap[k]?=some (.cells cs t)) (hv:cs[i]?=some v):w.cell? ⟨k,i,none⟩=some v:=by simp [World.cell?,h,hv]
theorem enc_start {w w1 w2:World} {X cs:Array Value} (hb1:Below (w.alloc (.cells X 45)).heap.size (w.alloc (.cells X 45)) w1) (hb2:Below w1.heap.size w1 w2):EncS w (w2.alloc (.cells cs 5)) w.heap.size w2.heap.size X cs:=by
 have h:=bch hb1 hb2
 have hs:=h.size
 simp only [World.size_alloc] at hs
 have hq:=bch h (bnew w2 (.cells cs 5))
 exact⟨(bnew w _).trans (hq.mono (by simp)),(hq.block _ (by simp)).trans (heap_alloc_last w _),heap_alloc_last _ _,by omega,by omega⟩
theorem made16:madeCells #[Value.int .u8 0] 16=#[.int .u8 0,.int .u8 0,.int .u8 0,.int .u8 0,.int .u8 0,.int .u8 0,.int .u8 0,.int .u8 0,.int .u8 0,.int .u8 0,.int .u8 0,.int .u8 0,.int .u8 0,.int .u8 0,.int .u8 0,.int .u8 0]:=by kernel_rfl
theorem made8:madeCells #[Value.int .u8 0] 8=#[.int .u8 0,.int .u8 0,.int .u8 0,.int .u8 0,.int .u8 0,.int .u8 0,.int .u8 0,.int .u8 0]:=by kernel_rfl
theorem fixed_is (op r o i:Int) (w:World) (hr:sr (ix op)=r) (ho:of (ix op)=o) (hi:im (ix op)=i):Calls Tryz.prog 137 #[.int .i64 op] w fun e w'=>e=.returned (.tuple #[.int .i64 r,.int .i64 o,.int .i64 i])∧Below w.heap.size w w':=by
 subst hr;subst ho;subst hi
 exact fixed_any op w
theorem encode_no (op:Int) (reg:Bool) (dst src off imm f R:Int) (w:World) (hw:Wid w) (hf:frm (ix op)=f) (hc:chkF f reg dst src off imm=R) (hR:(R != 0)=true) :
  Calls Tryz.prog 86 #[.agg #[.int .i64 op,.bool reg,.int .i64 dst,.int .i64 src,.int .i64 off,.int .i64 imm]] w fun e w'=>e=.returned (.tuple #[.slice none 0 0,.int .i64 R])∧Below w.heap.size w w':=by
 have HC:=Lib.hid (fun w hw=>check_is op reg dst src off imm f R w hw hf hc)
 have HW:=Lib.hid hw
 clear hf hc hw
 go_enter Tryz.func86,Tryz.ntmps86
 go_wp2_with (first|(go_at_call 135;((with_reducible refine (HC.out _ (wid_below HW.out (bnew _ _))).mono ?_);rintro e w1 ⟨rfl,hb1⟩)))
 exact bodyPost_ret (v:=.tuple #[.slice none 0 0,.int .i64 R]) (by simp [results,Tryz.results86,go_sem]) rfl ⟨rfl,bch (bnew _ _) hb1⟩
theorem encode_8 (op:Int) (reg:Bool) (dst src off imm f:Int) (w:World) (hw:Wid w) (hf:frm (ix op)=f) (hc:chkF f reg dst src off imm=0) (hs:slo f=1) (v0 r o i:Int) (hV:cdV (ix op) reg=v0) (hK:cdB (ix op) reg=true) (hr:sr (ix op)=r) (ho:of (ix op)=o) (hi:im (ix op)=i)
  (v1:Int) (hs0:0≤src+r) (hs1:src+r≤15)  (h1:bits .or .i64 ((src+r)*16) dst=v1) (h1m:v1 % 256=v1) (hq0:-100000≤off+o) (hq1:off+o≤100000) (hp0:-9223372036854775808≤imm+i) (hp1:imm+i≤9223372036854775807)
  (v2 v3 v4 v5 v6 v7:Int) (h2:(IntKind.i16.wrap (off+o)) % 256=v2) (h3:(IntKind.i16.wrap (off+o)) / 256 % 256=v3) (h4:(wrap32 (imm+i)) % 256=v4) (h5:(wrap32 (imm+i)) / 256 % 256=v5) (h6:(wrap32 (imm+i)) / 256 / 256 % 256=v6) (h7:(wrap32 (imm+i)) / 256 / 256 / 256 % 256=v7) :
  Calls Tryz.prog 86 #[.agg #[.int .i64 op,.bool reg,.int .i64 dst,.int .i64 src,.int .i64 off,.int .i64 imm]] w fun e w'=>∃ k,w.heap.size≤k∧e=.returned (.tuple #[.slice (some ⟨k,0,none⟩) 8 8,.int .i64 0])∧w'.heap[k]?=some (.cells #[.int .u8 v0,.int .u8 v1,.int .u8 v2,.int .u8 v3,.int .u8 v4,.int .u8 v5,.int .u8 v6,.int .u8 v7] 5)∧Below w.heap.size w w':=by
 obtain⟨i0,hi0,hz0,hz1,hz2⟩:=info_parts Tryz.info5
 have HC:=Lib.hid (fun w hw=>check_is op reg dst src off imm f 0 w hw hf hc)
 have HS:=Lib.hid (fun w=>slots_at op f 1 w hf hs)
 have HW:=Lib.hid hw
 have HV:=Lib.hid hV
 have HK:=Lib.hid hK
 have HR:=Lib.hid hr
 have HO:=Lib.hid ho
 have HI:=Lib.hid hi
 have H2:=Lib.hid h2
 have H3:=Lib.hid h3
 have H4:=Lib.hid h4
 have H5:=Lib.hid h5
 have H6:=Lib.hid h6
 have H7:=Lib.hid h7
 clear hf hc hs hw hV hK hr ho hi h2 h3 h4 h5 h6 h7
 go_enter Tryz.func86,Tryz.ntmps86
 go_upto_region 5 with (first|(go_at_call 135;((with_reducible refine (HC.out _ (wid_below HW.out (bnew _ _))).mono ?_);rintro e w1 ⟨rfl,hb1⟩;have hg1:=(hb1.block _ (by simp)).trans (heap_alloc_last w _);have c0:=cell_of (i:=0) hg1 rfl))|(go_at_call 42;((with_reducible refine (HS.out _).mono ?_);rintro e w2 ⟨rfl,hb2⟩))|(at_make;refine wpList_make_row _ rfl _ _ 23 rfl 5 i0 (.int .u8 0) Tryz.underlying23 hi0 hz0 hz1 rfl .i64 .i64 8 rfl rfl (by rw [hz2];omega) (by omega) ?_))
 have E:=enc_start (cs:=madeCells #[Value.int .u8 0] 8) hb1 hb2
 rw [made8] at E ⊢
 obtain⟨g,hg⟩:∃ g,g=w.heap.size:=⟨_,rfl⟩
 obtain⟨k,hk⟩:∃ k,k=w2.heap.size:=⟨_,rfl⟩
 rw [← hg,← hk] at E ⊢
 generalize w2.alloc (.cells _ 5)=W at E ⊢
 clear hb1 hb2 hg1 c0 hg hk hi0 hz0 hz1 hz2 HC HS HW
 obtain⟨a0,a1,a2,a3,a4,a5⟩:=cells6 E.hg
 go_upto_region 6 with (first|(go_at_call 136;((with_reducible refine (code_at op reg v0 true _ HV.out HK.out).mono ?_);rintro e w3 ⟨rfl,hb3⟩;replace E:=E.below hb3;clear a0 a1 a2 a3 a4 a5;obtain⟨a0,a1,a2,a3,a4,a5⟩:=cells6 E.hg;have c0:=cell_of (i:=0) E.hk rfl;have f0:=frozen_all E.hk 0)))
 replace E:=E.set 0 (.int .u8 v0)
 generalize w3.setCell _ _=W at E ⊢
 clear a0 a1 a2 a3 a4 a5 c0 f0 hb3
 obtain⟨a0,a1,a2,a3,a4,a5⟩:=cells6 E.hg
 go_upto_region 7 with (first|(go_at_call 137;((with_reducible refine (fixed_is op r o i _ HR.out HO.out HI.out).mono ?_);rintro e w4 ⟨rfl,hb4⟩;replace E:=E.below hb4;clear a0 a1 a2 a3 a4 a5;obtain⟨a0,a1,a2,a3,a4,a5⟩:=cells6 E.hg;have c1:=cell_of (i:=1) E.hk rfl;have f1:=frozen_all E.hk 1)))
 go_upto_region 8 with (fail)
 replace E:=E.set 1 (.int .u8 v1)
 generalize w4.setCell _ _=W at E ⊢
 clear a0 a1 a2 a3 a4 a5 c1 f1 hb4
 refine wp_region_still_tail 7 (by kernel_rfl) (by kernel_rfl) ?_
 simp only [List.take_succ_cons,List.take_zero,List.drop_succ_cons,List.drop_zero]
 change wpStill _ _ (World.drew _) _ _ _
 replace E:=E.below ((Below.refl W.heap.size W).drew)
 obtain⟨D,hD⟩:∃ D,D=W.drew:=⟨_,rfl⟩
 rw [← hD] at E ⊢
 have HD:=Lib.hid hD
 clear hD
 obtain⟨a0,a1,a2,a3,a4,a5⟩:=cells6 E.hg
 repeat still_step
 refine wpStill_nil ?_
 change wpList _ _ _ _ _ W.drew
 rw [← HD.out]
 clear HD a0 a1 a2 a3 a4 a5
 go_wp2_with (go_at_call 138;((with_reducible refine (put16_at k 2 _ _ v2 v3 _ _ E.hk (by simp) H2.out H3.out).mono ?_);rintro e w5 ⟨rfl,rfl⟩))
 replace E:=(E.set 2 (.int .u8 v2)).set 3 (.int .u8 v3)
 clear hq0 hq1
 generalize (D.setCell _ _).setCell _ _=W at E ⊢
 refine wp_region_still_tail 7 (by kernel_rfl) (by kernel_rfl) ?_
 simp only [List.take_succ_cons,List.take_zero,List.drop_succ_cons,List.drop_zero]
 change wpStill _ _ (World.drew _) _ _ _
 replace E:=E.below ((Below.refl W.heap.size W).drew)
 obtain⟨D,hD⟩:∃ D,D=W.drew:=⟨_,rfl⟩
 rw [← hD] at E ⊢
 have HD:=Lib.hid hD
 clear hD
 obtain⟨a0,a1,a2,a3,a4,a5⟩:=cells6 E.hg
 repeat still_step
 refine wpStill_nil ?_
 change wpList _ _ _ _ _ W.drew
 rw [← HD.out]
 clear HD a0 a1 a2 a3 a4 a5
 go_wp2_with (go_at_call 139;((with_reducible refine (put32_at k 4 _ _ v4 v5 v6 v7 _ _ E.hk (by simp) H4.out H5.out H6.out H7.out).mono ?_);rintro e w6 ⟨rfl,rfl⟩))
 replace E:=(((E.set 4 (.int .u8 v4)).set 5 (.int .u8 v5)).set 6 (.int .u8 v6)).set 7 (.int .u8 v7)
 exact bodyPost_ret (v:=.tuple #[.slice (some ⟨k,0,none⟩) 8 8,.int .i64 0]) (by simp [results,Tryz.results86,go_sem]) rfl ⟨k,E.le,rfl,by have hh:=E.hk;simp only [List.setIfInBounds_toArray,List.set_cons_zero,List.set_cons_succ] at hh;exact hh,E.hb⟩
theorem encode_16 (op:Int) (reg:Bool) (dst src off imm f:Int) (w:World) (hw:Wid w) (hf:frm (ix op)=f) (hc:chkF f reg dst src off imm=0) (hs:slo f=2) (v0 r o i:Int) (hV:cdV (ix op) reg=v0) (hK:cdB (ix op) reg=true) (hr:sr (ix op)=r) (ho:of (ix op)=o) (hi:im (ix op)=i)
  (v1:Int) (hs0:0≤src+r) (hs1:src+r≤15)  (h1:bits .or .i64 ((src+r)*16) dst=v1) (h1m:v1 % 256=v1) (hq0:-100000≤off+o) (hq1:off+o≤100000) (hp0:-9223372036854775808≤imm+i) (hp1:imm+i≤9223372036854775807) (hx0:-9223372036854775808≤imm) (hx1:imm≤9223372036854775807)
  (v2 v3 v4 v5 v6 v7 v12 v13 v14 v15:Int) (h2:(IntKind.i16.wrap (off+o)) % 256=v2) (h3:(IntKind.i16.wrap (off+o)) / 256 % 256=v3) (h4:(wrap32 (imm+i)) % 256=v4) (h5:(wrap32 (imm+i)) / 256 % 256=v5) (h6:(wrap32 (imm+i)) / 256 / 256 % 256=v6) (h7:(wrap32 (imm+i)) / 256 / 256 / 256 % 256=v7) (h12:(imm / 4294967296) % 256=v12) (h13:(imm / 4294967296) / 256 % 256=v13) (h14:(imm / 4294967296) / 256 / 256 % 256=v14) (h15:(imm / 4294967296) / 256 / 256 / 256 % 256=v15) :
  Calls Tryz.prog 86 #[.agg #[.int .i64 op,.bool reg,.int .i64 dst,.int .i64 src,.int .i64 off,.int .i64 imm]] w fun e w'=>∃ k,w.heap.size≤k∧e=.returned (.tuple #[.slice (some ⟨k,0,none⟩) 16 16,.int .i64 0])∧w'.heap[k]?=some (.cells #[.int .u8 v0,.int .u8 v1,.int .u8 v2,.int .u8 v3,.int .u8 v4,.int .u8 v5,.int .u8 v6,.int .u8 v7,.int .u8 0,.int .u8 0,.int .u8 0,.int .u8 0,.int .u8 v12,.int .u8 v13,.int .u8 v14,.int .u8 v15] 5)∧Below w.heap.size w w':=by
 obtain⟨i0,hi0,hz0,hz1,hz2⟩:=info_parts Tryz.info5
 have HC:=Lib.hid (fun w hw=>check_is op reg dst src off imm f 0 w hw hf hc)
 have HS:=Lib.hid (fun w=>slots_at op f 2 w hf hs)
 have HW:=Lib.hid hw
 have HV:=Lib.hid hV
 have HK:=Lib.hid hK
 have HR:=Lib.hid hr
 have HO:=Lib.hid ho
 have HI:=Lib.hid hi
 have H2:=Lib.hid h2
 have H3:=Lib.hid h3
 have H4:=Lib.hid h4
 have H5:=Lib.hid h5
 have H6:=Lib.hid h6
 have H7:=Lib.hid h7
 have H12:=Lib.hid h12
 have H13:=Lib.hid h13
 have H14:=Lib.hid h14
 have H15:=Lib.hid h15
 clear hf hc hs hw hV hK hr ho hi h2 h3 h4 h5 h6 h7 h12 h13 h14 h15
 go_enter Tryz.func86,Tryz.ntmps86
 go_upto_region 5 with (first|(go_at_call 135;((with_reducible refine (HC.out _ (wid_below HW.out (bnew _ _))).mono ?_);rintro e w1 ⟨rfl,hb1⟩;have hg1:=(hb1.block _ (by simp)).trans (heap_alloc_last w _);have c0:=cell_of (i:=0) hg1 rfl))|(go_at_call 42;((with_reducible refine (HS.out _).mono ?_);rintro e w2 ⟨rfl,hb2⟩))|(at_make;refine wpList_make_row _ rfl _ _ 23 rfl 5 i0 (.int .u8 0) Tryz.underlying23 hi0 hz0 hz1 rfl .i64 .i64 16 rfl rfl (by rw [hz2];omega) (by omega) ?_))
 have E:=enc_start (cs:=madeCells #[Value.int .u8 0] 16) hb1 hb2
 rw [made16] at E ⊢
 obtain⟨g,hg⟩:∃ g,g=w.heap.size:=⟨_,rfl⟩
 obtain⟨k,hk⟩:∃ k,k=w2.heap.size:=⟨_,rfl⟩
 rw [← hg,← hk] at E ⊢
 generalize w2.alloc (.cells _ 5)=W at E ⊢
 clear hb1 hb2 hg1 c0 hg hk hi0 hz0 hz1 hz2 HC HS HW
 obtain⟨a0,a1,a2,a3,a4,a5⟩:=cells6 E.hg
 go_upto_region 6 with (first|(go_at_call 136;((with_reducible refine (code_at op reg v0 true _ HV.out HK.out).mono ?_);rintro e w3 ⟨rfl,hb3⟩;replace E:=E.below hb3;clear a0 a1 a2 a3 a4 a5;obtain⟨a0,a1,a2,a3,a4,a5⟩:=cells6 E.hg;have c0:=cell_of (i:=0) E.hk rfl;have f0:=frozen_all E.hk 0)))
 replace E:=E.set 0 (.int .u8 v0)
 generalize w3.setCell _ _=W at E ⊢
 clear a0 a1 a2 a3 a4 a5 c0 f0 hb3
 obtain⟨a0,a1,a2,a3,a4,a5⟩:=cells6 E.hg
 go_upto_region 7 with (first|(go_at_call 137;((with_reducible refine (fixed_is op r o i _ HR.out HO.out HI.out).mono ?_);rintro e w4 ⟨rfl,hb4⟩;replace E:=E.below hb4;clear a0 a1 a2 a3 a4 a5;obtain⟨a0,a1,a2,a3,a4,a5⟩:=cells6 E.hg;have c1:=cell_of (i:=1) E.hk rfl;have f1:=frozen_all E.hk 1)))
 go_upto_region 8 with (fail)
 replace E:=E.set 1 (.int .u8 v1)
 generalize w4.setCell _ _=W at E ⊢
 clear a0 a1 a2 a3 a4 a5 c1 f1 hb4
 refine wp_region_still_tail 7 (by kernel_rfl) (by kernel_rfl) ?_
 simp only [List.take_succ_cons,List.take_zero,List.drop_succ_cons,List.drop_zero]
 change wpStill _ _ (World.drew _) _ _ _
 replace E:=E.below ((Below.refl W.heap.size W).drew)
 obtain⟨D,hD⟩:∃ D,D=W.drew:=⟨_,rfl⟩
 rw [← hD] at E ⊢
 have HD:=Lib.hid hD
 clear hD
 obtain⟨a0,a1,a2,a3,a4,a5⟩:=cells6 E.hg
 repeat still_step
 refine wpStill_nil ?_
 change wpList _ _ _ _ _ W.drew
 rw [← HD.out]
 clear HD a0 a1 a2 a3 a4 a5
 go_wp2_with (go_at_call 138;((with_reducible refine (put16_at k 2 _ _ v2 v3 _ _ E.hk (by simp) H2.out H3.out).mono ?_);rintro e w5 ⟨rfl,rfl⟩))
 replace E:=(E.set 2 (.int .u8 v2)).set 3 (.int .u8 v3)
 clear hq0 hq1
 generalize (D.setCell _ _).setCell _ _=W at E ⊢
 refine wp_region_still_tail 7 (by kernel_rfl) (by kernel_rfl) ?_
 simp only [List.take_succ_cons,List.take_zero,List.drop_succ_cons,List.drop_zero]
 change wpStill _ _ (World.drew _) _ _ _
 replace E:=E.below ((Below.refl W.heap.size W).drew)
 obtain⟨D,hD⟩:∃ D,D=W.drew:=⟨_,rfl⟩
 rw [← hD] at E ⊢
 have HD:=Lib.hid hD
 clear hD
 obtain⟨a0,a1,a2,a3,a4,a5⟩:=cells6 E.hg
 repeat still_step
 refine wpStill_nil ?_
 change wpList _ _ _ _ _ W.drew
 rw [← HD.out]
 clear HD a0 a1 a2 a3 a4 a5
 go_wp2_with (go_at_call 139;((with_reducible refine (put32_at k 4 _ _ v4 v5 v6 v7 _ _ E.hk (by simp) H4.out H5.out H6.out H7.out).mono ?_);rintro e w6 ⟨rfl,rfl⟩))
 replace E:=(((E.set 4 (.int .u8 v4)).set 5 (.int .u8 v5)).set 6 (.int .u8 v6)).set 7 (.int .u8 v7)
 generalize (((D.setCell _ _).setCell _ _).setCell _ _).setCell _ _=W at E ⊢
 refine wp_region_still_tail 6 (by kernel_rfl) (by kernel_rfl) ?_
 simp only [List.take_succ_cons,List.take_zero,List.drop_succ_cons,List.drop_zero]
 change wpStill _ _ (World.drew _) _ _ _
 replace E:=E.below ((Below.refl W.heap.size W).drew)
 obtain⟨D,hD⟩:∃ D,D=W.drew:=⟨_,rfl⟩
 rw [← hD] at E ⊢
 have HD:=Lib.hid hD
 clear hD
 obtain⟨a0,a1,a2,a3,a4,a5⟩:=cells6 E.hg
 repeat still_step
 refine wpStill_nil ?_
 change wpList _ _ _ _ _ W.drew
 rw [← HD.out]
 clear HD a0 a1 a2 a3 a4 a5
 go_wp2_with (go_at_call 139;((with_reducible refine (put32_at k 12 _ _ v12 v13 v14 v15 _ _ E.hk (by simp) H12.out H13.out H14.out H15.out).mono ?_);rintro e w6 ⟨rfl,rfl⟩))
 replace E:=(((E.set 12 (.int .u8 v12)).set 13 (.int .u8 v13)).set 14 (.int .u8 v14)).set 15 (.int .u8 v15)
 exact bodyPost_ret (v:=.tuple #[.slice (some ⟨k,0,none⟩) 16 16,.int .i64 0]) (by simp [results,Tryz.results86,go_sem]) rfl ⟨k,E.le,rfl,by have hh:=E.hk;simp only [List.setIfInBounds_toArray,List.set_cons_zero,List.set_cons_succ] at hh;exact hh,E.hb⟩
end Go.Proofs.YtihiggnglmhggaaGreatDoor.L5
