/- What Decode returns where the fields are read: the instruction that encodes to these bytes, or the error. Condition: the table of widths reads as laid, and the bytes are known. -/
import Derived.Test.YtdgnjhhieemcaaaGreatDoorM11
set_option maxRecDepth 100000
set_option maxHeartbeats 4000000
namespace Go.Proofs.YtdgnjhhieemcaaaGreatDoor.L5
open Go.RowKit L3 L1 L4
theorem cell_up {w W:World} {p:Addr} {v:Value} (hb:Below w.heap.size w W) (h:w.cell? p=some v):W.cell? p=some v:=(hb.cell (World.block_lt_of_cell? w _ h)).trans h
theorem Bytes.up {w W:World} {k o:Nat} {l:List UInt8} (h:Bytes w k o l) (hb:Below w.heap.size w W):Bytes W k o l:=fun j hj=>cell_up hb (h j hj)
theorem Bytes.row {w:World} {k:Nat} {l:List UInt8} (h:w.heap[k]?=some (.cells (byC l) 5)):Bytes w k 0 l:=fun j hj=>by
 rw [Nat.zero_add]
 exact cell_of h (by simp [byC,hj])
section
variable (k o n cap:Nat) (c0 c1 c2 c3 c4 c5 c6 c7:UInt8) (off imm:Int) (w:World) (hw:Wid w) (h:Eight w k o c0 c1 c2 c3 c4 c5 c6 c7) (hn:8≤n) (hc:n≤cap) (hm:n≤9223372036854775807) (ho:sx 16 ((c2.toNat:Int)*1+(c3.toNat:Int)*256)=off) (hi:sx 32 ((c4.toNat:Int)*1+(c5.toNat:Int)*256+(c6.toNat:Int)*65536+(c7.toNat:Int)*16777216)=imm) (op:Int) (r ok:Bool) (hid:idF (c0.toNat:Int) ((c1.toNat:Int) / 16) off imm 86 0=(op,r,ok)) (hok:ok=true) (f:Int) (hf:frm (ix op)=f)
include k o n cap c0 c1 c2 c3 c4 c5 c6 c7 off imm w hw h hn hc hm ho hi op r ok hid hok f hf
theorem dec_bad1 (hs:slo f=1) (hd11:(c1.toNat:Int) % 16≤10) (hs11:(c1.toNat:Int) / 16≤10)
  (d sv ov iv:Int) (hd:(if uD f then (c1.toNat:Int) % 16 else 0)=d) (hsv:(if uS f r then (c1.toNat:Int) / 16 else 0)=sv) (hov:(if uO f then off else 0)=ov) (hiv:(if uI f r then imm else 0)=iv) (R:Int) (hR:chkF f r d sv ov iv=R) (hR0:(R != 0)=true) :
  Calls Tryz.prog 233 #[.slice (some ⟨k,o,none⟩) n cap] w fun e w'=>e=.returned (.tuple #[.agg #[.int .i64 0,.bool false,.int .i64 0,.int .i64 0,.int .i64 0,.int .i64 0],.int .i64 0,.int .i64 12])∧Below w.heap.size w w':=by
 have HT:=Lib.hid (fun (W:World)=>slots_at op f 1 W hf hs)
 have HU:=Lib.hid (fun (W:World)=>used_at op f r 0 false ((c1.toNat:Int) % 16) ((c1.toNat:Int) / 16) off imm d sv ov iv W hf hd hsv hov hiv)
 have hd1:(c1.toNat:Int) % 16<11:=by omega
 have hr1:(c1.toNat:Int) / 16<11:=by omega
 clear hd hsv hov hiv hd11 hs11 hs
 have HE:=Lib.hid (fun (W:World) (hw:Wid W)=>encode_no op r d sv ov iv f R W hw hf hR hR0)
 clear hf hR
 have HH:=Lib.hid h
 have HW:=Lib.hid hw
 have HF:=Lib.hid (fun (W:World) (hb:Below w.heap.size w W)=>fields_at k o n cap c0 c1 c2 c3 c4 c5 c6 c7 off imm W (wid_below hw hb) (h.below hb) hn hc hm ho hi)
 have HD:=Lib.hid (fun (W:World)=>ident_is (c0.toNat:Int) ((c1.toNat:Int) / 16) off imm op r ok W hid)
 have n8:¬ (n:Int)<8:=by omega
 have n0:0<n:=by omega
 have b1:=c1.toNat_lt
 clear hw h ho hi hid hn hc hm
 go_enter Tryz.func233,Tryz.ntmps233
 go_upto_region 4 with (go_at_call 262;((with_reducible refine (HF.out _ (bnew _ _)).mono ?_);rintro e w1 ⟨rfl,hb1⟩))
 have S:=(DecS.start w #[.int .i64 0,.bool false,.int .i64 0,.int .i64 0,.int .i64 0,.int .i64 0]).below (bch hb1 (bnew w1 (.cells (insA 0 false ((c1.toNat:Int) % 16) ((c1.toNat:Int) / 16) off imm) 45)))
 have h5:=heap_alloc_last w1 (.cells (insA 0 false ((c1.toNat:Int) % 16) ((c1.toNat:Int) / 16) off imm) 45)
 obtain⟨g,hg⟩:∃ g,g=w.heap.size:=⟨_,rfl⟩
 obtain⟨g5,hg5⟩:∃ g5,g5=w1.heap.size:=⟨_,rfl⟩
 have hs1:=hb1.size
 simp only [World.size_alloc] at hs1
 have hne:g≠g5:=by omega
 have hle5:w.heap.size≤g5:=by omega
 rw [← hg] at S ⊢
 rw [← hg5] at h5 ⊢
 generalize w1.alloc (.cells _ 45)=W at S h5 ⊢
 clear hb1 hg hg5 hs1
 have n8':=n8
 have K:DecK w g g5 #[.int .i64 0,.bool false,.int .i64 0,.int .i64 0,.int .i64 0,.int .i64 0] (insA 0 false ((c1.toNat:Int) % 16) ((c1.toNat:Int) / 16) off imm) W:=⟨S,h5⟩
 have d0:=(HH.out.below S.hb).a0
 have HL:=Lib.hid hle5
 have HN:=Lib.hid hne
 clear S h5 hle5 hne
 go_region_held3 (fun w'=>DecK w g g5 #[.int .i64 0,.bool false,.int .i64 0,.int .i64 0,.int .i64 0,.int .i64 0] (insA 0 false ((c1.toNat:Int) % 16) ((c1.toNat:Int) / 16) off imm) w'∧w'.cell? ⟨k,o,none⟩=some (.int .u8 (c0.toNat:Int))∧w'.cell? ⟨g5,3,none⟩=some (.int .i64 ((c1.toNat:Int) / 16))∧w'.cell? ⟨g5,4,none⟩=some (.int .i64 off)∧w'.cell? ⟨g5,5,none⟩=some (.int .i64 imm))
  (first|exact keepI (Below.refl _ _).drew K d0|exact keepJ hb9 (by assumption)|assumption)
  (first|(go_at_call 263;((with_reducible refine (HD.out _).mono ?_);rintro e w9 ⟨rfl,hb9⟩)))
 all_goals
  rename_i hh
  replace K:=hh.1
  clear hh d0
  go_upto_region 13 with (first|(go_at_call 148;((with_reducible refine (HT.out _).mono ?_);rintro e w2 ⟨rfl,hb2⟩;replace K:=K.below hb2;obtain⟨a0,a1,a2,a3,a4,a5⟩:=cells6 K.2))|(go_at_call 264;((with_reducible refine (HU.out _).mono ?_);rintro e w3 ⟨rfl,hb3⟩;replace K:=K.below hb3;have S:=K.1))|(refine wpList_store_row rfl _ _ _ rfl g (insA op r d sv ov iv) rfl rfl 45 _ S.hg (by kernel_rfl) rfl (ins_one _ _ _ _ _ _) ?_;replace S:=S.set (insA op r d sv ov iv)))
  clear a0 a1 a2 a3 a4 a5 K hb2 hb3 hd1 hr1
  generalize w3.setRow _ _=W3 at S ⊢
  obtain⟨x0,x1,x2,x3,x4,x5⟩:=cells6 S.hg
  go_upto_region 17 with (first|(go_at_call 121;((with_reducible refine (HE.out _ (wid_below HW.out S.hb)).mono ?_);rintro e w4 ⟨rfl,hb4⟩;replace S:=S.below hb4)))
  clear x0 x1 x2 x3 x4 x5
  go_wp2_with (first|(refine wpList_store_row rfl _ _ _ rfl g #[.int .i64 0,.bool false,.int .i64 0,.int .i64 0,.int .i64 0,.int .i64 0] rfl rfl 45 _ S.hg (by kernel_rfl) rfl (ins_one _ _ _ _ _ _) ?_;replace S:=S.set #[.int .i64 0,.bool false,.int .i64 0,.int .i64 0,.int .i64 0,.int .i64 0];obtain⟨x0,x1,x2,x3,x4,x5⟩:=cells6 S.hg))
  exact bodyPost_ret (v:=.tuple #[.agg #[.int .i64 0,.bool false,.int .i64 0,.int .i64 0,.int .i64 0,.int .i64 0],.int .i64 0,.int .i64 12]) (by simp [results,Tryz.results233,go_sem,x0,x1,x2,x3,x4,x5]) rfl ⟨rfl,S.hb⟩
theorem dec_no1 (hs:slo f=1) (hd11:(c1.toNat:Int) % 16≤10) (hs11:(c1.toNat:Int) / 16≤10)
  (d sv ov iv:Int) (hd:(if uD f then (c1.toNat:Int) % 16 else 0)=d) (hsv:(if uS f r then (c1.toNat:Int) / 16 else 0)=sv) (hov:(if uO f then off else 0)=ov) (hiv:(if uI f r then imm else 0)=iv) (l l2:List UInt8) (m:Nat) (hln:l.length=n) (hbl:Bytes w k o l) (hok2:OkI f r d sv ov iv) (hI0:-9223372036854775808≤iv) (hI1:iv≤9223372036854775807) (hl2:encL (ix op) f r d sv ov iv=l2) (hm2:l2.length=m) (hmn:m≤n) (hpr:(l.take m==l2)=false) :
  Calls Tryz.prog 233 #[.slice (some ⟨k,o,none⟩) n cap] w fun e w'=>e=.returned (.tuple #[.agg #[.int .i64 0,.bool false,.int .i64 0,.int .i64 0,.int .i64 0,.int .i64 0],.int .i64 0,.int .i64 12])∧Below w.heap.size w w':=by
 have HT:=Lib.hid (fun (W:World)=>slots_at op f 1 W hf hs)
 have HU:=Lib.hid (fun (W:World)=>used_at op f r 0 false ((c1.toNat:Int) % 16) ((c1.toNat:Int) / 16) off imm d sv ov iv W hf hd hsv hov hiv)
 have hd1:(c1.toNat:Int) % 16<11:=by omega
 have hr1:(c1.toNat:Int) / 16<11:=by omega
 clear hd hsv hov hiv hd11 hs11 hs
 have HE:=Lib.hid (fun (W:World) (hw:Wid W)=>encode_at op r d sv ov iv f l2 m W hw hf hok2 hI0 hI1 hl2 hm2)
 have HP:=Lib.hid (fun (W:World) (k2:Nat) (hb:Below w.heap.size w W) (h2:W.heap[k2]?=some (.cells (byC l2) 5))=>pre_yes k o n cap k2 m m l l2 false W hln hm2 (hbl.up hb) (.row h2) (by omega) hmn hpr)
 clear hf hln hbl hok2 hI0 hI1 hl2 hm2 hmn hpr
 have HH:=Lib.hid h
 have HW:=Lib.hid hw
 have HF:=Lib.hid (fun (W:World) (hb:Below w.heap.size w W)=>fields_at k o n cap c0 c1 c2 c3 c4 c5 c6 c7 off imm W (wid_below hw hb) (h.below hb) hn hc hm ho hi)
 have HD:=Lib.hid (fun (W:World)=>ident_is (c0.toNat:Int) ((c1.toNat:Int) / 16) off imm op r ok W hid)
 have n8:¬ (n:Int)<8:=by omega
 have n0:0<n:=by omega
 have b1:=c1.toNat_lt
 clear hw h ho hi hid hn hc hm
 go_enter Tryz.func233,Tryz.ntmps233
 go_upto_region 4 with (go_at_call 262;((with_reducible refine (HF.out _ (bnew _ _)).mono ?_);rintro e w1 ⟨rfl,hb1⟩))
 have S:=(DecS.start w #[.int .i64 0,.bool false,.int .i64 0,.int .i64 0,.int .i64 0,.int .i64 0]).below (bch hb1 (bnew w1 (.cells (insA 0 false ((c1.toNat:Int) % 16) ((c1.toNat:Int) / 16) off imm) 45)))
 have h5:=heap_alloc_last w1 (.cells (insA 0 false ((c1.toNat:Int) % 16) ((c1.toNat:Int) / 16) off imm) 45)
 obtain⟨g,hg⟩:∃ g,g=w.heap.size:=⟨_,rfl⟩
 obtain⟨g5,hg5⟩:∃ g5,g5=w1.heap.size:=⟨_,rfl⟩
 have hs1:=hb1.size
 simp only [World.size_alloc] at hs1
 have hne:g≠g5:=by omega
 have hle5:w.heap.size≤g5:=by omega
 rw [← hg] at S ⊢
 rw [← hg5] at h5 ⊢
 generalize w1.alloc (.cells _ 45)=W at S h5 ⊢
 clear hb1 hg hg5 hs1
 have n8':=n8
 have K:DecK w g g5 #[.int .i64 0,.bool false,.int .i64 0,.int .i64 0,.int .i64 0,.int .i64 0] (insA 0 false ((c1.toNat:Int) % 16) ((c1.toNat:Int) / 16) off imm) W:=⟨S,h5⟩
 have d0:=(HH.out.below S.hb).a0
 have HL:=Lib.hid hle5
 have HN:=Lib.hid hne
 clear S h5 hle5 hne
 go_region_held3 (fun w'=>DecK w g g5 #[.int .i64 0,.bool false,.int .i64 0,.int .i64 0,.int .i64 0,.int .i64 0] (insA 0 false ((c1.toNat:Int) % 16) ((c1.toNat:Int) / 16) off imm) w'∧w'.cell? ⟨k,o,none⟩=some (.int .u8 (c0.toNat:Int))∧w'.cell? ⟨g5,3,none⟩=some (.int .i64 ((c1.toNat:Int) / 16))∧w'.cell? ⟨g5,4,none⟩=some (.int .i64 off)∧w'.cell? ⟨g5,5,none⟩=some (.int .i64 imm))
  (first|exact keepI (Below.refl _ _).drew K d0|exact keepJ hb9 (by assumption)|assumption)
  (first|(go_at_call 263;((with_reducible refine (HD.out _).mono ?_);rintro e w9 ⟨rfl,hb9⟩)))
 all_goals
  rename_i hh
  replace K:=hh.1
  clear hh d0
  go_upto_region 13 with (first|(go_at_call 148;((with_reducible refine (HT.out _).mono ?_);rintro e w2 ⟨rfl,hb2⟩;replace K:=K.below hb2;obtain⟨a0,a1,a2,a3,a4,a5⟩:=cells6 K.2))|(go_at_call 264;((with_reducible refine (HU.out _).mono ?_);rintro e w3 ⟨rfl,hb3⟩;replace K:=K.below hb3;have S:=K.1))|(refine wpList_store_row rfl _ _ _ rfl g (insA op r d sv ov iv) rfl rfl 45 _ S.hg (by kernel_rfl) rfl (ins_one _ _ _ _ _ _) ?_;replace S:=S.set (insA op r d sv ov iv)))
  clear a0 a1 a2 a3 a4 a5 K hb2 hb3 hd1 hr1
  generalize w3.setRow _ _=W3 at S ⊢
  obtain⟨x0,x1,x2,x3,x4,x5⟩:=cells6 S.hg
  go_wp2_with (first|(go_at_call 121;((with_reducible refine (HE.out _ (wid_below HW.out S.hb)).mono ?_);rintro e w4 ⟨k2,hk2,rfl,hc2,hb4⟩;replace S:=S.below hb4;clear x0 x1 x2 x3 x4 x5;obtain⟨x0,x1,x2,x3,x4,x5⟩:=cells6 S.hg))|(go_at_call 211;((with_reducible refine (HP.out _ k2 S.hb hc2).mono ?_);rintro e w5 ⟨rfl,rfl⟩))|(refine wpList_store_row rfl _ _ _ rfl g #[.int .i64 0,.bool false,.int .i64 0,.int .i64 0,.int .i64 0,.int .i64 0] rfl rfl 45 _ S.hg (by kernel_rfl) rfl (ins_one _ _ _ _ _ _) ?_;replace S:=S.set #[.int .i64 0,.bool false,.int .i64 0,.int .i64 0,.int .i64 0,.int .i64 0];clear x0 x1 x2 x3 x4 x5;obtain⟨x0,x1,x2,x3,x4,x5⟩:=cells6 S.hg))
  exact bodyPost_ret (v:=.tuple #[.agg #[.int .i64 0,.bool false,.int .i64 0,.int .i64 0,.int .i64 0,.int .i64 0],.int .i64 0,.int .i64 12]) (by simp [results,Tryz.results233,go_sem,x0,x1,x2,x3,x4,x5]) rfl ⟨rfl,S.hb⟩
theorem dec_yes1 (hs:slo f=1) (hd11:(c1.toNat:Int) % 16≤10) (hs11:(c1.toNat:Int) / 16≤10)
  (d sv ov iv:Int) (hd:(if uD f then (c1.toNat:Int) % 16 else 0)=d) (hsv:(if uS f r then (c1.toNat:Int) / 16 else 0)=sv) (hov:(if uO f then off else 0)=ov) (hiv:(if uI f r then imm else 0)=iv) (l l2:List UInt8) (m:Nat) (hln:l.length=n) (hbl:Bytes w k o l) (hok2:OkI f r d sv ov iv) (hI0:-9223372036854775808≤iv) (hI1:iv≤9223372036854775807) (hl2:encL (ix op) f r d sv ov iv=l2) (hm2:l2.length=m) (hmn:m≤n) (hpr:(l.take m==l2)=true) :
  Calls Tryz.prog 233 #[.slice (some ⟨k,o,none⟩) n cap] w fun e w'=>e=.returned (.tuple #[.agg #[.int .i64 op,.bool r,.int .i64 d,.int .i64 sv,.int .i64 ov,.int .i64 iv],.int .i64 1,.int .i64 0])∧Below w.heap.size w w':=by
 have HT:=Lib.hid (fun (W:World)=>slots_at op f 1 W hf hs)
 have HU:=Lib.hid (fun (W:World)=>used_at op f r 0 false ((c1.toNat:Int) % 16) ((c1.toNat:Int) / 16) off imm d sv ov iv W hf hd hsv hov hiv)
 have hd1:(c1.toNat:Int) % 16<11:=by omega
 have hr1:(c1.toNat:Int) / 16<11:=by omega
 clear hd hsv hov hiv hd11 hs11 hs
 have HE:=Lib.hid (fun (W:World) (hw:Wid W)=>encode_at op r d sv ov iv f l2 m W hw hf hok2 hI0 hI1 hl2 hm2)
 have HP:=Lib.hid (fun (W:World) (k2:Nat) (hb:Below w.heap.size w W) (h2:W.heap[k2]?=some (.cells (byC l2) 5))=>pre_yes k o n cap k2 m m l l2 true W hln hm2 (hbl.up hb) (.row h2) (by omega) hmn hpr)
 clear hf hln hbl hok2 hI0 hI1 hl2 hm2 hmn hpr
 have HH:=Lib.hid h
 have HW:=Lib.hid hw
 have HF:=Lib.hid (fun (W:World) (hb:Below w.heap.size w W)=>fields_at k o n cap c0 c1 c2 c3 c4 c5 c6 c7 off imm W (wid_below hw hb) (h.below hb) hn hc hm ho hi)
 have HD:=Lib.hid (fun (W:World)=>ident_is (c0.toNat:Int) ((c1.toNat:Int) / 16) off imm op r ok W hid)
 have n8:¬ (n:Int)<8:=by omega
 have n0:0<n:=by omega
 have b1:=c1.toNat_lt
 clear hw h ho hi hid hn hc hm
 go_enter Tryz.func233,Tryz.ntmps233
 go_upto_region 4 with (go_at_call 262;((with_reducible refine (HF.out _ (bnew _ _)).mono ?_);rintro e w1 ⟨rfl,hb1⟩))
 have S:=(DecS.start w #[.int .i64 0,.bool false,.int .i64 0,.int .i64 0,.int .i64 0,.int .i64 0]).below (bch hb1 (bnew w1 (.cells (insA 0 false ((c1.toNat:Int) % 16) ((c1.toNat:Int) / 16) off imm) 45)))
 have h5:=heap_alloc_last w1 (.cells (insA 0 false ((c1.toNat:Int) % 16) ((c1.toNat:Int) / 16) off imm) 45)
 obtain⟨g,hg⟩:∃ g,g=w.heap.size:=⟨_,rfl⟩
 obtain⟨g5,hg5⟩:∃ g5,g5=w1.heap.size:=⟨_,rfl⟩
 have hs1:=hb1.size
 simp only [World.size_alloc] at hs1
 have hne:g≠g5:=by omega
 have hle5:w.heap.size≤g5:=by omega
 rw [← hg] at S ⊢
 rw [← hg5] at h5 ⊢
 generalize w1.alloc (.cells _ 45)=W at S h5 ⊢
 clear hb1 hg hg5 hs1
 have n8':=n8
 have K:DecK w g g5 #[.int .i64 0,.bool false,.int .i64 0,.int .i64 0,.int .i64 0,.int .i64 0] (insA 0 false ((c1.toNat:Int) % 16) ((c1.toNat:Int) / 16) off imm) W:=⟨S,h5⟩
 have d0:=(HH.out.below S.hb).a0
 have HL:=Lib.hid hle5
 have HN:=Lib.hid hne
 clear S h5 hle5 hne
 go_region_held3 (fun w'=>DecK w g g5 #[.int .i64 0,.bool false,.int .i64 0,.int .i64 0,.int .i64 0,.int .i64 0] (insA 0 false ((c1.toNat:Int) % 16) ((c1.toNat:Int) / 16) off imm) w'∧w'.cell? ⟨k,o,none⟩=some (.int .u8 (c0.toNat:Int))∧w'.cell? ⟨g5,3,none⟩=some (.int .i64 ((c1.toNat:Int) / 16))∧w'.cell? ⟨g5,4,none⟩=some (.int .i64 off)∧w'.cell? ⟨g5,5,none⟩=some (.int .i64 imm))
  (first|exact keepI (Below.refl _ _).drew K d0|exact keepJ hb9 (by assumption)|assumption)
  (first|(go_at_call 263;((with_reducible refine (HD.out _).mono ?_);rintro e w9 ⟨rfl,hb9⟩)))
 all_goals
  rename_i hh
  replace K:=hh.1
  clear hh d0
  go_upto_region 13 with (first|(go_at_call 148;((with_reducible refine (HT.out _).mono ?_);rintro e w2 ⟨rfl,hb2⟩;replace K:=K.below hb2;obtain⟨a0,a1,a2,a3,a4,a5⟩:=cells6 K.2))|(go_at_call 264;((with_reducible refine (HU.out _).mono ?_);rintro e w3 ⟨rfl,hb3⟩;replace K:=K.below hb3;have S:=K.1))|(refine wpList_store_row rfl _ _ _ rfl g (insA op r d sv ov iv) rfl rfl 45 _ S.hg (by kernel_rfl) rfl (ins_one _ _ _ _ _ _) ?_;replace S:=S.set (insA op r d sv ov iv)))
  clear a0 a1 a2 a3 a4 a5 K hb2 hb3 hd1 hr1
  generalize w3.setRow _ _=W3 at S ⊢
  obtain⟨x0,x1,x2,x3,x4,x5⟩:=cells6 S.hg
  go_wp2_with (first|(go_at_call 121;((with_reducible refine (HE.out _ (wid_below HW.out S.hb)).mono ?_);rintro e w4 ⟨k2,hk2,rfl,hc2,hb4⟩;replace S:=S.below hb4;clear x0 x1 x2 x3 x4 x5;obtain⟨x0,x1,x2,x3,x4,x5⟩:=cells6 S.hg))|(go_at_call 211;((with_reducible refine (HP.out _ k2 S.hb hc2).mono ?_);rintro e w5 ⟨rfl,rfl⟩))|(refine wpList_store_row rfl _ _ _ rfl g (insA op r d sv ov iv) rfl rfl 45 _ S.hg (by kernel_rfl) rfl (ins_one _ _ _ _ _ _) ?_;replace S:=S.set (insA op r d sv ov iv);clear x0 x1 x2 x3 x4 x5;obtain⟨x0,x1,x2,x3,x4,x5⟩:=cells6 S.hg))
  exact bodyPost_ret (v:=.tuple #[.agg #[.int .i64 op,.bool r,.int .i64 d,.int .i64 sv,.int .i64 ov,.int .i64 iv],.int .i64 1,.int .i64 0]) (by simp [results,Tryz.results233,go_sem,x0,x1,x2,x3,x4,x5]) rfl ⟨rfl,S.hb⟩
theorem dec_bad2 (hs:slo f=2) (h16:16≤n) (hd11:(c1.toNat:Int) % 16≤10) (hs11:(c1.toNat:Int) / 16≤10)
  (d sv ov iv:Int) (hd:(if uD f then (c1.toNat:Int) % 16 else 0)=d) (hsv:(if uS f r then (c1.toNat:Int) / 16 else 0)=sv) (hov:(if uO f then off else 0)=ov) (hiv:(if uI f r then imm else 0)=iv)
  (c8 c9 ca cb:UInt8) (g8:w.cell? ⟨k,o+12,none⟩=some (.int .u8 (c8.toNat:Int))) (g9:w.cell? ⟨k,o+12+1,none⟩=some (.int .u8 (c9.toNat:Int))) (ga:w.cell? ⟨k,o+12+2,none⟩=some (.int .u8 (ca.toNat:Int))) (gb:w.cell? ⟨k,o+12+3,none⟩=some (.int .u8 (cb.toNat:Int)))
  (hi' v:Int) (hhi:sx 32 ((c8.toNat:Int)*1+(c9.toNat:Int)*256+(ca.toNat:Int)*65536+(cb.toNat:Int)*16777216)=hi') (hv:bits .or .i64 (wrap64 (iv % 4294967296)) (hi'*4294967296)=v) (hhb0:-2147483648≤hi') (hhb1:hi'≤2147483647) (R:Int) (hR:chkF f r d sv ov v=R) (hR0:(R != 0)=true) :
  Calls Tryz.prog 233 #[.slice (some ⟨k,o,none⟩) n cap] w fun e w'=>e=.returned (.tuple #[.agg #[.int .i64 0,.bool false,.int .i64 0,.int .i64 0,.int .i64 0,.int .i64 0],.int .i64 0,.int .i64 12])∧Below w.heap.size w w':=by
 have HT:=Lib.hid (fun (W:World)=>slots_at op f 2 W hf hs)
 have n16:¬ (n:Int)<16:=by omega
 have HG:=Lib.hid (fun (W:World) (hb:Below w.heap.size w W)=>(get4_at k (o+12) (cap-12) c8 c9 ca cb hi' W (wid_below hw hb) (cell_up hb g8) (cell_up hb g9) (cell_up hb ga) (cell_up hb gb) hhi).mono (R':=fun e w''=>e=.returned (.int .i64 hi')∧w''=W) (fun _ _ h=>⟨h.1,h.2.symm⟩))
 have scg:=sl_cg k o n cap (by omega)
 have HV:=Lib.hid hv
 clear g8 g9 ga gb hhi hv
 have HU:=Lib.hid (fun (W:World)=>used_at op f r 0 false ((c1.toNat:Int) % 16) ((c1.toNat:Int) / 16) off imm d sv ov iv W hf hd hsv hov hiv)
 have hd1:(c1.toNat:Int) % 16<11:=by omega
 have hr1:(c1.toNat:Int) / 16<11:=by omega
 clear hd hsv hov hiv hd11 hs11 hs h16
 have HE:=Lib.hid (fun (W:World) (hw:Wid W)=>encode_no op r d sv ov v f R W hw hf hR hR0)
 clear hf hR
 have HH:=Lib.hid h
 have HW:=Lib.hid hw
 have HF:=Lib.hid (fun (W:World) (hb:Below w.heap.size w W)=>fields_at k o n cap c0 c1 c2 c3 c4 c5 c6 c7 off imm W (wid_below hw hb) (h.below hb) hn hc hm ho hi)
 have HD:=Lib.hid (fun (W:World)=>ident_is (c0.toNat:Int) ((c1.toNat:Int) / 16) off imm op r ok W hid)
 have n8:¬ (n:Int)<8:=by omega
 have n0:0<n:=by omega
 have b1:=c1.toNat_lt
 clear hw h ho hi hid hn hc hm
 go_enter Tryz.func233,Tryz.ntmps233
 go_upto_region 4 with (go_at_call 262;((with_reducible refine (HF.out _ (bnew _ _)).mono ?_);rintro e w1 ⟨rfl,hb1⟩))
 have S:=(DecS.start w #[.int .i64 0,.bool false,.int .i64 0,.int .i64 0,.int .i64 0,.int .i64 0]).below (bch hb1 (bnew w1 (.cells (insA 0 false ((c1.toNat:Int) % 16) ((c1.toNat:Int) / 16) off imm) 45)))
 have h5:=heap_alloc_last w1 (.cells (insA 0 false ((c1.toNat:Int) % 16) ((c1.toNat:Int) / 16) off imm) 45)
 obtain⟨g,hg⟩:∃ g,g=w.heap.size:=⟨_,rfl⟩
 obtain⟨g5,hg5⟩:∃ g5,g5=w1.heap.size:=⟨_,rfl⟩
 have hs1:=hb1.size
 simp only [World.size_alloc] at hs1
 have hne:g≠g5:=by omega
 have hle5:w.heap.size≤g5:=by omega
 rw [← hg] at S ⊢
 rw [← hg5] at h5 ⊢
 generalize w1.alloc (.cells _ 45)=W at S h5 ⊢
 clear hb1 hg hg5 hs1
 have n8':=n8
 have K:DecK w g g5 #[.int .i64 0,.bool false,.int .i64 0,.int .i64 0,.int .i64 0,.int .i64 0] (insA 0 false ((c1.toNat:Int) % 16) ((c1.toNat:Int) / 16) off imm) W:=⟨S,h5⟩
 have d0:=(HH.out.below S.hb).a0
 have HL:=Lib.hid hle5
 have HN:=Lib.hid hne
 clear S h5 hle5 hne
 go_region_held3 (fun w'=>DecK w g g5 #[.int .i64 0,.bool false,.int .i64 0,.int .i64 0,.int .i64 0,.int .i64 0] (insA 0 false ((c1.toNat:Int) % 16) ((c1.toNat:Int) / 16) off imm) w'∧w'.cell? ⟨k,o,none⟩=some (.int .u8 (c0.toNat:Int))∧w'.cell? ⟨g5,3,none⟩=some (.int .i64 ((c1.toNat:Int) / 16))∧w'.cell? ⟨g5,4,none⟩=some (.int .i64 off)∧w'.cell? ⟨g5,5,none⟩=some (.int .i64 imm))
  (first|exact keepI (Below.refl _ _).drew K d0|exact keepJ hb9 (by assumption)|assumption)
  (first|(go_at_call 263;((with_reducible refine (HD.out _).mono ?_);rintro e w9 ⟨rfl,hb9⟩)))
 all_goals
  rename_i hh
  replace K:=hh.1
  clear hh d0
  go_upto_region 13 with (first|(go_at_call 148;((with_reducible refine (HT.out _).mono ?_);rintro e w2 ⟨rfl,hb2⟩;replace K:=K.below hb2;obtain⟨a0,a1,a2,a3,a4,a5⟩:=cells6 K.2))|(go_at_call 264;((with_reducible refine (HU.out _).mono ?_);rintro e w3 ⟨rfl,hb3⟩;replace K:=K.below hb3;have S:=K.1))|(refine wpList_store_row rfl _ _ _ rfl g (insA op r d sv ov iv) rfl rfl 45 _ S.hg (by kernel_rfl) rfl (ins_one _ _ _ _ _ _) ?_;replace S:=S.set (insA op r d sv ov iv)))
  clear a0 a1 a2 a3 a4 a5 K hb2 hb3 hd1 hr1
  generalize w3.setRow _ _=W3 at S ⊢
  go_upto_region 14 with (fail)
  refine wp_region_still_tail 10 (by kernel_rfl) (by kernel_rfl) ?_
  simp only [List.take_succ_cons,List.take_zero,List.drop_succ_cons,List.drop_zero]
  change wpStill _ _ (World.drew _) _ _ _
  replace S:=S.below ((Below.refl W3.heap.size W3).drew)
  obtain⟨D,hD⟩:∃ D,D=W3.drew:=⟨_,rfl⟩
  rw [← hD] at S ⊢
  have HQ:=Lib.hid hD
  clear hD
  have GG:=Lib.hid (HG.out D S.hb)
  obtain⟨x0,x1,x2,x3,x4,x5⟩:=cells6 S.hg
  have f5:=frozen_all S.hg 5
  have m2:IntKind.i64.wrap (hi'*4294967296)=hi'*4294967296:=IntWalk.i64_in _ (by omega)
  repeat still_step
  still_call GG.out
  repeat still_step
  refine wpStill_nil ?_
  change wpList _ _ _ _ _ W3.drew
  rw [← HQ.out]
  clear HQ GG
  go_upto_region 15 with (fail)
  rw [HV.out]
  replace S:=S.setc 5 (.int .i64 v)
  clear x0 x1 x2 x3 x4 x5 f5 m2
  generalize D.setCell _ _=W4 at S ⊢
  replace S:DecS w W4 g (insA op r d sv ov v):=S
  obtain⟨x0,x1,x2,x3,x4,x5⟩:=cells6 S.hg
  go_upto_region 17 with (first|(go_at_call 121;((with_reducible refine (HE.out _ (wid_below HW.out S.hb)).mono ?_);rintro e w4 ⟨rfl,hb4⟩;replace S:=S.below hb4)))
  clear x0 x1 x2 x3 x4 x5
  go_wp2_with (first|(refine wpList_store_row rfl _ _ _ rfl g #[.int .i64 0,.bool false,.int .i64 0,.int .i64 0,.int .i64 0,.int .i64 0] rfl rfl 45 _ S.hg (by kernel_rfl) rfl (ins_one _ _ _ _ _ _) ?_;replace S:=S.set #[.int .i64 0,.bool false,.int .i64 0,.int .i64 0,.int .i64 0,.int .i64 0];obtain⟨x0,x1,x2,x3,x4,x5⟩:=cells6 S.hg))
  exact bodyPost_ret (v:=.tuple #[.agg #[.int .i64 0,.bool false,.int .i64 0,.int .i64 0,.int .i64 0,.int .i64 0],.int .i64 0,.int .i64 12]) (by simp [results,Tryz.results233,go_sem,x0,x1,x2,x3,x4,x5]) rfl ⟨rfl,S.hb⟩
theorem dec_no2 (hs:slo f=2) (h16:16≤n) (hd11:(c1.toNat:Int) % 16≤10) (hs11:(c1.toNat:Int) / 16≤10)
  (d sv ov iv:Int) (hd:(if uD f then (c1.toNat:Int) % 16 else 0)=d) (hsv:(if uS f r then (c1.toNat:Int) / 16 else 0)=sv) (hov:(if uO f then off else 0)=ov) (hiv:(if uI f r then imm else 0)=iv)
  (c8 c9 ca cb:UInt8) (g8:w.cell? ⟨k,o+12,none⟩=some (.int .u8 (c8.toNat:Int))) (g9:w.cell? ⟨k,o+12+1,none⟩=some (.int .u8 (c9.toNat:Int))) (ga:w.cell? ⟨k,o+12+2,none⟩=some (.int .u8 (ca.toNat:Int))) (gb:w.cell? ⟨k,o+12+3,none⟩=some (.int .u8 (cb.toNat:Int)))
  (hi' v:Int) (hhi:sx 32 ((c8.toNat:Int)*1+(c9.toNat:Int)*256+(ca.toNat:Int)*65536+(cb.toNat:Int)*16777216)=hi') (hv:bits .or .i64 (wrap64 (iv % 4294967296)) (hi'*4294967296)=v) (hhb0:-2147483648≤hi') (hhb1:hi'≤2147483647) (l l2:List UInt8) (m:Nat) (hln:l.length=n) (hbl:Bytes w k o l) (hok2:OkI f r d sv ov v) (hI0:-9223372036854775808≤v) (hI1:v≤9223372036854775807) (hl2:encL (ix op) f r d sv ov v=l2) (hm2:l2.length=m) (hmn:m≤n) (hpr:(l.take m==l2)=false) :
  Calls Tryz.prog 233 #[.slice (some ⟨k,o,none⟩) n cap] w fun e w'=>e=.returned (.tuple #[.agg #[.int .i64 0,.bool false,.int .i64 0,.int .i64 0,.int .i64 0,.int .i64 0],.int .i64 0,.int .i64 12])∧Below w.heap.size w w':=by
 have HT:=Lib.hid (fun (W:World)=>slots_at op f 2 W hf hs)
 have n16:¬ (n:Int)<16:=by omega
 have HG:=Lib.hid (fun (W:World) (hb:Below w.heap.size w W)=>(get4_at k (o+12) (cap-12) c8 c9 ca cb hi' W (wid_below hw hb) (cell_up hb g8) (cell_up hb g9) (cell_up hb ga) (cell_up hb gb) hhi).mono (R':=fun e w''=>e=.returned (.int .i64 hi')∧w''=W) (fun _ _ h=>⟨h.1,h.2.symm⟩))
 have scg:=sl_cg k o n cap (by omega)
 have HV:=Lib.hid hv
 clear g8 g9 ga gb hhi hv
 have HU:=Lib.hid (fun (W:World)=>used_at op f r 0 false ((c1.toNat:Int) % 16) ((c1.toNat:Int) / 16) off imm d sv ov iv W hf hd hsv hov hiv)
 have hd1:(c1.toNat:Int) % 16<11:=by omega
 have hr1:(c1.toNat:Int) / 16<11:=by omega
 clear hd hsv hov hiv hd11 hs11 hs h16
 have HE:=Lib.hid (fun (W:World) (hw:Wid W)=>encode_at op r d sv ov v f l2 m W hw hf hok2 hI0 hI1 hl2 hm2)
 have HP:=Lib.hid (fun (W:World) (k2:Nat) (hb:Below w.heap.size w W) (h2:W.heap[k2]?=some (.cells (byC l2) 5))=>pre_yes k o n cap k2 m m l l2 false W hln hm2 (hbl.up hb) (.row h2) (by omega) hmn hpr)
 clear hf hln hbl hok2 hI0 hI1 hl2 hm2 hmn hpr
 have HH:=Lib.hid h
 have HW:=Lib.hid hw
 have HF:=Lib.hid (fun (W:World) (hb:Below w.heap.size w W)=>fields_at k o n cap c0 c1 c2 c3 c4 c5 c6 c7 off imm W (wid_below hw hb) (h.below hb) hn hc hm ho hi)
 have HD:=Lib.hid (fun (W:World)=>ident_is (c0.toNat:Int) ((c1.toNat:Int) / 16) off imm op r ok W hid)
 have n8:¬ (n:Int)<8:=by omega
 have n0:0<n:=by omega
 have b1:=c1.toNat_lt
 clear hw h ho hi hid hn hc hm
 go_enter Tryz.func233,Tryz.ntmps233
 go_upto_region 4 with (go_at_call 262;((with_reducible refine (HF.out _ (bnew _ _)).mono ?_);rintro e w1 ⟨rfl,hb1⟩))
 have S:=(DecS.start w #[.int .i64 0,.bool false,.int .i64 0,.int .i64 0,.int .i64 0,.int .i64 0]).below (bch hb1 (bnew w1 (.cells (insA 0 false ((c1.toNat:Int) % 16) ((c1.toNat:Int) / 16) off imm) 45)))
 have h5:=heap_alloc_last w1 (.cells (insA 0 false ((c1.toNat:Int) % 16) ((c1.toNat:Int) / 16) off imm) 45)
 obtain⟨g,hg⟩:∃ g,g=w.heap.size:=⟨_,rfl⟩
 obtain⟨g5,hg5⟩:∃ g5,g5=w1.heap.size:=⟨_,rfl⟩
 have hs1:=hb1.size
 simp only [World.size_alloc] at hs1
 have hne:g≠g5:=by omega
 have hle5:w.heap.size≤g5:=by omega
 rw [← hg] at S ⊢
 rw [← hg5] at h5 ⊢
 generalize w1.alloc (.cells _ 45)=W at S h5 ⊢
 clear hb1 hg hg5 hs1
 have n8':=n8
 have K:DecK w g g5 #[.int .i64 0,.bool false,.int .i64 0,.int .i64 0,.int .i64 0,.int .i64 0] (insA 0 false ((c1.toNat:Int) % 16) ((c1.toNat:Int) / 16) off imm) W:=⟨S,h5⟩
 have d0:=(HH.out.below S.hb).a0
 have HL:=Lib.hid hle5
 have HN:=Lib.hid hne
 clear S h5 hle5 hne
 go_region_held3 (fun w'=>DecK w g g5 #[.int .i64 0,.bool false,.int .i64 0,.int .i64 0,.int .i64 0,.int .i64 0] (insA 0 false ((c1.toNat:Int) % 16) ((c1.toNat:Int) / 16) off imm) w'∧w'.cell? ⟨k,o,none⟩=some (.int .u8 (c0.toNat:Int))∧w'.cell? ⟨g5,3,none⟩=some (.int .i64 ((c1.toNat:Int) / 16))∧w'.cell? ⟨g5,4,none⟩=some (.int .i64 off)∧w'.cell? ⟨g5,5,none⟩=some (.int .i64 imm))
  (first|exact keepI (Below.refl _ _).drew K d0|exact keepJ hb9 (by assumption)|assumption)
  (first|(go_at_call 263;((with_reducible refine (HD.out _).mono ?_);rintro e w9 ⟨rfl,hb9⟩)))
 all_goals
  rename_i hh
  replace K:=hh.1
  clear hh d0
  go_upto_region 13 with (first|(go_at_call 148;((with_reducible refine (HT.out _).mono ?_);rintro e w2 ⟨rfl,hb2⟩;replace K:=K.below hb2;obtain⟨a0,a1,a2,a3,a4,a5⟩:=cells6 K.2))|(go_at_call 264;((with_reducible refine (HU.out _).mono ?_);rintro e w3 ⟨rfl,hb3⟩;replace K:=K.below hb3;have S:=K.1))|(refine wpList_store_row rfl _ _ _ rfl g (insA op r d sv ov iv) rfl rfl 45 _ S.hg (by kernel_rfl) rfl (ins_one _ _ _ _ _ _) ?_;replace S:=S.set (insA op r d sv ov iv)))
  clear a0 a1 a2 a3 a4 a5 K hb2 hb3 hd1 hr1
  generalize w3.setRow _ _=W3 at S ⊢
  go_upto_region 14 with (fail)
  refine wp_region_still_tail 10 (by kernel_rfl) (by kernel_rfl) ?_
  simp only [List.take_succ_cons,List.take_zero,List.drop_succ_cons,List.drop_zero]
  change wpStill _ _ (World.drew _) _ _ _
  replace S:=S.below ((Below.refl W3.heap.size W3).drew)
  obtain⟨D,hD⟩:∃ D,D=W3.drew:=⟨_,rfl⟩
  rw [← hD] at S ⊢
  have HQ:=Lib.hid hD
  clear hD
  have GG:=Lib.hid (HG.out D S.hb)
  obtain⟨x0,x1,x2,x3,x4,x5⟩:=cells6 S.hg
  have f5:=frozen_all S.hg 5
  have m2:IntKind.i64.wrap (hi'*4294967296)=hi'*4294967296:=IntWalk.i64_in _ (by omega)
  repeat still_step
  still_call GG.out
  repeat still_step
  refine wpStill_nil ?_
  change wpList _ _ _ _ _ W3.drew
  rw [← HQ.out]
  clear HQ GG
  go_upto_region 15 with (fail)
  rw [HV.out]
  replace S:=S.setc 5 (.int .i64 v)
  clear x0 x1 x2 x3 x4 x5 f5 m2
  generalize D.setCell _ _=W4 at S ⊢
  replace S:DecS w W4 g (insA op r d sv ov v):=S
  obtain⟨x0,x1,x2,x3,x4,x5⟩:=cells6 S.hg
  go_wp2_with (first|(go_at_call 121;((with_reducible refine (HE.out _ (wid_below HW.out S.hb)).mono ?_);rintro e w4 ⟨k2,hk2,rfl,hc2,hb4⟩;replace S:=S.below hb4;clear x0 x1 x2 x3 x4 x5;obtain⟨x0,x1,x2,x3,x4,x5⟩:=cells6 S.hg))|(go_at_call 211;((with_reducible refine (HP.out _ k2 S.hb hc2).mono ?_);rintro e w5 ⟨rfl,rfl⟩))|(refine wpList_store_row rfl _ _ _ rfl g #[.int .i64 0,.bool false,.int .i64 0,.int .i64 0,.int .i64 0,.int .i64 0] rfl rfl 45 _ S.hg (by kernel_rfl) rfl (ins_one _ _ _ _ _ _) ?_;replace S:=S.set #[.int .i64 0,.bool false,.int .i64 0,.int .i64 0,.int .i64 0,.int .i64 0];clear x0 x1 x2 x3 x4 x5;obtain⟨x0,x1,x2,x3,x4,x5⟩:=cells6 S.hg))
  exact bodyPost_ret (v:=.tuple #[.agg #[.int .i64 0,.bool false,.int .i64 0,.int .i64 0,.int .i64 0,.int .i64 0],.int .i64 0,.int .i64 12]) (by simp [results,Tryz.results233,go_sem,x0,x1,x2,x3,x4,x5]) rfl ⟨rfl,S.hb⟩
theorem dec_yes2 (hs:slo f=2) (h16:16≤n) (hd11:(c1.toNat:Int) % 16≤10) (hs11:(c1.toNat:Int) / 16≤10)
  (d sv ov iv:Int) (hd:(if uD f then (c1.toNat:Int) % 16 else 0)=d) (hsv:(if uS f r then (c1.toNat:Int) / 16 else 0)=sv) (hov:(if uO f then off else 0)=ov) (hiv:(if uI f r then imm else 0)=iv)
  (c8 c9 ca cb:UInt8) (g8:w.cell? ⟨k,o+12,none⟩=some (.int .u8 (c8.toNat:Int))) (g9:w.cell? ⟨k,o+12+1,none⟩=some (.int .u8 (c9.toNat:Int))) (ga:w.cell? ⟨k,o+12+2,none⟩=some (.int .u8 (ca.toNat:Int))) (gb:w.cell? ⟨k,o+12+3,none⟩=some (.int .u8 (cb.toNat:Int)))
  (hi' v:Int) (hhi:sx 32 ((c8.toNat:Int)*1+(c9.toNat:Int)*256+(ca.toNat:Int)*65536+(cb.toNat:Int)*16777216)=hi') (hv:bits .or .i64 (wrap64 (iv % 4294967296)) (hi'*4294967296)=v) (hhb0:-2147483648≤hi') (hhb1:hi'≤2147483647) (l l2:List UInt8) (m:Nat) (hln:l.length=n) (hbl:Bytes w k o l) (hok2:OkI f r d sv ov v) (hI0:-9223372036854775808≤v) (hI1:v≤9223372036854775807) (hl2:encL (ix op) f r d sv ov v=l2) (hm2:l2.length=m) (hmn:m≤n) (hpr:(l.take m==l2)=true) :
  Calls Tryz.prog 233 #[.slice (some ⟨k,o,none⟩) n cap] w fun e w'=>e=.returned (.tuple #[.agg #[.int .i64 op,.bool r,.int .i64 d,.int .i64 sv,.int .i64 ov,.int .i64 v],.int .i64 2,.int .i64 0])∧Below w.heap.size w w':=by
 have HT:=Lib.hid (fun (W:World)=>slots_at op f 2 W hf hs)
 have n16:¬ (n:Int)<16:=by omega
 have HG:=Lib.hid (fun (W:World) (hb:Below w.heap.size w W)=>(get4_at k (o+12) (cap-12) c8 c9 ca cb hi' W (wid_below hw hb) (cell_up hb g8) (cell_up hb g9) (cell_up hb ga) (cell_up hb gb) hhi).mono (R':=fun e w''=>e=.returned (.int .i64 hi')∧w''=W) (fun _ _ h=>⟨h.1,h.2.symm⟩))
 have scg:=sl_cg k o n cap (by omega)
 have HV:=Lib.hid hv
 clear g8 g9 ga gb hhi hv
 have HU:=Lib.hid (fun (W:World)=>used_at op f r 0 false ((c1.toNat:Int) % 16) ((c1.toNat:Int) / 16) off imm d sv ov iv W hf hd hsv hov hiv)
 have hd1:(c1.toNat:Int) % 16<11:=by omega
 have hr1:(c1.toNat:Int) / 16<11:=by omega
 clear hd hsv hov hiv hd11 hs11 hs h16
 have HE:=Lib.hid (fun (W:World) (hw:Wid W)=>encode_at op r d sv ov v f l2 m W hw hf hok2 hI0 hI1 hl2 hm2)
 have HP:=Lib.hid (fun (W:World) (k2:Nat) (hb:Below w.heap.size w W) (h2:W.heap[k2]?=some (.cells (byC l2) 5))=>pre_yes k o n cap k2 m m l l2 true W hln hm2 (hbl.up hb) (.row h2) (by omega) hmn hpr)
 clear hf hln hbl hok2 hI0 hI1 hl2 hm2 hmn hpr
 have HH:=Lib.hid h
 have HW:=Lib.hid hw
 have HF:=Lib.hid (fun (W:World) (hb:Below w.heap.size w W)=>fields_at k o n cap c0 c1 c2 c3 c4 c5 c6 c7 off imm W (wid_below hw hb) (h.below hb) hn hc hm ho hi)
 have HD:=Lib.hid (fun (W:World)=>ident_is (c0.toNat:Int) ((c1.toNat:Int) / 16) off imm op r ok W hid)
 have n8:¬ (n:Int)<8:=by omega
 have n0:0<n:=by omega
 have b1:=c1.toNat_lt
 clear hw h ho hi hid hn hc hm
 go_enter Tryz.func233,Tryz.ntmps233
 go_upto_region 4 with (go_at_call 262;((with_reducible refine (HF.out _ (bnew _ _)).mono ?_);rintro e w1 ⟨rfl,hb1⟩))
 have S:=(DecS.start w #[.int .i64 0,.bool false,.int .i64 0,.int .i64 0,.int .i64 0,.int .i64 0]).below (bch hb1 (bnew w1 (.cells (insA 0 false ((c1.toNat:Int) % 16) ((c1.toNat:Int) / 16) off imm) 45)))
 have h5:=heap_alloc_last w1 (.cells (insA 0 false ((c1.toNat:Int) % 16) ((c1.toNat:Int) / 16) off imm) 45)
 obtain⟨g,hg⟩:∃ g,g=w.heap.size:=⟨_,rfl⟩
 obtain⟨g5,hg5⟩:∃ g5,g5=w1.heap.size:=⟨_,rfl⟩
 have hs1:=hb1.size
 simp only [World.size_alloc] at hs1
 have hne:g≠g5:=by omega
 have hle5:w.heap.size≤g5:=by omega
 rw [← hg] at S ⊢
 rw [← hg5] at h5 ⊢
 generalize w1.alloc (.cells _ 45)=W at S h5 ⊢
 clear hb1 hg hg5 hs1
 have n8':=n8
 have K:DecK w g g5 #[.int .i64 0,.bool false,.int .i64 0,.int .i64 0,.int .i64 0,.int .i64 0] (insA 0 false ((c1.toNat:Int) % 16) ((c1.toNat:Int) / 16) off imm) W:=⟨S,h5⟩
 have d0:=(HH.out.below S.hb).a0
 have HL:=Lib.hid hle5
 have HN:=Lib.hid hne
 clear S h5 hle5 hne
 go_region_held3 (fun w'=>DecK w g g5 #[.int .i64 0,.bool false,.int .i64 0,.int .i64 0,.int .i64 0,.int .i64 0] (insA 0 false ((c1.toNat:Int) % 16) ((c1.toNat:Int) / 16) off imm) w'∧w'.cell? ⟨k,o,none⟩=some (.int .u8 (c0.toNat:Int))∧w'.cell? ⟨g5,3,none⟩=some (.int .i64 ((c1.toNat:Int) / 16))∧w'.cell? ⟨g5,4,none⟩=some (.int .i64 off)∧w'.cell? ⟨g5,5,none⟩=some (.int .i64 imm))
  (first|exact keepI (Below.refl _ _).drew K d0|exact keepJ hb9 (by assumption)|assumption)
  (first|(go_at_call 263;((with_reducible refine (HD.out _).mono ?_);rintro e w9 ⟨rfl,hb9⟩)))
 all_goals
  rename_i hh
  replace K:=hh.1
  clear hh d0
  go_upto_region 13 with (first|(go_at_call 148;((with_reducible refine (HT.out _).mono ?_);rintro e w2 ⟨rfl,hb2⟩;replace K:=K.below hb2;obtain⟨a0,a1,a2,a3,a4,a5⟩:=cells6 K.2))|(go_at_call 264;((with_reducible refine (HU.out _).mono ?_);rintro e w3 ⟨rfl,hb3⟩;replace K:=K.below hb3;have S:=K.1))|(refine wpList_store_row rfl _ _ _ rfl g (insA op r d sv ov iv) rfl rfl 45 _ S.hg (by kernel_rfl) rfl (ins_one _ _ _ _ _ _) ?_;replace S:=S.set (insA op r d sv ov iv)))
  clear a0 a1 a2 a3 a4 a5 K hb2 hb3 hd1 hr1
  generalize w3.setRow _ _=W3 at S ⊢
  go_upto_region 14 with (fail)
  refine wp_region_still_tail 10 (by kernel_rfl) (by kernel_rfl) ?_
  simp only [List.take_succ_cons,List.take_zero,List.drop_succ_cons,List.drop_zero]
  change wpStill _ _ (World.drew _) _ _ _
  replace S:=S.below ((Below.refl W3.heap.size W3).drew)
  obtain⟨D,hD⟩:∃ D,D=W3.drew:=⟨_,rfl⟩
  rw [← hD] at S ⊢
  have HQ:=Lib.hid hD
  clear hD
  have GG:=Lib.hid (HG.out D S.hb)
  obtain⟨x0,x1,x2,x3,x4,x5⟩:=cells6 S.hg
  have f5:=frozen_all S.hg 5
  have m2:IntKind.i64.wrap (hi'*4294967296)=hi'*4294967296:=IntWalk.i64_in _ (by omega)
  repeat still_step
  still_call GG.out
  repeat still_step
  refine wpStill_nil ?_
  change wpList _ _ _ _ _ W3.drew
  rw [← HQ.out]
  clear HQ GG
  go_upto_region 15 with (fail)
  rw [HV.out]
  replace S:=S.setc 5 (.int .i64 v)
  clear x0 x1 x2 x3 x4 x5 f5 m2
  generalize D.setCell _ _=W4 at S ⊢
  replace S:DecS w W4 g (insA op r d sv ov v):=S
  obtain⟨x0,x1,x2,x3,x4,x5⟩:=cells6 S.hg
  go_wp2_with (first|(go_at_call 121;((with_reducible refine (HE.out _ (wid_below HW.out S.hb)).mono ?_);rintro e w4 ⟨k2,hk2,rfl,hc2,hb4⟩;replace S:=S.below hb4;clear x0 x1 x2 x3 x4 x5;obtain⟨x0,x1,x2,x3,x4,x5⟩:=cells6 S.hg))|(go_at_call 211;((with_reducible refine (HP.out _ k2 S.hb hc2).mono ?_);rintro e w5 ⟨rfl,rfl⟩))|(refine wpList_store_row rfl _ _ _ rfl g (insA op r d sv ov v) rfl rfl 45 _ S.hg (by kernel_rfl) rfl (ins_one _ _ _ _ _ _) ?_;replace S:=S.set (insA op r d sv ov v);clear x0 x1 x2 x3 x4 x5;obtain⟨x0,x1,x2,x3,x4,x5⟩:=cells6 S.hg))
  exact bodyPost_ret (v:=.tuple #[.agg #[.int .i64 op,.bool r,.int .i64 d,.int .i64 sv,.int .i64 ov,.int .i64 v],.int .i64 2,.int .i64 0]) (by simp [results,Tryz.results233,go_sem,x0,x1,x2,x3,x4,x5]) rfl ⟨rfl,S.hb⟩
end
end Go.Proofs.YtdgnjhhieemcaaaGreatDoor.L5
