/- Lemmas and walks of L5Prej, L5Decj, L5Decrj, L5Decmj: what each theorem states; conditions stand in each theorem. -/
import Derived.Test.YtgljoilddjmohaaGreatDoorM19
import Derived.Test.YtgljoilddjmohaaGreatDoorJ1
section
set_option maxRecDepth 100000
set_option maxHeartbeats 1000000
namespace Go.Proofs.YtgljoilddjmohaaGreatDoor.L5
open Go.RowKit L3 L1 L4
theorem equal_at (k o n cap k2 o2 m cap2:Nat) (l l2:List UInt8) (r:Bool) (w:World) (hn:l.length=n) (hm:l2.length=m) (h:Bytes w k o l) (h2:Bytes w k2 o2 l2) (hr:(l==l2)=r) :
  Calls Tryz.prog 176 #[.slice (some ⟨k,o,none⟩) n cap,.slice (some ⟨k2,o2,none⟩) m cap2] w fun e w'=>e=.returned (.bool r)∧w=w':=by
 subst hn;subst hm
 have c1:=run_convert_bytes_back w 35 9 5 ⟨k,o,none⟩ cap l Tryz.underlying35 Tryz.underlying5 Tryz.underlying9 (fun j hj=>by rw [show (⟨k,o,none⟩:Addr).add j=⟨k,o+j,none⟩ by unfold Addr.add;split <;> simp_all];exact h j hj)
 have c2:=run_convert_bytes_back w 35 9 5 ⟨k2,o2,none⟩ cap2 l2 Tryz.underlying35 Tryz.underlying5 Tryz.underlying9 (fun j hj=>by rw [show (⟨k2,o2,none⟩:Addr).add j=⟨k2,o2+j,none⟩ by unfold Addr.add;split <;> simp_all];exact h2 j hj)
 have HR:=Lib.hid hr
 clear h h2 hr
 go_enter Tryz.func176,Tryz.ntmps176
 go_wp2
 go_ret
 exact⟨ret_bool HR.out,rfl⟩
theorem sl_to (k o n cap m:Nat) (h:m≤cap) (w:World):(Instr.slice 35 (.slice (some ⟨k,o,none⟩) n cap) none (some (.int .i64 (m:Int))) none).run Tryz.prog w=.ok (.slice (some ⟨k,o,none⟩) m cap) w:=by
 simp [go_sem,Tryz.underlying35,h]
theorem Bytes.take {w:World} {k o:Nat} {l:List UInt8} (h:Bytes w k o l) (m:Nat):Bytes w k o (l.take m):=fun j hj=>by
 rw [List.length_take] at hj
 rw [List.getElem_take]
 exact h j (by omega)
theorem pre_yes (k o n cap k2 m cap2:Nat) (l l2:List UInt8) (r:Bool) (w:World) (hn:l.length=n) (hm:l2.length=m) (h:Bytes w k o l) (h2:Bytes w k2 0 l2) (hc:m≤cap) (hmn:m≤n) (hr:(l.take m==l2)=r) :
  Calls Tryz.prog 131 #[.slice (some ⟨k,o,none⟩) n cap,.slice (some ⟨k2,0,none⟩) m cap2] w fun e w'=>e=.returned (.bool r)∧w=w':=by
 have s1:=sl_to k o n cap m hc
 have HE:=Lib.hid (equal_at k o m cap k2 0 m cap2 (l.take m) l2 r w (by rw [List.length_take];omega) hm (h.take m) h2 hr)
 have h3:m≤n:=hmn
 have h3':(m:Int)≤(n:Int):=by omega
 clear h h2 hr hn hm hc hmn
 go_enter Tryz.func131,Tryz.ntmps131
 go_wp2_with (go_at_call 176;((with_reducible refine (HE.out).mono ?_);rintro e w1 ⟨rfl,rfl⟩))
 go_ret
 exact⟨rfl,rfl⟩
end Go.Proofs.YtgljoilddjmohaaGreatDoor.L5
end
section
set_option maxRecDepth 100000
set_option maxHeartbeats 4000000
namespace Go.Proofs.YtgljoilddjmohaaGreatDoor.L5
open Go.RowKit L3 L1 L4
theorem ident_is (code src off imm n:Int) (r ok:Bool) (w:World) (h:idF code src off imm 86 0=(n,r,ok)):Calls Tryz.prog 128 #[.int .u8 code,.int .i64 src,.int .i64 off,.int .i64 imm] w fun e w' =>
  e=.returned (.tuple #[.int .i64 n,.bool r,.bool ok])∧Below w.heap.size w w':=by
 have:=ident_any code src off imm w
 rw [h] at this
 exact this
structure DecS (w W:World) (g:Nat) (X:Array Value):Prop where
 hb:Below w.heap.size w W
 hg:W.heap[g]?=some (.cells X 50)
 le:w.heap.size≤g
theorem DecS.below {w W W':World} {g:Nat} {X:Array Value} (h:DecS w W g X) (hb:Below W.heap.size W W'):DecS w W' g X :=
 ⟨bch h.hb hb,(hb.block _ (lt_of_block h.hg)).trans h.hg,h.le⟩
theorem DecS.set {w W:World} {g:Nat} {X:Array Value} (h:DecS w W g X) (cs:Array Value):DecS w (W.setRow g cs) g cs :=
 ⟨below_setRow h.hb h.le cs,setRow_heap W g _ cs _ _ h.hg,h.le⟩
theorem DecS.setc {w W:World} {g:Nat} {X:Array Value} (h:DecS w W g X) (i:Nat) (v:Value):DecS w (W.setCell ⟨g,i,none⟩ v) g (X.setIfInBounds i v) :=
 ⟨h.hb.setCell h.le v,cells_set h.hg,h.le⟩
theorem DecS.start (w:World) (X:Array Value):DecS w (w.alloc (.cells X 50)) w.heap.size X:=⟨bnew w _,heap_alloc_last w _,Nat.le_refl _⟩
def DecK (w:World) (g g5:Nat) (X X5:Array Value) (W:World):Prop:=DecS w W g X∧W.heap[g5]?=some (.cells X5 50)
theorem DecK.below {w W W':World} {g g5:Nat} {X X5:Array Value} (h:DecK w g g5 X X5 W) (hb:Below W.heap.size W W'):DecK w g g5 X X5 W' :=
 ⟨h.1.below hb,(hb.block _ (lt_of_block h.2)).trans h.2⟩
theorem keepI {w W W':World} {g g5 k o:Nat} {X:Array Value} {op dst src off imm:Int} {reg:Bool} {c0:Value} (hb:Below W.heap.size W W') (h:DecK w g g5 X (insA op reg dst src off imm) W) (hc:W.cell? ⟨k,o,none⟩=some c0) :
  DecK w g g5 X (insA op reg dst src off imm) W'∧W'.cell? ⟨k,o,none⟩=some c0∧W'.cell? ⟨g5,3,none⟩=some (.int .i64 src)∧W'.cell? ⟨g5,4,none⟩=some (.int .i64 off)∧W'.cell? ⟨g5,5,none⟩=some (.int .i64 imm):=by
 have h2:=h.below hb
 obtain⟨-,-,-,a3,a4,a5⟩:=cells6 h2.2
 exact⟨h2,(hb.cell (p:=⟨k,o,none⟩) (World.block_lt_of_cell? W _ hc)).trans hc,a3,a4,a5⟩
theorem keepJ {w W W':World} {g g5 k o:Nat} {X:Array Value} {op dst src off imm:Int} {reg:Bool} {c0:Value} (hb:Below W.heap.size W W')
  (h:DecK w g g5 X (insA op reg dst src off imm) W∧W.cell? ⟨k,o,none⟩=some c0∧W.cell? ⟨g5,3,none⟩=some (.int .i64 src)∧W.cell? ⟨g5,4,none⟩=some (.int .i64 off)∧W.cell? ⟨g5,5,none⟩=some (.int .i64 imm)) :
  DecK w g g5 X (insA op reg dst src off imm) W'∧W'.cell? ⟨k,o,none⟩=some c0∧W'.cell? ⟨g5,3,none⟩=some (.int .i64 src)∧W'.cell? ⟨g5,4,none⟩=some (.int .i64 off)∧W'.cell? ⟨g5,5,none⟩=some (.int .i64 imm):=keepI hb h.1 h.2.1
theorem dec_op (k o n cap:Nat) (c0 c1 c2 c3 c4 c5 c6 c7:UInt8) (off imm:Int) (w:World) (hw:Wid w) (h:Eight w k o c0 c1 c2 c3 c4 c5 c6 c7) (hn:8≤n) (hc:n≤cap) (hm:cap≤9223372036854775807)
  (ho:sx 16 ((c2.toNat:Int)*1+(c3.toNat:Int)*256)=off) (hi:sx 32 ((c4.toNat:Int)*1+(c5.toNat:Int)*256+(c6.toNat:Int)*65536+(c7.toNat:Int)*16777216)=imm)
  (op:Int) (r ok:Bool) (hid:idF (c0.toNat:Int) ((c1.toNat:Int) / 16) off imm 86 0=(op,r,ok)) (hok:ok=false) :
  Calls Tryz.prog 84 #[.slice (some ⟨k,o,none⟩) n cap] w fun e w'=>e=.returned (.tuple #[.agg #[.int .i64 0,.bool false,.int .i64 0,.int .i64 0,.int .i64 0,.int .i64 0],.int .i64 0,.int .i64 6])∧Below w.heap.size w w':=by
 have HH:=Lib.hid h
 have HW:=Lib.hid hw
 have HF:=Lib.hid (fun (W:World) (hb:Below w.heap.size w W)=>fields_at k o n cap c0 c1 c2 c3 c4 c5 c6 c7 off imm W (wid_below hw hb) (h.below hb) hn hc hm ho hi)
 have HD:=Lib.hid (fun (W:World)=>ident_is (c0.toNat:Int) ((c1.toNat:Int) / 16) off imm op r ok W hid)
 have n8:¬ (n:Int)<8:=by omega
 have n0:0<n:=by omega
 have b1:=c1.toNat_lt
 clear hw h ho hi hid hn hc hm
 go_enter Tryz.func84,Tryz.ntmps84
 go_upto_region 4 with (go_at_call 127;((with_reducible refine (HF.out _ (bnew _ _)).mono ?_);rintro e w1 ⟨rfl,hb1⟩))
 have S:=(DecS.start w #[.int .i64 0,.bool false,.int .i64 0,.int .i64 0,.int .i64 0,.int .i64 0]).below (bch hb1 (bnew w1 (.cells (insA 0 false ((c1.toNat:Int) % 16) ((c1.toNat:Int) / 16) off imm) 50)))
 have h5:=heap_alloc_last w1 (.cells (insA 0 false ((c1.toNat:Int) % 16) ((c1.toNat:Int) / 16) off imm) 50)
 obtain⟨g,hg⟩:∃ g,g=w.heap.size:=⟨_,rfl⟩
 obtain⟨g5,hg5⟩:∃ g5,g5=w1.heap.size:=⟨_,rfl⟩
 have hs1:=hb1.size
 simp only [World.size_alloc] at hs1
 have hne:g≠g5:=by omega
 have hle5:w.heap.size≤g5:=by omega
 rw [← hg] at S ⊢
 rw [← hg5] at h5 ⊢
 generalize w1.alloc (.cells _ 50)=W at S h5 ⊢
 clear hb1 hg hg5 hs1
 have n8':=n8
 have K:DecK w g g5 #[.int .i64 0,.bool false,.int .i64 0,.int .i64 0,.int .i64 0,.int .i64 0] (insA 0 false ((c1.toNat:Int) % 16) ((c1.toNat:Int) / 16) off imm) W:=⟨S,h5⟩
 have d0:=(HH.out.below S.hb).a0
 have HL:=Lib.hid hle5
 have HN:=Lib.hid hne
 clear S h5 hle5 hne
 go_region_held3 (fun w'=>DecK w g g5 #[.int .i64 0,.bool false,.int .i64 0,.int .i64 0,.int .i64 0,.int .i64 0] (insA 0 false ((c1.toNat:Int) % 16) ((c1.toNat:Int) / 16) off imm) w'∧w'.cell? ⟨k,o,none⟩=some (.int .u8 (c0.toNat:Int))∧w'.cell? ⟨g5,3,none⟩=some (.int .i64 ((c1.toNat:Int) / 16))∧w'.cell? ⟨g5,4,none⟩=some (.int .i64 off)∧w'.cell? ⟨g5,5,none⟩=some (.int .i64 imm))
  (first|exact keepI (Below.refl _ _).drew K d0|exact keepJ hb9 (by assumption)|assumption)
  (first|(go_at_call 128;((with_reducible refine (HD.out _).mono ?_);rintro e w9 ⟨rfl,hb9⟩)))
 all_goals
  rename_i hh
  replace K:=hh.1
  clear hh d0
  have S:=K.1
  go_wp2_with (first|(refine wpList_store_row rfl _ _ _ rfl g #[.int .i64 0,.bool false,.int .i64 0,.int .i64 0,.int .i64 0,.int .i64 0] rfl rfl 50 _ S.hg (by kernel_rfl) rfl (ins_one _ _ _ _ _ _) ?_;replace S:=S.set #[.int .i64 0,.bool false,.int .i64 0,.int .i64 0,.int .i64 0,.int .i64 0];obtain⟨x0,x1,x2,x3,x4,x5⟩:=cells6 S.hg))
  exact bodyPost_ret (v:=.tuple #[.agg #[.int .i64 0,.bool false,.int .i64 0,.int .i64 0,.int .i64 0,.int .i64 0],.int .i64 0,.int .i64 6]) (by simp [results,Tryz.results84,go_sem,x0,x1,x2,x3,x4,x5]) rfl ⟨rfl,S.hb⟩
theorem dec_short2 (k o n cap:Nat) (c0 c1 c2 c3 c4 c5 c6 c7:UInt8) (off imm:Int) (w:World) (hw:Wid w) (h:Eight w k o c0 c1 c2 c3 c4 c5 c6 c7) (hn:8≤n) (hc:n≤cap) (hm:cap≤9223372036854775807)
  (ho:sx 16 ((c2.toNat:Int)*1+(c3.toNat:Int)*256)=off) (hi:sx 32 ((c4.toNat:Int)*1+(c5.toNat:Int)*256+(c6.toNat:Int)*65536+(c7.toNat:Int)*16777216)=imm)
  (op:Int) (r ok:Bool) (hid:idF (c0.toNat:Int) ((c1.toNat:Int) / 16) off imm 86 0=(op,r,ok)) (hok:ok=true) (f:Int) (hf:frm (ix op)=f) (hs:slo f=2) (h16:n<16) :
  Calls Tryz.prog 84 #[.slice (some ⟨k,o,none⟩) n cap] w fun e w'=>e=.returned (.tuple #[.agg #[.int .i64 0,.bool false,.int .i64 0,.int .i64 0,.int .i64 0,.int .i64 0],.int .i64 0,.int .i64 17])∧Below w.heap.size w w':=by
 have HT:=Lib.hid (fun (W:World)=>slots_at op f 2 W hf hs)
 have n16:(n:Int)<16:=by omega
 clear hf hs h16
 have HH:=Lib.hid h
 have HW:=Lib.hid hw
 have HF:=Lib.hid (fun (W:World) (hb:Below w.heap.size w W)=>fields_at k o n cap c0 c1 c2 c3 c4 c5 c6 c7 off imm W (wid_below hw hb) (h.below hb) hn hc hm ho hi)
 have HD:=Lib.hid (fun (W:World)=>ident_is (c0.toNat:Int) ((c1.toNat:Int) / 16) off imm op r ok W hid)
 have n8:¬ (n:Int)<8:=by omega
 have n0:0<n:=by omega
 have b1:=c1.toNat_lt
 clear hw h ho hi hid hn hc hm
 go_enter Tryz.func84,Tryz.ntmps84
 go_upto_region 4 with (go_at_call 127;((with_reducible refine (HF.out _ (bnew _ _)).mono ?_);rintro e w1 ⟨rfl,hb1⟩))
 have S:=(DecS.start w #[.int .i64 0,.bool false,.int .i64 0,.int .i64 0,.int .i64 0,.int .i64 0]).below (bch hb1 (bnew w1 (.cells (insA 0 false ((c1.toNat:Int) % 16) ((c1.toNat:Int) / 16) off imm) 50)))
 have h5:=heap_alloc_last w1 (.cells (insA 0 false ((c1.toNat:Int) % 16) ((c1.toNat:Int) / 16) off imm) 50)
 obtain⟨g,hg⟩:∃ g,g=w.heap.size:=⟨_,rfl⟩
 obtain⟨g5,hg5⟩:∃ g5,g5=w1.heap.size:=⟨_,rfl⟩
 have hs1:=hb1.size
 simp only [World.size_alloc] at hs1
 have hne:g≠g5:=by omega
 have hle5:w.heap.size≤g5:=by omega
 rw [← hg] at S ⊢
 rw [← hg5] at h5 ⊢
 generalize w1.alloc (.cells _ 50)=W at S h5 ⊢
 clear hb1 hg hg5 hs1
 have n8':=n8
 have K:DecK w g g5 #[.int .i64 0,.bool false,.int .i64 0,.int .i64 0,.int .i64 0,.int .i64 0] (insA 0 false ((c1.toNat:Int) % 16) ((c1.toNat:Int) / 16) off imm) W:=⟨S,h5⟩
 have d0:=(HH.out.below S.hb).a0
 have HL:=Lib.hid hle5
 have HN:=Lib.hid hne
 clear S h5 hle5 hne
 go_region_held3 (fun w'=>DecK w g g5 #[.int .i64 0,.bool false,.int .i64 0,.int .i64 0,.int .i64 0,.int .i64 0] (insA 0 false ((c1.toNat:Int) % 16) ((c1.toNat:Int) / 16) off imm) w'∧w'.cell? ⟨k,o,none⟩=some (.int .u8 (c0.toNat:Int))∧w'.cell? ⟨g5,3,none⟩=some (.int .i64 ((c1.toNat:Int) / 16))∧w'.cell? ⟨g5,4,none⟩=some (.int .i64 off)∧w'.cell? ⟨g5,5,none⟩=some (.int .i64 imm))
  (first|exact keepI (Below.refl _ _).drew K d0|exact keepJ hb9 (by assumption)|assumption)
  (first|(go_at_call 128;((with_reducible refine (HD.out _).mono ?_);rintro e w9 ⟨rfl,hb9⟩)))
 all_goals
  rename_i hh
  replace K:=hh.1
  clear hh d0
  go_wp2_with (first|(go_at_call 50;((with_reducible refine (HT.out _).mono ?_);rintro e w2 ⟨rfl,hb2⟩;replace K:=K.below hb2;obtain⟨a0,a1,a2,a3,a4,a5⟩:=cells6 K.2))|(have S:=K.1;refine wpList_store_row rfl _ _ _ rfl g #[.int .i64 0,.bool false,.int .i64 0,.int .i64 0,.int .i64 0,.int .i64 0] rfl rfl 50 _ S.hg (by kernel_rfl) rfl (ins_one _ _ _ _ _ _) ?_;replace S:=S.set #[.int .i64 0,.bool false,.int .i64 0,.int .i64 0,.int .i64 0,.int .i64 0];obtain⟨x0,x1,x2,x3,x4,x5⟩:=cells6 S.hg))
  exact bodyPost_ret (v:=.tuple #[.agg #[.int .i64 0,.bool false,.int .i64 0,.int .i64 0,.int .i64 0,.int .i64 0],.int .i64 0,.int .i64 17]) (by simp [results,Tryz.results84,go_sem,x0,x1,x2,x3,x4,x5]) rfl ⟨rfl,S.hb⟩
theorem dec_reg1 (k o n cap:Nat) (c0 c1 c2 c3 c4 c5 c6 c7:UInt8) (off imm:Int) (w:World) (hw:Wid w) (h:Eight w k o c0 c1 c2 c3 c4 c5 c6 c7) (hn:8≤n) (hc:n≤cap) (hm:cap≤9223372036854775807)
  (ho:sx 16 ((c2.toNat:Int)*1+(c3.toNat:Int)*256)=off) (hi:sx 32 ((c4.toNat:Int)*1+(c5.toNat:Int)*256+(c6.toNat:Int)*65536+(c7.toNat:Int)*16777216)=imm)
  (op:Int) (r ok:Bool) (hid:idF (c0.toNat:Int) ((c1.toNat:Int) / 16) off imm 86 0=(op,r,ok)) (hok:ok=true) (f:Int) (hf:frm (ix op)=f) (hs:slo f=1) (hr:11≤(c1.toNat:Int) % 16∨11≤(c1.toNat:Int) / 16) :
  Calls Tryz.prog 84 #[.slice (some ⟨k,o,none⟩) n cap] w fun e w'=>e=.returned (.tuple #[.agg #[.int .i64 0,.bool false,.int .i64 0,.int .i64 0,.int .i64 0,.int .i64 0],.int .i64 0,.int .i64 5])∧Below w.heap.size w w':=by
 have HT:=Lib.hid (fun (W:World)=>slots_at op f 1 W hf hs)
 clear hf hs
 have HH:=Lib.hid h
 have HW:=Lib.hid hw
 have HF:=Lib.hid (fun (W:World) (hb:Below w.heap.size w W)=>fields_at k o n cap c0 c1 c2 c3 c4 c5 c6 c7 off imm W (wid_below hw hb) (h.below hb) hn hc hm ho hi)
 have HD:=Lib.hid (fun (W:World)=>ident_is (c0.toNat:Int) ((c1.toNat:Int) / 16) off imm op r ok W hid)
 have n8:¬ (n:Int)<8:=by omega
 have n0:0<n:=by omega
 have b1:=c1.toNat_lt
 clear hw h ho hi hid hn hc hm
 go_enter Tryz.func84,Tryz.ntmps84
 go_upto_region 4 with (go_at_call 127;((with_reducible refine (HF.out _ (bnew _ _)).mono ?_);rintro e w1 ⟨rfl,hb1⟩))
 have S:=(DecS.start w #[.int .i64 0,.bool false,.int .i64 0,.int .i64 0,.int .i64 0,.int .i64 0]).below (bch hb1 (bnew w1 (.cells (insA 0 false ((c1.toNat:Int) % 16) ((c1.toNat:Int) / 16) off imm) 50)))
 have h5:=heap_alloc_last w1 (.cells (insA 0 false ((c1.toNat:Int) % 16) ((c1.toNat:Int) / 16) off imm) 50)
 obtain⟨g,hg⟩:∃ g,g=w.heap.size:=⟨_,rfl⟩
 obtain⟨g5,hg5⟩:∃ g5,g5=w1.heap.size:=⟨_,rfl⟩
 have hs1:=hb1.size
 simp only [World.size_alloc] at hs1
 have hne:g≠g5:=by omega
 have hle5:w.heap.size≤g5:=by omega
 rw [← hg] at S ⊢
 rw [← hg5] at h5 ⊢
 generalize w1.alloc (.cells _ 50)=W at S h5 ⊢
 clear hb1 hg hg5 hs1
 have n8':=n8
 have K:DecK w g g5 #[.int .i64 0,.bool false,.int .i64 0,.int .i64 0,.int .i64 0,.int .i64 0] (insA 0 false ((c1.toNat:Int) % 16) ((c1.toNat:Int) / 16) off imm) W:=⟨S,h5⟩
 have d0:=(HH.out.below S.hb).a0
 have HL:=Lib.hid hle5
 have HN:=Lib.hid hne
 clear S h5 hle5 hne
 go_region_held3 (fun w'=>DecK w g g5 #[.int .i64 0,.bool false,.int .i64 0,.int .i64 0,.int .i64 0,.int .i64 0] (insA 0 false ((c1.toNat:Int) % 16) ((c1.toNat:Int) / 16) off imm) w'∧w'.cell? ⟨k,o,none⟩=some (.int .u8 (c0.toNat:Int))∧w'.cell? ⟨g5,3,none⟩=some (.int .i64 ((c1.toNat:Int) / 16))∧w'.cell? ⟨g5,4,none⟩=some (.int .i64 off)∧w'.cell? ⟨g5,5,none⟩=some (.int .i64 imm))
  (first|exact keepI (Below.refl _ _).drew K d0|exact keepJ hb9 (by assumption)|assumption)
  (first|(go_at_call 128;((with_reducible refine (HD.out _).mono ?_);rintro e w9 ⟨rfl,hb9⟩)))
 all_goals
  rename_i hh
  replace K:=hh.1
  clear hh d0
  by_cases hd:11≤(c1.toNat:Int) % 16
  ·clear hr
   go_wp2_with (first|(go_at_call 50;((with_reducible refine (HT.out _).mono ?_);rintro e w2 ⟨rfl,hb2⟩;replace K:=K.below hb2;obtain⟨a0,a1,a2,a3,a4,a5⟩:=cells6 K.2))|(have S:=K.1;refine wpList_store_row rfl _ _ _ rfl g #[.int .i64 0,.bool false,.int .i64 0,.int .i64 0,.int .i64 0,.int .i64 0] rfl rfl 50 _ S.hg (by kernel_rfl) rfl (ins_one _ _ _ _ _ _) ?_;replace S:=S.set #[.int .i64 0,.bool false,.int .i64 0,.int .i64 0,.int .i64 0,.int .i64 0];obtain⟨x0,x1,x2,x3,x4,x5⟩:=cells6 S.hg))
   exact bodyPost_ret (v:=.tuple #[.agg #[.int .i64 0,.bool false,.int .i64 0,.int .i64 0,.int .i64 0,.int .i64 0],.int .i64 0,.int .i64 5]) (by simp [results,Tryz.results84,go_sem,x0,x1,x2,x3,x4,x5]) rfl ⟨rfl,S.hb⟩
  ·replace hr:11≤(c1.toNat:Int) / 16:=by omega
   go_wp2_with (first|(go_at_call 50;((with_reducible refine (HT.out _).mono ?_);rintro e w2 ⟨rfl,hb2⟩;replace K:=K.below hb2;obtain⟨a0,a1,a2,a3,a4,a5⟩:=cells6 K.2))|(have S:=K.1;refine wpList_store_row rfl _ _ _ rfl g #[.int .i64 0,.bool false,.int .i64 0,.int .i64 0,.int .i64 0,.int .i64 0] rfl rfl 50 _ S.hg (by kernel_rfl) rfl (ins_one _ _ _ _ _ _) ?_;replace S:=S.set #[.int .i64 0,.bool false,.int .i64 0,.int .i64 0,.int .i64 0,.int .i64 0];obtain⟨x0,x1,x2,x3,x4,x5⟩:=cells6 S.hg))
   exact bodyPost_ret (v:=.tuple #[.agg #[.int .i64 0,.bool false,.int .i64 0,.int .i64 0,.int .i64 0,.int .i64 0],.int .i64 0,.int .i64 5]) (by simp [results,Tryz.results84,go_sem,x0,x1,x2,x3,x4,x5]) rfl ⟨rfl,S.hb⟩
theorem dec_reg2 (k o n cap:Nat) (c0 c1 c2 c3 c4 c5 c6 c7:UInt8) (off imm:Int) (w:World) (hw:Wid w) (h:Eight w k o c0 c1 c2 c3 c4 c5 c6 c7) (hn:8≤n) (hc:n≤cap) (hm:cap≤9223372036854775807)
  (ho:sx 16 ((c2.toNat:Int)*1+(c3.toNat:Int)*256)=off) (hi:sx 32 ((c4.toNat:Int)*1+(c5.toNat:Int)*256+(c6.toNat:Int)*65536+(c7.toNat:Int)*16777216)=imm)
  (op:Int) (r ok:Bool) (hid:idF (c0.toNat:Int) ((c1.toNat:Int) / 16) off imm 86 0=(op,r,ok)) (hok:ok=true) (f:Int) (hf:frm (ix op)=f) (hs:slo f=2) (h16:16≤n) (hr:11≤(c1.toNat:Int) % 16∨11≤(c1.toNat:Int) / 16) :
  Calls Tryz.prog 84 #[.slice (some ⟨k,o,none⟩) n cap] w fun e w'=>e=.returned (.tuple #[.agg #[.int .i64 0,.bool false,.int .i64 0,.int .i64 0,.int .i64 0,.int .i64 0],.int .i64 0,.int .i64 5])∧Below w.heap.size w w':=by
 have HT:=Lib.hid (fun (W:World)=>slots_at op f 2 W hf hs)
 have n16:¬ (n:Int)<16:=by omega
 clear hf hs h16
 have HH:=Lib.hid h
 have HW:=Lib.hid hw
 have HF:=Lib.hid (fun (W:World) (hb:Below w.heap.size w W)=>fields_at k o n cap c0 c1 c2 c3 c4 c5 c6 c7 off imm W (wid_below hw hb) (h.below hb) hn hc hm ho hi)
 have HD:=Lib.hid (fun (W:World)=>ident_is (c0.toNat:Int) ((c1.toNat:Int) / 16) off imm op r ok W hid)
 have n8:¬ (n:Int)<8:=by omega
 have n0:0<n:=by omega
 have b1:=c1.toNat_lt
 clear hw h ho hi hid hn hc hm
 go_enter Tryz.func84,Tryz.ntmps84
 go_upto_region 4 with (go_at_call 127;((with_reducible refine (HF.out _ (bnew _ _)).mono ?_);rintro e w1 ⟨rfl,hb1⟩))
 have S:=(DecS.start w #[.int .i64 0,.bool false,.int .i64 0,.int .i64 0,.int .i64 0,.int .i64 0]).below (bch hb1 (bnew w1 (.cells (insA 0 false ((c1.toNat:Int) % 16) ((c1.toNat:Int) / 16) off imm) 50)))
 have h5:=heap_alloc_last w1 (.cells (insA 0 false ((c1.toNat:Int) % 16) ((c1.toNat:Int) / 16) off imm) 50)
 obtain⟨g,hg⟩:∃ g,g=w.heap.size:=⟨_,rfl⟩
 obtain⟨g5,hg5⟩:∃ g5,g5=w1.heap.size:=⟨_,rfl⟩
 have hs1:=hb1.size
 simp only [World.size_alloc] at hs1
 have hne:g≠g5:=by omega
 have hle5:w.heap.size≤g5:=by omega
 rw [← hg] at S ⊢
 rw [← hg5] at h5 ⊢
 generalize w1.alloc (.cells _ 50)=W at S h5 ⊢
 clear hb1 hg hg5 hs1
 have n8':=n8
 have K:DecK w g g5 #[.int .i64 0,.bool false,.int .i64 0,.int .i64 0,.int .i64 0,.int .i64 0] (insA 0 false ((c1.toNat:Int) % 16) ((c1.toNat:Int) / 16) off imm) W:=⟨S,h5⟩
 have d0:=(HH.out.below S.hb).a0
 have HL:=Lib.hid hle5
 have HN:=Lib.hid hne
 clear S h5 hle5 hne
 go_region_held3 (fun w'=>DecK w g g5 #[.int .i64 0,.bool false,.int .i64 0,.int .i64 0,.int .i64 0,.int .i64 0] (insA 0 false ((c1.toNat:Int) % 16) ((c1.toNat:Int) / 16) off imm) w'∧w'.cell? ⟨k,o,none⟩=some (.int .u8 (c0.toNat:Int))∧w'.cell? ⟨g5,3,none⟩=some (.int .i64 ((c1.toNat:Int) / 16))∧w'.cell? ⟨g5,4,none⟩=some (.int .i64 off)∧w'.cell? ⟨g5,5,none⟩=some (.int .i64 imm))
  (first|exact keepI (Below.refl _ _).drew K d0|exact keepJ hb9 (by assumption)|assumption)
  (first|(go_at_call 128;((with_reducible refine (HD.out _).mono ?_);rintro e w9 ⟨rfl,hb9⟩)))
 all_goals
  rename_i hh
  replace K:=hh.1
  clear hh d0
  by_cases hd:11≤(c1.toNat:Int) % 16
  ·clear hr
   go_wp2_with (first|(go_at_call 50;((with_reducible refine (HT.out _).mono ?_);rintro e w2 ⟨rfl,hb2⟩;replace K:=K.below hb2;obtain⟨a0,a1,a2,a3,a4,a5⟩:=cells6 K.2))|(have S:=K.1;refine wpList_store_row rfl _ _ _ rfl g #[.int .i64 0,.bool false,.int .i64 0,.int .i64 0,.int .i64 0,.int .i64 0] rfl rfl 50 _ S.hg (by kernel_rfl) rfl (ins_one _ _ _ _ _ _) ?_;replace S:=S.set #[.int .i64 0,.bool false,.int .i64 0,.int .i64 0,.int .i64 0,.int .i64 0];obtain⟨x0,x1,x2,x3,x4,x5⟩:=cells6 S.hg))
   exact bodyPost_ret (v:=.tuple #[.agg #[.int .i64 0,.bool false,.int .i64 0,.int .i64 0,.int .i64 0,.int .i64 0],.int .i64 0,.int .i64 5]) (by simp [results,Tryz.results84,go_sem,x0,x1,x2,x3,x4,x5]) rfl ⟨rfl,S.hb⟩
  ·replace hr:11≤(c1.toNat:Int) / 16:=by omega
   go_wp2_with (first|(go_at_call 50;((with_reducible refine (HT.out _).mono ?_);rintro e w2 ⟨rfl,hb2⟩;replace K:=K.below hb2;obtain⟨a0,a1,a2,a3,a4,a5⟩:=cells6 K.2))|(have S:=K.1;refine wpList_store_row rfl _ _ _ rfl g #[.int .i64 0,.bool false,.int .i64 0,.int .i64 0,.int .i64 0,.int .i64 0] rfl rfl 50 _ S.hg (by kernel_rfl) rfl (ins_one _ _ _ _ _ _) ?_;replace S:=S.set #[.int .i64 0,.bool false,.int .i64 0,.int .i64 0,.int .i64 0,.int .i64 0];obtain⟨x0,x1,x2,x3,x4,x5⟩:=cells6 S.hg))
   exact bodyPost_ret (v:=.tuple #[.agg #[.int .i64 0,.bool false,.int .i64 0,.int .i64 0,.int .i64 0,.int .i64 0],.int .i64 0,.int .i64 5]) (by simp [results,Tryz.results84,go_sem,x0,x1,x2,x3,x4,x5]) rfl ⟨rfl,S.hb⟩
end Go.Proofs.YtgljoilddjmohaaGreatDoor.L5
end
section
set_option maxRecDepth 100000
set_option maxHeartbeats 4000000
namespace Go.Proofs.YtgljoilddjmohaaGreatDoor.L5
open Go.RowKit L3 L1 L4
theorem Bytes.row {w:World} {k:Nat} {l:List UInt8} (h:w.heap[k]?=some (.cells (byC l) 5)):Bytes w k 0 l:=fun j hj=>by
 rw [Nat.zero_add]
 exact cell_of h (by simp [byC,hj])
theorem dec_bad1 (k o n cap:Nat) (c0 c1 c2 c3 c4 c5 c6 c7:UInt8) (off imm:Int) (w:World) (hw:Wid w) (h:Eight w k o c0 c1 c2 c3 c4 c5 c6 c7) (hn:8≤n) (hc:n≤cap) (hm:cap≤9223372036854775807)
  (ho:sx 16 ((c2.toNat:Int)*1+(c3.toNat:Int)*256)=off) (hi:sx 32 ((c4.toNat:Int)*1+(c5.toNat:Int)*256+(c6.toNat:Int)*65536+(c7.toNat:Int)*16777216)=imm)
  (op:Int) (r ok:Bool) (hid:idF (c0.toNat:Int) ((c1.toNat:Int) / 16) off imm 86 0=(op,r,ok)) (hok:ok=true) (f:Int) (hf:frm (ix op)=f) (hs:slo f=1) (hd11:(c1.toNat:Int) % 16≤10) (hs11:(c1.toNat:Int) / 16≤10)
  (d sv ov iv:Int) (hd:(if uD f then (c1.toNat:Int) % 16 else 0)=d) (hsv:(if uS f r then (c1.toNat:Int) / 16 else 0)=sv) (hov:(if uO f then off else 0)=ov) (hiv:(if uI f r then imm else 0)=iv) (R:Int) (hR:chkF f r d sv ov iv=R) (hR0:(R != 0)=true) :
  Calls Tryz.prog 84 #[.slice (some ⟨k,o,none⟩) n cap] w fun e w'=>e=.returned (.tuple #[.agg #[.int .i64 0,.bool false,.int .i64 0,.int .i64 0,.int .i64 0,.int .i64 0],.int .i64 0,.int .i64 12])∧Below w.heap.size w w':=by
 have HT:=Lib.hid (fun (W:World)=>slots_at op f 1 W hf hs)
 have HU:=Lib.hid (fun (W:World)=>used_at op f r 0 false ((c1.toNat:Int) % 16) ((c1.toNat:Int) / 16) off imm d sv ov iv W hf hd hsv hov hiv)
 have hd1:(c1.toNat:Int) % 16<11:=by omega
 have hr1:(c1.toNat:Int) / 16<11:=by omega
 clear hd hsv hov hiv hd11 hs11 hs
 have HE:=Lib.hid (fun (W:World) (hw:Wid W)=>encode_no op r d sv ov iv f R W hw hf hR hR0)
 clear hf hR
 have HH:=Lib.hid h
 have HW:=Lib.hid hw
 have HF:=Lib.hid (fun (W:World) (hb:Below w.heap.size w W)=>fields_at k o n cap c0 c1 c2 c3 c4 c5 c6 c7 off imm W (wid_below hw hb) (h.below hb) hn hc hm ho hi)
 have HD:=Lib.hid (fun (W:World)=>ident_is (c0.toNat:Int) ((c1.toNat:Int) / 16) off imm op r ok W hid)
 have n8:¬ (n:Int)<8:=by omega
 have n0:0<n:=by omega
 have b1:=c1.toNat_lt
 clear hw h ho hi hid hn hc hm
 go_enter Tryz.func84,Tryz.ntmps84
 go_upto_region 4 with (go_at_call 127;((with_reducible refine (HF.out _ (bnew _ _)).mono ?_);rintro e w1 ⟨rfl,hb1⟩))
 have S:=(DecS.start w #[.int .i64 0,.bool false,.int .i64 0,.int .i64 0,.int .i64 0,.int .i64 0]).below (bch hb1 (bnew w1 (.cells (insA 0 false ((c1.toNat:Int) % 16) ((c1.toNat:Int) / 16) off imm) 50)))
 have h5:=heap_alloc_last w1 (.cells (insA 0 false ((c1.toNat:Int) % 16) ((c1.toNat:Int) / 16) off imm) 50)
 obtain⟨g,hg⟩:∃ g,g=w.heap.size:=⟨_,rfl⟩
 obtain⟨g5,hg5⟩:∃ g5,g5=w1.heap.size:=⟨_,rfl⟩
 have hs1:=hb1.size
 simp only [World.size_alloc] at hs1
 have hne:g≠g5:=by omega
 have hle5:w.heap.size≤g5:=by omega
 rw [← hg] at S ⊢
 rw [← hg5] at h5 ⊢
 generalize w1.alloc (.cells _ 50)=W at S h5 ⊢
 clear hb1 hg hg5 hs1
 have n8':=n8
 have K:DecK w g g5 #[.int .i64 0,.bool false,.int .i64 0,.int .i64 0,.int .i64 0,.int .i64 0] (insA 0 false ((c1.toNat:Int) % 16) ((c1.toNat:Int) / 16) off imm) W:=⟨S,h5⟩
 have d0:=(HH.out.below S.hb).a0
 have HL:=Lib.hid hle5
 have HN:=Lib.hid hne
 clear S h5 hle5 hne
 go_region_held3 (fun w'=>DecK w g g5 #[.int .i64 0,.bool false,.int .i64 0,.int .i64 0,.int .i64 0,.int .i64 0] (insA 0 false ((c1.toNat:Int) % 16) ((c1.toNat:Int) / 16) off imm) w'∧w'.cell? ⟨k,o,none⟩=some (.int .u8 (c0.toNat:Int))∧w'.cell? ⟨g5,3,none⟩=some (.int .i64 ((c1.toNat:Int) / 16))∧w'.cell? ⟨g5,4,none⟩=some (.int .i64 off)∧w'.cell? ⟨g5,5,none⟩=some (.int .i64 imm))
  (first|exact keepI (Below.refl _ _).drew K d0|exact keepJ hb9 (by assumption)|assumption)
  (first|(go_at_call 128;((with_reducible refine (HD.out _).mono ?_);rintro e w9 ⟨rfl,hb9⟩)))
 all_goals
  rename_i hh
  replace K:=hh.1
  clear hh d0
  go_upto_region 13 with (first|(go_at_call 50;((with_reducible refine (HT.out _).mono ?_);rintro e w2 ⟨rfl,hb2⟩;replace K:=K.below hb2;obtain⟨a0,a1,a2,a3,a4,a5⟩:=cells6 K.2))|(go_at_call 129;((with_reducible refine (HU.out _).mono ?_);rintro e w3 ⟨rfl,hb3⟩;replace K:=K.below hb3;have S:=K.1))|(refine wpList_store_row rfl _ _ _ rfl g (insA op r d sv ov iv) rfl rfl 50 _ S.hg (by kernel_rfl) rfl (ins_one _ _ _ _ _ _) ?_;replace S:=S.set (insA op r d sv ov iv)))
  clear a0 a1 a2 a3 a4 a5 K hb2 hb3 hd1 hr1
  generalize w3.setRow _ _=W3 at S ⊢
  obtain⟨x0,x1,x2,x3,x4,x5⟩:=cells6 S.hg
  go_upto_region 17 with (first|(go_at_call 65;((with_reducible refine (HE.out _ (wid_below HW.out S.hb)).mono ?_);rintro e w4 ⟨rfl,hb4⟩;replace S:=S.below hb4)))
  clear x0 x1 x2 x3 x4 x5
  go_wp2_with (first|(refine wpList_store_row rfl _ _ _ rfl g #[.int .i64 0,.bool false,.int .i64 0,.int .i64 0,.int .i64 0,.int .i64 0] rfl rfl 50 _ S.hg (by kernel_rfl) rfl (ins_one _ _ _ _ _ _) ?_;replace S:=S.set #[.int .i64 0,.bool false,.int .i64 0,.int .i64 0,.int .i64 0,.int .i64 0];obtain⟨x0,x1,x2,x3,x4,x5⟩:=cells6 S.hg))
  exact bodyPost_ret (v:=.tuple #[.agg #[.int .i64 0,.bool false,.int .i64 0,.int .i64 0,.int .i64 0,.int .i64 0],.int .i64 0,.int .i64 12]) (by simp [results,Tryz.results84,go_sem,x0,x1,x2,x3,x4,x5]) rfl ⟨rfl,S.hb⟩
theorem dec_no1 (k o n cap:Nat) (c0 c1 c2 c3 c4 c5 c6 c7:UInt8) (off imm:Int) (w:World) (hw:Wid w) (h:Eight w k o c0 c1 c2 c3 c4 c5 c6 c7) (hn:8≤n) (hc:n≤cap) (hm:cap≤9223372036854775807)
  (ho:sx 16 ((c2.toNat:Int)*1+(c3.toNat:Int)*256)=off) (hi:sx 32 ((c4.toNat:Int)*1+(c5.toNat:Int)*256+(c6.toNat:Int)*65536+(c7.toNat:Int)*16777216)=imm)
  (op:Int) (r ok:Bool) (hid:idF (c0.toNat:Int) ((c1.toNat:Int) / 16) off imm 86 0=(op,r,ok)) (hok:ok=true) (f:Int) (hf:frm (ix op)=f) (hs:slo f=1) (hd11:(c1.toNat:Int) % 16≤10) (hs11:(c1.toNat:Int) / 16≤10)
  (d sv ov iv:Int) (hd:(if uD f then (c1.toNat:Int) % 16 else 0)=d) (hsv:(if uS f r then (c1.toNat:Int) / 16 else 0)=sv) (hov:(if uO f then off else 0)=ov) (hiv:(if uI f r then imm else 0)=iv) (l l2:List UInt8) (m:Nat) (hln:l.length=n) (hbl:Bytes w k o l) (hok2:OkI f r d sv ov iv) (hI0:-9223372036854775808≤iv) (hI1:iv≤9223372036854775807) (hl2:encL (ix op) f r d sv ov iv=l2) (hm2:l2.length=m) (hmn:m≤n) (hpr:(l.take m==l2)=false) :
  Calls Tryz.prog 84 #[.slice (some ⟨k,o,none⟩) n cap] w fun e w'=>e=.returned (.tuple #[.agg #[.int .i64 0,.bool false,.int .i64 0,.int .i64 0,.int .i64 0,.int .i64 0],.int .i64 0,.int .i64 12])∧Below w.heap.size w w':=by
 have HT:=Lib.hid (fun (W:World)=>slots_at op f 1 W hf hs)
 have HU:=Lib.hid (fun (W:World)=>used_at op f r 0 false ((c1.toNat:Int) % 16) ((c1.toNat:Int) / 16) off imm d sv ov iv W hf hd hsv hov hiv)
 have hd1:(c1.toNat:Int) % 16<11:=by omega
 have hr1:(c1.toNat:Int) / 16<11:=by omega
 clear hd hsv hov hiv hd11 hs11 hs
 have HE:=Lib.hid (fun (W:World) (hw:Wid W)=>encode_at op r d sv ov iv f l2 m W hw hf hok2 hI0 hI1 hl2 hm2)
 have HP:=Lib.hid (fun (W:World) (k2:Nat) (hb:Below w.heap.size w W) (h2:W.heap[k2]?=some (.cells (byC l2) 5))=>pre_yes k o n cap k2 m m l l2 false W hln hm2 (hbl.up hb) (.row h2) (by omega) hmn hpr)
 clear hf hln hbl hok2 hI0 hI1 hl2 hm2 hmn hpr
 have HH:=Lib.hid h
 have HW:=Lib.hid hw
 have HF:=Lib.hid (fun (W:World) (hb:Below w.heap.size w W)=>fields_at k o n cap c0 c1 c2 c3 c4 c5 c6 c7 off imm W (wid_below hw hb) (h.below hb) hn hc hm ho hi)
 have HD:=Lib.hid (fun (W:World)=>ident_is (c0.toNat:Int) ((c1.toNat:Int) / 16) off imm op r ok W hid)
 have n8:¬ (n:Int)<8:=by omega
 have n0:0<n:=by omega
 have b1:=c1.toNat_lt
 clear hw h ho hi hid hn hc hm
 go_enter Tryz.func84,Tryz.ntmps84
 go_upto_region 4 with (go_at_call 127;((with_reducible refine (HF.out _ (bnew _ _)).mono ?_);rintro e w1 ⟨rfl,hb1⟩))
 have S:=(DecS.start w #[.int .i64 0,.bool false,.int .i64 0,.int .i64 0,.int .i64 0,.int .i64 0]).below (bch hb1 (bnew w1 (.cells (insA 0 false ((c1.toNat:Int) % 16) ((c1.toNat:Int) / 16) off imm) 50)))
 have h5:=heap_alloc_last w1 (.cells (insA 0 false ((c1.toNat:Int) % 16) ((c1.toNat:Int) / 16) off imm) 50)
 obtain⟨g,hg⟩:∃ g,g=w.heap.size:=⟨_,rfl⟩
 obtain⟨g5,hg5⟩:∃ g5,g5=w1.heap.size:=⟨_,rfl⟩
 have hs1:=hb1.size
 simp only [World.size_alloc] at hs1
 have hne:g≠g5:=by omega
 have hle5:w.heap.size≤g5:=by omega
 rw [← hg] at S ⊢
 rw [← hg5] at h5 ⊢
 generalize w1.alloc (.cells _ 50)=W at S h5 ⊢
 clear hb1 hg hg5 hs1
 have n8':=n8
 have K:DecK w g g5 #[.int .i64 0,.bool false,.int .i64 0,.int .i64 0,.int .i64 0,.int .i64 0] (insA 0 false ((c1.toNat:Int) % 16) ((c1.toNat:Int) / 16) off imm) W:=⟨S,h5⟩
 have d0:=(HH.out.below S.hb).a0
 have HL:=Lib.hid hle5
 have HN:=Lib.hid hne
 clear S h5 hle5 hne
 go_region_held3 (fun w'=>DecK w g g5 #[.int .i64 0,.bool false,.int .i64 0,.int .i64 0,.int .i64 0,.int .i64 0] (insA 0 false ((c1.toNat:Int) % 16) ((c1.toNat:Int) / 16) off imm) w'∧w'.cell? ⟨k,o,none⟩=some (.int .u8 (c0.toNat:Int))∧w'.cell? ⟨g5,3,none⟩=some (.int .i64 ((c1.toNat:Int) / 16))∧w'.cell? ⟨g5,4,none⟩=some (.int .i64 off)∧w'.cell? ⟨g5,5,none⟩=some (.int .i64 imm))
  (first|exact keepI (Below.refl _ _).drew K d0|exact keepJ hb9 (by assumption)|assumption)
  (first|(go_at_call 128;((with_reducible refine (HD.out _).mono ?_);rintro e w9 ⟨rfl,hb9⟩)))
 all_goals
  rename_i hh
  replace K:=hh.1
  clear hh d0
  go_upto_region 13 with (first|(go_at_call 50;((with_reducible refine (HT.out _).mono ?_);rintro e w2 ⟨rfl,hb2⟩;replace K:=K.below hb2;obtain⟨a0,a1,a2,a3,a4,a5⟩:=cells6 K.2))|(go_at_call 129;((with_reducible refine (HU.out _).mono ?_);rintro e w3 ⟨rfl,hb3⟩;replace K:=K.below hb3;have S:=K.1))|(refine wpList_store_row rfl _ _ _ rfl g (insA op r d sv ov iv) rfl rfl 50 _ S.hg (by kernel_rfl) rfl (ins_one _ _ _ _ _ _) ?_;replace S:=S.set (insA op r d sv ov iv)))
  clear a0 a1 a2 a3 a4 a5 K hb2 hb3 hd1 hr1
  generalize w3.setRow _ _=W3 at S ⊢
  obtain⟨x0,x1,x2,x3,x4,x5⟩:=cells6 S.hg
  go_wp2_with (first|(go_at_call 65;((with_reducible refine (HE.out _ (wid_below HW.out S.hb)).mono ?_);rintro e w4 ⟨k2,hk2,rfl,hc2,hb4⟩;replace S:=S.below hb4;clear x0 x1 x2 x3 x4 x5;obtain⟨x0,x1,x2,x3,x4,x5⟩:=cells6 S.hg))|(go_at_call 131;((with_reducible refine (HP.out _ k2 S.hb hc2).mono ?_);rintro e w5 ⟨rfl,rfl⟩))|(refine wpList_store_row rfl _ _ _ rfl g #[.int .i64 0,.bool false,.int .i64 0,.int .i64 0,.int .i64 0,.int .i64 0] rfl rfl 50 _ S.hg (by kernel_rfl) rfl (ins_one _ _ _ _ _ _) ?_;replace S:=S.set #[.int .i64 0,.bool false,.int .i64 0,.int .i64 0,.int .i64 0,.int .i64 0];clear x0 x1 x2 x3 x4 x5;obtain⟨x0,x1,x2,x3,x4,x5⟩:=cells6 S.hg))
  exact bodyPost_ret (v:=.tuple #[.agg #[.int .i64 0,.bool false,.int .i64 0,.int .i64 0,.int .i64 0,.int .i64 0],.int .i64 0,.int .i64 12]) (by simp [results,Tryz.results84,go_sem,x0,x1,x2,x3,x4,x5]) rfl ⟨rfl,S.hb⟩
theorem dec_yes1 (k o n cap:Nat) (c0 c1 c2 c3 c4 c5 c6 c7:UInt8) (off imm:Int) (w:World) (hw:Wid w) (h:Eight w k o c0 c1 c2 c3 c4 c5 c6 c7) (hn:8≤n) (hc:n≤cap) (hm:cap≤9223372036854775807)
  (ho:sx 16 ((c2.toNat:Int)*1+(c3.toNat:Int)*256)=off) (hi:sx 32 ((c4.toNat:Int)*1+(c5.toNat:Int)*256+(c6.toNat:Int)*65536+(c7.toNat:Int)*16777216)=imm)
  (op:Int) (r ok:Bool) (hid:idF (c0.toNat:Int) ((c1.toNat:Int) / 16) off imm 86 0=(op,r,ok)) (hok:ok=true) (f:Int) (hf:frm (ix op)=f) (hs:slo f=1) (hd11:(c1.toNat:Int) % 16≤10) (hs11:(c1.toNat:Int) / 16≤10)
  (d sv ov iv:Int) (hd:(if uD f then (c1.toNat:Int) % 16 else 0)=d) (hsv:(if uS f r then (c1.toNat:Int) / 16 else 0)=sv) (hov:(if uO f then off else 0)=ov) (hiv:(if uI f r then imm else 0)=iv) (l l2:List UInt8) (m:Nat) (hln:l.length=n) (hbl:Bytes w k o l) (hok2:OkI f r d sv ov iv) (hI0:-9223372036854775808≤iv) (hI1:iv≤9223372036854775807) (hl2:encL (ix op) f r d sv ov iv=l2) (hm2:l2.length=m) (hmn:m≤n) (hpr:(l.take m==l2)=true) :
  Calls Tryz.prog 84 #[.slice (some ⟨k,o,none⟩) n cap] w fun e w'=>e=.returned (.tuple #[.agg #[.int .i64 op,.bool r,.int .i64 d,.int .i64 sv,.int .i64 ov,.int .i64 iv],.int .i64 1,.int .i64 0])∧Below w.heap.size w w':=by
 have HT:=Lib.hid (fun (W:World)=>slots_at op f 1 W hf hs)
 have HU:=Lib.hid (fun (W:World)=>used_at op f r 0 false ((c1.toNat:Int) % 16) ((c1.toNat:Int) / 16) off imm d sv ov iv W hf hd hsv hov hiv)
 have hd1:(c1.toNat:Int) % 16<11:=by omega
 have hr1:(c1.toNat:Int) / 16<11:=by omega
 clear hd hsv hov hiv hd11 hs11 hs
 have HE:=Lib.hid (fun (W:World) (hw:Wid W)=>encode_at op r d sv ov iv f l2 m W hw hf hok2 hI0 hI1 hl2 hm2)
 have HP:=Lib.hid (fun (W:World) (k2:Nat) (hb:Below w.heap.size w W) (h2:W.heap[k2]?=some (.cells (byC l2) 5))=>pre_yes k o n cap k2 m m l l2 true W hln hm2 (hbl.up hb) (.row h2) (by omega) hmn hpr)
 clear hf hln hbl hok2 hI0 hI1 hl2 hm2 hmn hpr
 have HH:=Lib.hid h
 have HW:=Lib.hid hw
 have HF:=Lib.hid (fun (W:World) (hb:Below w.heap.size w W)=>fields_at k o n cap c0 c1 c2 c3 c4 c5 c6 c7 off imm W (wid_below hw hb) (h.below hb) hn hc hm ho hi)
 have HD:=Lib.hid (fun (W:World)=>ident_is (c0.toNat:Int) ((c1.toNat:Int) / 16) off imm op r ok W hid)
 have n8:¬ (n:Int)<8:=by omega
 have n0:0<n:=by omega
 have b1:=c1.toNat_lt
 clear hw h ho hi hid hn hc hm
 go_enter Tryz.func84,Tryz.ntmps84
 go_upto_region 4 with (go_at_call 127;((with_reducible refine (HF.out _ (bnew _ _)).mono ?_);rintro e w1 ⟨rfl,hb1⟩))
 have S:=(DecS.start w #[.int .i64 0,.bool false,.int .i64 0,.int .i64 0,.int .i64 0,.int .i64 0]).below (bch hb1 (bnew w1 (.cells (insA 0 false ((c1.toNat:Int) % 16) ((c1.toNat:Int) / 16) off imm) 50)))
 have h5:=heap_alloc_last w1 (.cells (insA 0 false ((c1.toNat:Int) % 16) ((c1.toNat:Int) / 16) off imm) 50)
 obtain⟨g,hg⟩:∃ g,g=w.heap.size:=⟨_,rfl⟩
 obtain⟨g5,hg5⟩:∃ g5,g5=w1.heap.size:=⟨_,rfl⟩
 have hs1:=hb1.size
 simp only [World.size_alloc] at hs1
 have hne:g≠g5:=by omega
 have hle5:w.heap.size≤g5:=by omega
 rw [← hg] at S ⊢
 rw [← hg5] at h5 ⊢
 generalize w1.alloc (.cells _ 50)=W at S h5 ⊢
 clear hb1 hg hg5 hs1
 have n8':=n8
 have K:DecK w g g5 #[.int .i64 0,.bool false,.int .i64 0,.int .i64 0,.int .i64 0,.int .i64 0] (insA 0 false ((c1.toNat:Int) % 16) ((c1.toNat:Int) / 16) off imm) W:=⟨S,h5⟩
 have d0:=(HH.out.below S.hb).a0
 have HL:=Lib.hid hle5
 have HN:=Lib.hid hne
 clear S h5 hle5 hne
 go_region_held3 (fun w'=>DecK w g g5 #[.int .i64 0,.bool false,.int .i64 0,.int .i64 0,.int .i64 0,.int .i64 0] (insA 0 false ((c1.toNat:Int) % 16) ((c1.toNat:Int) / 16) off imm) w'∧w'.cell? ⟨k,o,none⟩=some (.int .u8 (c0.toNat:Int))∧w'.cell? ⟨g5,3,none⟩=some (.int .i64 ((c1.toNat:Int) / 16))∧w'.cell? ⟨g5,4,none⟩=some (.int .i64 off)∧w'.cell? ⟨g5,5,none⟩=some (.int .i64 imm))
  (first|exact keepI (Below.refl _ _).drew K d0|exact keepJ hb9 (by assumption)|assumption)
  (first|(go_at_call 128;((with_reducible refine (HD.out _).mono ?_);rintro e w9 ⟨rfl,hb9⟩)))
 all_goals
  rename_i hh
  replace K:=hh.1
  clear hh d0
  go_upto_region 13 with (first|(go_at_call 50;((with_reducible refine (HT.out _).mono ?_);rintro e w2 ⟨rfl,hb2⟩;replace K:=K.below hb2;obtain⟨a0,a1,a2,a3,a4,a5⟩:=cells6 K.2))|(go_at_call 129;((with_reducible refine (HU.out _).mono ?_);rintro e w3 ⟨rfl,hb3⟩;replace K:=K.below hb3;have S:=K.1))|(refine wpList_store_row rfl _ _ _ rfl g (insA op r d sv ov iv) rfl rfl 50 _ S.hg (by kernel_rfl) rfl (ins_one _ _ _ _ _ _) ?_;replace S:=S.set (insA op r d sv ov iv)))
  clear a0 a1 a2 a3 a4 a5 K hb2 hb3 hd1 hr1
  generalize w3.setRow _ _=W3 at S ⊢
  obtain⟨x0,x1,x2,x3,x4,x5⟩:=cells6 S.hg
  go_wp2_with (first|(go_at_call 65;((with_reducible refine (HE.out _ (wid_below HW.out S.hb)).mono ?_);rintro e w4 ⟨k2,hk2,rfl,hc2,hb4⟩;replace S:=S.below hb4;clear x0 x1 x2 x3 x4 x5;obtain⟨x0,x1,x2,x3,x4,x5⟩:=cells6 S.hg))|(go_at_call 131;((with_reducible refine (HP.out _ k2 S.hb hc2).mono ?_);rintro e w5 ⟨rfl,rfl⟩))|(refine wpList_store_row rfl _ _ _ rfl g (insA op r d sv ov iv) rfl rfl 50 _ S.hg (by kernel_rfl) rfl (ins_one _ _ _ _ _ _) ?_;replace S:=S.set (insA op r d sv ov iv);clear x0 x1 x2 x3 x4 x5;obtain⟨x0,x1,x2,x3,x4,x5⟩:=cells6 S.hg))
  exact bodyPost_ret (v:=.tuple #[.agg #[.int .i64 op,.bool r,.int .i64 d,.int .i64 sv,.int .i64 ov,.int .i64 iv],.int .i64 1,.int .i64 0]) (by simp [results,Tryz.results84,go_sem,x0,x1,x2,x3,x4,x5]) rfl ⟨rfl,S.hb⟩
theorem dec_bad2 (k o n cap:Nat) (c0 c1 c2 c3 c4 c5 c6 c7:UInt8) (off imm:Int) (w:World) (hw:Wid w) (h:Eight w k o c0 c1 c2 c3 c4 c5 c6 c7) (hn:8≤n) (hc:n≤cap) (hm:cap≤9223372036854775807)
  (ho:sx 16 ((c2.toNat:Int)*1+(c3.toNat:Int)*256)=off) (hi:sx 32 ((c4.toNat:Int)*1+(c5.toNat:Int)*256+(c6.toNat:Int)*65536+(c7.toNat:Int)*16777216)=imm)
  (op:Int) (r ok:Bool) (hid:idF (c0.toNat:Int) ((c1.toNat:Int) / 16) off imm 86 0=(op,r,ok)) (hok:ok=true) (f:Int) (hf:frm (ix op)=f) (hs:slo f=2) (h16:16≤n) (hd11:(c1.toNat:Int) % 16≤10) (hs11:(c1.toNat:Int) / 16≤10)
  (d sv ov iv:Int) (hd:(if uD f then (c1.toNat:Int) % 16 else 0)=d) (hsv:(if uS f r then (c1.toNat:Int) / 16 else 0)=sv) (hov:(if uO f then off else 0)=ov) (hiv:(if uI f r then imm else 0)=iv)
  (c8 c9 ca cb:UInt8) (g8:w.cell? ⟨k,o+12,none⟩=some (.int .u8 (c8.toNat:Int))) (g9:w.cell? ⟨k,o+12+1,none⟩=some (.int .u8 (c9.toNat:Int))) (ga:w.cell? ⟨k,o+12+2,none⟩=some (.int .u8 (ca.toNat:Int))) (gb:w.cell? ⟨k,o+12+3,none⟩=some (.int .u8 (cb.toNat:Int)))
  (hi' v:Int) (hhi:sx 32 ((c8.toNat:Int)*1+(c9.toNat:Int)*256+(ca.toNat:Int)*65536+(cb.toNat:Int)*16777216)=hi') (hv:bits .or .i64 (wrap64 (iv % 4294967296)) (hi'*4294967296)=v) (hhb0:-2147483648≤hi') (hhb1:hi'≤2147483647) (R:Int) (hR:chkF f r d sv ov v=R) (hR0:(R != 0)=true) :
  Calls Tryz.prog 84 #[.slice (some ⟨k,o,none⟩) n cap] w fun e w'=>e=.returned (.tuple #[.agg #[.int .i64 0,.bool false,.int .i64 0,.int .i64 0,.int .i64 0,.int .i64 0],.int .i64 0,.int .i64 12])∧Below w.heap.size w w':=by
 have HT:=Lib.hid (fun (W:World)=>slots_at op f 2 W hf hs)
 have n16:¬ (n:Int)<16:=by omega
 have HG:=Lib.hid (fun (W:World) (hb:Below w.heap.size w W)=>(get4_at k (o+12) (cap-12) c8 c9 ca cb hi' W (wid_below hw hb) (cell_up hb g8) (cell_up hb g9) (cell_up hb ga) (cell_up hb gb) hhi).mono (R':=fun e w''=>e=.returned (.int .i64 hi')∧w''=W) (fun _ _ h=>⟨h.1,h.2.symm⟩))
 have scg:=sl_cg k o n cap (by omega)
 have HV:=Lib.hid hv
 clear g8 g9 ga gb hhi hv
 have HU:=Lib.hid (fun (W:World)=>used_at op f r 0 false ((c1.toNat:Int) % 16) ((c1.toNat:Int) / 16) off imm d sv ov iv W hf hd hsv hov hiv)
 have hd1:(c1.toNat:Int) % 16<11:=by omega
 have hr1:(c1.toNat:Int) / 16<11:=by omega
 clear hd hsv hov hiv hd11 hs11 hs h16
 have HE:=Lib.hid (fun (W:World) (hw:Wid W)=>encode_no op r d sv ov v f R W hw hf hR hR0)
 clear hf hR
 have HH:=Lib.hid h
 have HW:=Lib.hid hw
 have HF:=Lib.hid (fun (W:World) (hb:Below w.heap.size w W)=>fields_at k o n cap c0 c1 c2 c3 c4 c5 c6 c7 off imm W (wid_below hw hb) (h.below hb) hn hc hm ho hi)
 have HD:=Lib.hid (fun (W:World)=>ident_is (c0.toNat:Int) ((c1.toNat:Int) / 16) off imm op r ok W hid)
 have n8:¬ (n:Int)<8:=by omega
 have n0:0<n:=by omega
 have b1:=c1.toNat_lt
 clear hw h ho hi hid hn hc hm
 go_enter Tryz.func84,Tryz.ntmps84
 go_upto_region 4 with (go_at_call 127;((with_reducible refine (HF.out _ (bnew _ _)).mono ?_);rintro e w1 ⟨rfl,hb1⟩))
 have S:=(DecS.start w #[.int .i64 0,.bool false,.int .i64 0,.int .i64 0,.int .i64 0,.int .i64 0]).below (bch hb1 (bnew w1 (.cells (insA 0 false ((c1.toNat:Int) % 16) ((c1.toNat:Int) / 16) off imm) 50)))
 have h5:=heap_alloc_last w1 (.cells (insA 0 false ((c1.toNat:Int) % 16) ((c1.toNat:Int) / 16) off imm) 50)
 obtain⟨g,hg⟩:∃ g,g=w.heap.size:=⟨_,rfl⟩
 obtain⟨g5,hg5⟩:∃ g5,g5=w1.heap.size:=⟨_,rfl⟩
 have hs1:=hb1.size
 simp only [World.size_alloc] at hs1
 have hne:g≠g5:=by omega
 have hle5:w.heap.size≤g5:=by omega
 rw [← hg] at S ⊢
 rw [← hg5] at h5 ⊢
 generalize w1.alloc (.cells _ 50)=W at S h5 ⊢
 clear hb1 hg hg5 hs1
 have n8':=n8
 have K:DecK w g g5 #[.int .i64 0,.bool false,.int .i64 0,.int .i64 0,.int .i64 0,.int .i64 0] (insA 0 false ((c1.toNat:Int) % 16) ((c1.toNat:Int) / 16) off imm) W:=⟨S,h5⟩
 have d0:=(HH.out.below S.hb).a0
 have HL:=Lib.hid hle5
 have HN:=Lib.hid hne
 clear S h5 hle5 hne
 go_region_held3 (fun w'=>DecK w g g5 #[.int .i64 0,.bool false,.int .i64 0,.int .i64 0,.int .i64 0,.int .i64 0] (insA 0 false ((c1.toNat:Int) % 16) ((c1.toNat:Int) / 16) off imm) w'∧w'.cell? ⟨k,o,none⟩=some (.int .u8 (c0.toNat:Int))∧w'.cell? ⟨g5,3,none⟩=some (.int .i64 ((c1.toNat:Int) / 16))∧w'.cell? ⟨g5,4,none⟩=some (.int .i64 off)∧w'.cell? ⟨g5,5,none⟩=some (.int .i64 imm))
  (first|exact keepI (Below.refl _ _).drew K d0|exact keepJ hb9 (by assumption)|assumption)
  (first|(go_at_call 128;((with_reducible refine (HD.out _).mono ?_);rintro e w9 ⟨rfl,hb9⟩)))
 all_goals
  rename_i hh
  replace K:=hh.1
  clear hh d0
  go_upto_region 13 with (first|(go_at_call 50;((with_reducible refine (HT.out _).mono ?_);rintro e w2 ⟨rfl,hb2⟩;replace K:=K.below hb2;obtain⟨a0,a1,a2,a3,a4,a5⟩:=cells6 K.2))|(go_at_call 129;((with_reducible refine (HU.out _).mono ?_);rintro e w3 ⟨rfl,hb3⟩;replace K:=K.below hb3;have S:=K.1))|(refine wpList_store_row rfl _ _ _ rfl g (insA op r d sv ov iv) rfl rfl 50 _ S.hg (by kernel_rfl) rfl (ins_one _ _ _ _ _ _) ?_;replace S:=S.set (insA op r d sv ov iv)))
  clear a0 a1 a2 a3 a4 a5 K hb2 hb3 hd1 hr1
  generalize w3.setRow _ _=W3 at S ⊢
  go_upto_region 14 with (fail)
  refine wp_region_still_tail 10 (by kernel_rfl) (by kernel_rfl) ?_
  simp only [List.take_succ_cons,List.take_zero,List.drop_succ_cons,List.drop_zero]
  change wpStill _ _ (World.drew _) _ _ _
  replace S:=S.below ((Below.refl W3.heap.size W3).drew)
  obtain⟨D,hD⟩:∃ D,D=W3.drew:=⟨_,rfl⟩
  rw [← hD] at S ⊢
  have HQ:=Lib.hid hD
  clear hD
  have GG:=Lib.hid (HG.out D S.hb)
  obtain⟨x0,x1,x2,x3,x4,x5⟩:=cells6 S.hg
  have f5:=frozen_all S.hg 5
  have m2:IntKind.i64.wrap (hi'*4294967296)=hi'*4294967296:=IntWalk.i64_in _ (by omega)
  repeat still_step
  still_call GG.out
  repeat still_step
  refine wpStill_nil ?_
  change wpList _ _ _ _ _ W3.drew
  rw [← HQ.out]
  clear HQ GG
  go_upto_region 15 with (fail)
  rw [HV.out]
  replace S:=S.setc 5 (.int .i64 v)
  clear x0 x1 x2 x3 x4 x5 f5 m2
  generalize D.setCell _ _=W4 at S ⊢
  replace S:DecS w W4 g (insA op r d sv ov v):=S
  obtain⟨x0,x1,x2,x3,x4,x5⟩:=cells6 S.hg
  go_upto_region 17 with (first|(go_at_call 65;((with_reducible refine (HE.out _ (wid_below HW.out S.hb)).mono ?_);rintro e w4 ⟨rfl,hb4⟩;replace S:=S.below hb4)))
  clear x0 x1 x2 x3 x4 x5
  go_wp2_with (first|(refine wpList_store_row rfl _ _ _ rfl g #[.int .i64 0,.bool false,.int .i64 0,.int .i64 0,.int .i64 0,.int .i64 0] rfl rfl 50 _ S.hg (by kernel_rfl) rfl (ins_one _ _ _ _ _ _) ?_;replace S:=S.set #[.int .i64 0,.bool false,.int .i64 0,.int .i64 0,.int .i64 0,.int .i64 0];obtain⟨x0,x1,x2,x3,x4,x5⟩:=cells6 S.hg))
  exact bodyPost_ret (v:=.tuple #[.agg #[.int .i64 0,.bool false,.int .i64 0,.int .i64 0,.int .i64 0,.int .i64 0],.int .i64 0,.int .i64 12]) (by simp [results,Tryz.results84,go_sem,x0,x1,x2,x3,x4,x5]) rfl ⟨rfl,S.hb⟩
theorem dec_no2 (k o n cap:Nat) (c0 c1 c2 c3 c4 c5 c6 c7:UInt8) (off imm:Int) (w:World) (hw:Wid w) (h:Eight w k o c0 c1 c2 c3 c4 c5 c6 c7) (hn:8≤n) (hc:n≤cap) (hm:cap≤9223372036854775807)
  (ho:sx 16 ((c2.toNat:Int)*1+(c3.toNat:Int)*256)=off) (hi:sx 32 ((c4.toNat:Int)*1+(c5.toNat:Int)*256+(c6.toNat:Int)*65536+(c7.toNat:Int)*16777216)=imm)
  (op:Int) (r ok:Bool) (hid:idF (c0.toNat:Int) ((c1.toNat:Int) / 16) off imm 86 0=(op,r,ok)) (hok:ok=true) (f:Int) (hf:frm (ix op)=f) (hs:slo f=2) (h16:16≤n) (hd11:(c1.toNat:Int) % 16≤10) (hs11:(c1.toNat:Int) / 16≤10)
  (d sv ov iv:Int) (hd:(if uD f then (c1.toNat:Int) % 16 else 0)=d) (hsv:(if uS f r then (c1.toNat:Int) / 16 else 0)=sv) (hov:(if uO f then off else 0)=ov) (hiv:(if uI f r then imm else 0)=iv)
  (c8 c9 ca cb:UInt8) (g8:w.cell? ⟨k,o+12,none⟩=some (.int .u8 (c8.toNat:Int))) (g9:w.cell? ⟨k,o+12+1,none⟩=some (.int .u8 (c9.toNat:Int))) (ga:w.cell? ⟨k,o+12+2,none⟩=some (.int .u8 (ca.toNat:Int))) (gb:w.cell? ⟨k,o+12+3,none⟩=some (.int .u8 (cb.toNat:Int)))
  (hi' v:Int) (hhi:sx 32 ((c8.toNat:Int)*1+(c9.toNat:Int)*256+(ca.toNat:Int)*65536+(cb.toNat:Int)*16777216)=hi') (hv:bits .or .i64 (wrap64 (iv % 4294967296)) (hi'*4294967296)=v) (hhb0:-2147483648≤hi') (hhb1:hi'≤2147483647) (l l2:List UInt8) (m:Nat) (hln:l.length=n) (hbl:Bytes w k o l) (hok2:OkI f r d sv ov v) (hI0:-9223372036854775808≤v) (hI1:v≤9223372036854775807) (hl2:encL (ix op) f r d sv ov v=l2) (hm2:l2.length=m) (hmn:m≤n) (hpr:(l.take m==l2)=false) :
  Calls Tryz.prog 84 #[.slice (some ⟨k,o,none⟩) n cap] w fun e w'=>e=.returned (.tuple #[.agg #[.int .i64 0,.bool false,.int .i64 0,.int .i64 0,.int .i64 0,.int .i64 0],.int .i64 0,.int .i64 12])∧Below w.heap.size w w':=by
 have HT:=Lib.hid (fun (W:World)=>slots_at op f 2 W hf hs)
 have n16:¬ (n:Int)<16:=by omega
 have HG:=Lib.hid (fun (W:World) (hb:Below w.heap.size w W)=>(get4_at k (o+12) (cap-12) c8 c9 ca cb hi' W (wid_below hw hb) (cell_up hb g8) (cell_up hb g9) (cell_up hb ga) (cell_up hb gb) hhi).mono (R':=fun e w''=>e=.returned (.int .i64 hi')∧w''=W) (fun _ _ h=>⟨h.1,h.2.symm⟩))
 have scg:=sl_cg k o n cap (by omega)
 have HV:=Lib.hid hv
 clear g8 g9 ga gb hhi hv
 have HU:=Lib.hid (fun (W:World)=>used_at op f r 0 false ((c1.toNat:Int) % 16) ((c1.toNat:Int) / 16) off imm d sv ov iv W hf hd hsv hov hiv)
 have hd1:(c1.toNat:Int) % 16<11:=by omega
 have hr1:(c1.toNat:Int) / 16<11:=by omega
 clear hd hsv hov hiv hd11 hs11 hs h16
 have HE:=Lib.hid (fun (W:World) (hw:Wid W)=>encode_at op r d sv ov v f l2 m W hw hf hok2 hI0 hI1 hl2 hm2)
 have HP:=Lib.hid (fun (W:World) (k2:Nat) (hb:Below w.heap.size w W) (h2:W.heap[k2]?=some (.cells (byC l2) 5))=>pre_yes k o n cap k2 m m l l2 false W hln hm2 (hbl.up hb) (.row h2) (by omega) hmn hpr)
 clear hf hln hbl hok2 hI0 hI1 hl2 hm2 hmn hpr
 have HH:=Lib.hid h
 have HW:=Lib.hid hw
 have HF:=Lib.hid (fun (W:World) (hb:Below w.heap.size w W)=>fields_at k o n cap c0 c1 c2 c3 c4 c5 c6 c7 off imm W (wid_below hw hb) (h.below hb) hn hc hm ho hi)
 have HD:=Lib.hid (fun (W:World)=>ident_is (c0.toNat:Int) ((c1.toNat:Int) / 16) off imm op r ok W hid)
 have n8:¬ (n:Int)<8:=by omega
 have n0:0<n:=by omega
 have b1:=c1.toNat_lt
 clear hw h ho hi hid hn hc hm
 go_enter Tryz.func84,Tryz.ntmps84
 go_upto_region 4 with (go_at_call 127;((with_reducible refine (HF.out _ (bnew _ _)).mono ?_);rintro e w1 ⟨rfl,hb1⟩))
 have S:=(DecS.start w #[.int .i64 0,.bool false,.int .i64 0,.int .i64 0,.int .i64 0,.int .i64 0]).below (bch hb1 (bnew w1 (.cells (insA 0 false ((c1.toNat:Int) % 16) ((c1.toNat:Int) / 16) off imm) 50)))
 have h5:=heap_alloc_last w1 (.cells (insA 0 false ((c1.toNat:Int) % 16) ((c1.toNat:Int) / 16) off imm) 50)
 obtain⟨g,hg⟩:∃ g,g=w.heap.size:=⟨_,rfl⟩
 obtain⟨g5,hg5⟩:∃ g5,g5=w1.heap.size:=⟨_,rfl⟩
 have hs1:=hb1.size
 simp only [World.size_alloc] at hs1
 have hne:g≠g5:=by omega
 have hle5:w.heap.size≤g5:=by omega
 rw [← hg] at S ⊢
 rw [← hg5] at h5 ⊢
 generalize w1.alloc (.cells _ 50)=W at S h5 ⊢
 clear hb1 hg hg5 hs1
 have n8':=n8
 have K:DecK w g g5 #[.int .i64 0,.bool false,.int .i64 0,.int .i64 0,.int .i64 0,.int .i64 0] (insA 0 false ((c1.toNat:Int) % 16) ((c1.toNat:Int) / 16) off imm) W:=⟨S,h5⟩
 have d0:=(HH.out.below S.hb).a0
 have HL:=Lib.hid hle5
 have HN:=Lib.hid hne
 clear S h5 hle5 hne
 go_region_held3 (fun w'=>DecK w g g5 #[.int .i64 0,.bool false,.int .i64 0,.int .i64 0,.int .i64 0,.int .i64 0] (insA 0 false ((c1.toNat:Int) % 16) ((c1.toNat:Int) / 16) off imm) w'∧w'.cell? ⟨k,o,none⟩=some (.int .u8 (c0.toNat:Int))∧w'.cell? ⟨g5,3,none⟩=some (.int .i64 ((c1.toNat:Int) / 16))∧w'.cell? ⟨g5,4,none⟩=some (.int .i64 off)∧w'.cell? ⟨g5,5,none⟩=some (.int .i64 imm))
  (first|exact keepI (Below.refl _ _).drew K d0|exact keepJ hb9 (by assumption)|assumption)
  (first|(go_at_call 128;((with_reducible refine (HD.out _).mono ?_);rintro e w9 ⟨rfl,hb9⟩)))
 all_goals
  rename_i hh
  replace K:=hh.1
  clear hh d0
  go_upto_region 13 with (first|(go_at_call 50;((with_reducible refine (HT.out _).mono ?_);rintro e w2 ⟨rfl,hb2⟩;replace K:=K.below hb2;obtain⟨a0,a1,a2,a3,a4,a5⟩:=cells6 K.2))|(go_at_call 129;((with_reducible refine (HU.out _).mono ?_);rintro e w3 ⟨rfl,hb3⟩;replace K:=K.below hb3;have S:=K.1))|(refine wpList_store_row rfl _ _ _ rfl g (insA op r d sv ov iv) rfl rfl 50 _ S.hg (by kernel_rfl) rfl (ins_one _ _ _ _ _ _) ?_;replace S:=S.set (insA op r d sv ov iv)))
  clear a0 a1 a2 a3 a4 a5 K hb2 hb3 hd1 hr1
  generalize w3.setRow _ _=W3 at S ⊢
  go_upto_region 14 with (fail)
  refine wp_region_still_tail 10 (by kernel_rfl) (by kernel_rfl) ?_
  simp only [List.take_succ_cons,List.take_zero,List.drop_succ_cons,List.drop_zero]
  change wpStill _ _ (World.drew _) _ _ _
  replace S:=S.below ((Below.refl W3.heap.size W3).drew)
  obtain⟨D,hD⟩:∃ D,D=W3.drew:=⟨_,rfl⟩
  rw [← hD] at S ⊢
  have HQ:=Lib.hid hD
  clear hD
  have GG:=Lib.hid (HG.out D S.hb)
  obtain⟨x0,x1,x2,x3,x4,x5⟩:=cells6 S.hg
  have f5:=frozen_all S.hg 5
  have m2:IntKind.i64.wrap (hi'*4294967296)=hi'*4294967296:=IntWalk.i64_in _ (by omega)
  repeat still_step
  still_call GG.out
  repeat still_step
  refine wpStill_nil ?_
  change wpList _ _ _ _ _ W3.drew
  rw [← HQ.out]
  clear HQ GG
  go_upto_region 15 with (fail)
  rw [HV.out]
  replace S:=S.setc 5 (.int .i64 v)
  clear x0 x1 x2 x3 x4 x5 f5 m2
  generalize D.setCell _ _=W4 at S ⊢
  replace S:DecS w W4 g (insA op r d sv ov v):=S
  obtain⟨x0,x1,x2,x3,x4,x5⟩:=cells6 S.hg
  go_wp2_with (first|(go_at_call 65;((with_reducible refine (HE.out _ (wid_below HW.out S.hb)).mono ?_);rintro e w4 ⟨k2,hk2,rfl,hc2,hb4⟩;replace S:=S.below hb4;clear x0 x1 x2 x3 x4 x5;obtain⟨x0,x1,x2,x3,x4,x5⟩:=cells6 S.hg))|(go_at_call 131;((with_reducible refine (HP.out _ k2 S.hb hc2).mono ?_);rintro e w5 ⟨rfl,rfl⟩))|(refine wpList_store_row rfl _ _ _ rfl g #[.int .i64 0,.bool false,.int .i64 0,.int .i64 0,.int .i64 0,.int .i64 0] rfl rfl 50 _ S.hg (by kernel_rfl) rfl (ins_one _ _ _ _ _ _) ?_;replace S:=S.set #[.int .i64 0,.bool false,.int .i64 0,.int .i64 0,.int .i64 0,.int .i64 0];clear x0 x1 x2 x3 x4 x5;obtain⟨x0,x1,x2,x3,x4,x5⟩:=cells6 S.hg))
  exact bodyPost_ret (v:=.tuple #[.agg #[.int .i64 0,.bool false,.int .i64 0,.int .i64 0,.int .i64 0,.int .i64 0],.int .i64 0,.int .i64 12]) (by simp [results,Tryz.results84,go_sem,x0,x1,x2,x3,x4,x5]) rfl ⟨rfl,S.hb⟩
theorem dec_yes2 (k o n cap:Nat) (c0 c1 c2 c3 c4 c5 c6 c7:UInt8) (off imm:Int) (w:World) (hw:Wid w) (h:Eight w k o c0 c1 c2 c3 c4 c5 c6 c7) (hn:8≤n) (hc:n≤cap) (hm:cap≤9223372036854775807)
  (ho:sx 16 ((c2.toNat:Int)*1+(c3.toNat:Int)*256)=off) (hi:sx 32 ((c4.toNat:Int)*1+(c5.toNat:Int)*256+(c6.toNat:Int)*65536+(c7.toNat:Int)*16777216)=imm)
  (op:Int) (r ok:Bool) (hid:idF (c0.toNat:Int) ((c1.toNat:Int) / 16) off imm 86 0=(op,r,ok)) (hok:ok=true) (f:Int) (hf:frm (ix op)=f) (hs:slo f=2) (h16:16≤n) (hd11:(c1.toNat:Int) % 16≤10) (hs11:(c1.toNat:Int) / 16≤10)
  (d sv ov iv:Int) (hd:(if uD f then (c1.toNat:Int) % 16 else 0)=d) (hsv:(if uS f r then (c1.toNat:Int) / 16 else 0)=sv) (hov:(if uO f then off else 0)=ov) (hiv:(if uI f r then imm else 0)=iv)
  (c8 c9 ca cb:UInt8) (g8:w.cell? ⟨k,o+12,none⟩=some (.int .u8 (c8.toNat:Int))) (g9:w.cell? ⟨k,o+12+1,none⟩=some (.int .u8 (c9.toNat:Int))) (ga:w.cell? ⟨k,o+12+2,none⟩=some (.int .u8 (ca.toNat:Int))) (gb:w.cell? ⟨k,o+12+3,none⟩=some (.int .u8 (cb.toNat:Int)))
  (hi' v:Int) (hhi:sx 32 ((c8.toNat:Int)*1+(c9.toNat:Int)*256+(ca.toNat:Int)*65536+(cb.toNat:Int)*16777216)=hi') (hv:bits .or .i64 (wrap64 (iv % 4294967296)) (hi'*4294967296)=v) (hhb0:-2147483648≤hi') (hhb1:hi'≤2147483647) (l l2:List UInt8) (m:Nat) (hln:l.length=n) (hbl:Bytes w k o l) (hok2:OkI f r d sv ov v) (hI0:-9223372036854775808≤v) (hI1:v≤9223372036854775807) (hl2:encL (ix op) f r d sv ov v=l2) (hm2:l2.length=m) (hmn:m≤n) (hpr:(l.take m==l2)=true) :
  Calls Tryz.prog 84 #[.slice (some ⟨k,o,none⟩) n cap] w fun e w'=>e=.returned (.tuple #[.agg #[.int .i64 op,.bool r,.int .i64 d,.int .i64 sv,.int .i64 ov,.int .i64 v],.int .i64 2,.int .i64 0])∧Below w.heap.size w w':=by
 have HT:=Lib.hid (fun (W:World)=>slots_at op f 2 W hf hs)
 have n16:¬ (n:Int)<16:=by omega
 have HG:=Lib.hid (fun (W:World) (hb:Below w.heap.size w W)=>(get4_at k (o+12) (cap-12) c8 c9 ca cb hi' W (wid_below hw hb) (cell_up hb g8) (cell_up hb g9) (cell_up hb ga) (cell_up hb gb) hhi).mono (R':=fun e w''=>e=.returned (.int .i64 hi')∧w''=W) (fun _ _ h=>⟨h.1,h.2.symm⟩))
 have scg:=sl_cg k o n cap (by omega)
 have HV:=Lib.hid hv
 clear g8 g9 ga gb hhi hv
 have HU:=Lib.hid (fun (W:World)=>used_at op f r 0 false ((c1.toNat:Int) % 16) ((c1.toNat:Int) / 16) off imm d sv ov iv W hf hd hsv hov hiv)
 have hd1:(c1.toNat:Int) % 16<11:=by omega
 have hr1:(c1.toNat:Int) / 16<11:=by omega
 clear hd hsv hov hiv hd11 hs11 hs h16
 have HE:=Lib.hid (fun (W:World) (hw:Wid W)=>encode_at op r d sv ov v f l2 m W hw hf hok2 hI0 hI1 hl2 hm2)
 have HP:=Lib.hid (fun (W:World) (k2:Nat) (hb:Below w.heap.size w W) (h2:W.heap[k2]?=some (.cells (byC l2) 5))=>pre_yes k o n cap k2 m m l l2 true W hln hm2 (hbl.up hb) (.row h2) (by omega) hmn hpr)
 clear hf hln hbl hok2 hI0 hI1 hl2 hm2 hmn hpr
 have HH:=Lib.hid h
 have HW:=Lib.hid hw
 have HF:=Lib.hid (fun (W:World) (hb:Below w.heap.size w W)=>fields_at k o n cap c0 c1 c2 c3 c4 c5 c6 c7 off imm W (wid_below hw hb) (h.below hb) hn hc hm ho hi)
 have HD:=Lib.hid (fun (W:World)=>ident_is (c0.toNat:Int) ((c1.toNat:Int) / 16) off imm op r ok W hid)
 have n8:¬ (n:Int)<8:=by omega
 have n0:0<n:=by omega
 have b1:=c1.toNat_lt
 clear hw h ho hi hid hn hc hm
 go_enter Tryz.func84,Tryz.ntmps84
 go_upto_region 4 with (go_at_call 127;((with_reducible refine (HF.out _ (bnew _ _)).mono ?_);rintro e w1 ⟨rfl,hb1⟩))
 have S:=(DecS.start w #[.int .i64 0,.bool false,.int .i64 0,.int .i64 0,.int .i64 0,.int .i64 0]).below (bch hb1 (bnew w1 (.cells (insA 0 false ((c1.toNat:Int) % 16) ((c1.toNat:Int) / 16) off imm) 50)))
 have h5:=heap_alloc_last w1 (.cells (insA 0 false ((c1.toNat:Int) % 16) ((c1.toNat:Int) / 16) off imm) 50)
 obtain⟨g,hg⟩:∃ g,g=w.heap.size:=⟨_,rfl⟩
 obtain⟨g5,hg5⟩:∃ g5,g5=w1.heap.size:=⟨_,rfl⟩
 have hs1:=hb1.size
 simp only [World.size_alloc] at hs1
 have hne:g≠g5:=by omega
 have hle5:w.heap.size≤g5:=by omega
 rw [← hg] at S ⊢
 rw [← hg5] at h5 ⊢
 generalize w1.alloc (.cells _ 50)=W at S h5 ⊢
 clear hb1 hg hg5 hs1
 have n8':=n8
 have K:DecK w g g5 #[.int .i64 0,.bool false,.int .i64 0,.int .i64 0,.int .i64 0,.int .i64 0] (insA 0 false ((c1.toNat:Int) % 16) ((c1.toNat:Int) / 16) off imm) W:=⟨S,h5⟩
 have d0:=(HH.out.below S.hb).a0
 have HL:=Lib.hid hle5
 have HN:=Lib.hid hne
 clear S h5 hle5 hne
 go_region_held3 (fun w'=>DecK w g g5 #[.int .i64 0,.bool false,.int .i64 0,.int .i64 0,.int .i64 0,.int .i64 0] (insA 0 false ((c1.toNat:Int) % 16) ((c1.toNat:Int) / 16) off imm) w'∧w'.cell? ⟨k,o,none⟩=some (.int .u8 (c0.toNat:Int))∧w'.cell? ⟨g5,3,none⟩=some (.int .i64 ((c1.toNat:Int) / 16))∧w'.cell? ⟨g5,4,none⟩=some (.int .i64 off)∧w'.cell? ⟨g5,5,none⟩=some (.int .i64 imm))
  (first|exact keepI (Below.refl _ _).drew K d0|exact keepJ hb9 (by assumption)|assumption)
  (first|(go_at_call 128;((with_reducible refine (HD.out _).mono ?_);rintro e w9 ⟨rfl,hb9⟩)))
 all_goals
  rename_i hh
  replace K:=hh.1
  clear hh d0
  go_upto_region 13 with (first|(go_at_call 50;((with_reducible refine (HT.out _).mono ?_);rintro e w2 ⟨rfl,hb2⟩;replace K:=K.below hb2;obtain⟨a0,a1,a2,a3,a4,a5⟩:=cells6 K.2))|(go_at_call 129;((with_reducible refine (HU.out _).mono ?_);rintro e w3 ⟨rfl,hb3⟩;replace K:=K.below hb3;have S:=K.1))|(refine wpList_store_row rfl _ _ _ rfl g (insA op r d sv ov iv) rfl rfl 50 _ S.hg (by kernel_rfl) rfl (ins_one _ _ _ _ _ _) ?_;replace S:=S.set (insA op r d sv ov iv)))
  clear a0 a1 a2 a3 a4 a5 K hb2 hb3 hd1 hr1
  generalize w3.setRow _ _=W3 at S ⊢
  go_upto_region 14 with (fail)
  refine wp_region_still_tail 10 (by kernel_rfl) (by kernel_rfl) ?_
  simp only [List.take_succ_cons,List.take_zero,List.drop_succ_cons,List.drop_zero]
  change wpStill _ _ (World.drew _) _ _ _
  replace S:=S.below ((Below.refl W3.heap.size W3).drew)
  obtain⟨D,hD⟩:∃ D,D=W3.drew:=⟨_,rfl⟩
  rw [← hD] at S ⊢
  have HQ:=Lib.hid hD
  clear hD
  have GG:=Lib.hid (HG.out D S.hb)
  obtain⟨x0,x1,x2,x3,x4,x5⟩:=cells6 S.hg
  have f5:=frozen_all S.hg 5
  have m2:IntKind.i64.wrap (hi'*4294967296)=hi'*4294967296:=IntWalk.i64_in _ (by omega)
  repeat still_step
  still_call GG.out
  repeat still_step
  refine wpStill_nil ?_
  change wpList _ _ _ _ _ W3.drew
  rw [← HQ.out]
  clear HQ GG
  go_upto_region 15 with (fail)
  rw [HV.out]
  replace S:=S.setc 5 (.int .i64 v)
  clear x0 x1 x2 x3 x4 x5 f5 m2
  generalize D.setCell _ _=W4 at S ⊢
  replace S:DecS w W4 g (insA op r d sv ov v):=S
  obtain⟨x0,x1,x2,x3,x4,x5⟩:=cells6 S.hg
  go_wp2_with (first|(go_at_call 65;((with_reducible refine (HE.out _ (wid_below HW.out S.hb)).mono ?_);rintro e w4 ⟨k2,hk2,rfl,hc2,hb4⟩;replace S:=S.below hb4;clear x0 x1 x2 x3 x4 x5;obtain⟨x0,x1,x2,x3,x4,x5⟩:=cells6 S.hg))|(go_at_call 131;((with_reducible refine (HP.out _ k2 S.hb hc2).mono ?_);rintro e w5 ⟨rfl,rfl⟩))|(refine wpList_store_row rfl _ _ _ rfl g (insA op r d sv ov v) rfl rfl 50 _ S.hg (by kernel_rfl) rfl (ins_one _ _ _ _ _ _) ?_;replace S:=S.set (insA op r d sv ov v);clear x0 x1 x2 x3 x4 x5;obtain⟨x0,x1,x2,x3,x4,x5⟩:=cells6 S.hg))
  exact bodyPost_ret (v:=.tuple #[.agg #[.int .i64 op,.bool r,.int .i64 d,.int .i64 sv,.int .i64 ov,.int .i64 v],.int .i64 2,.int .i64 0]) (by simp [results,Tryz.results84,go_sem,x0,x1,x2,x3,x4,x5]) rfl ⟨rfl,S.hb⟩
end Go.Proofs.YtgljoilddjmohaaGreatDoor.L5
end
section
set_option maxRecDepth 100000
set_option maxHeartbeats 1000000
namespace Go.Proofs.YtgljoilddjmohaaGreatDoor.L5
open Go.RowKit L3 L1 L4
def Ix.z:Ix:=⟨0,false,0,0,0,0⟩
def bt' (l:List UInt8) (i:Nat):UInt8:=l.getD i 0
def offL (l:List UInt8):Int:=sx 16 (((bt' l 2).toNat:Int)*1+((bt' l 3).toNat:Int)*256)
def immL (l:List UInt8):Int:=sx 32 (((bt' l 4).toNat:Int)*1+((bt' l 5).toNat:Int)*256+((bt' l 6).toNat:Int)*65536+((bt' l 7).toNat:Int)*16777216)
def hiL (l:List UInt8):Int:=sx 32 (((bt' l 12).toNat:Int)*1+((bt' l 13).toNat:Int)*256+((bt' l 14).toNat:Int)*65536+((bt' l 15).toNat:Int)*16777216)
def idL (l:List UInt8):Int × Bool × Bool:=idF ((bt' l 0).toNat:Int) (((bt' l 1).toNat:Int) / 16) (offL l) (immL l) 86 0
def fL (l:List UInt8):Int:=frm (ix (idL l).1)
def ivL (l:List UInt8):Int:=if uI (fL l) (idL l).2.1 then immL l else 0
def rdL (l:List UInt8):Ix :=
 ⟨(idL l).1,(idL l).2.1,if uD (fL l) then ((bt' l 1).toNat:Int) % 16 else 0,if uS (fL l) (idL l).2.1 then ((bt' l 1).toNat:Int) / 16 else 0,if uO (fL l) then offL l else 0,
  if slo (fL l)=2 then bits .or .i64 (wrap64 (ivL l % 4294967296)) (hiL l*4294967296) else ivL l⟩
def Ix.chk (f:Int) (x:Ix):Int:=chkF f x.reg x.dst x.src x.off x.imm
def Ix.enc (j:Nat) (f:Int) (x:Ix):List UInt8:=encL j f x.reg x.dst x.src x.off x.imm
def decF (l:List UInt8):Ix × Int × Int :=
 if l.length<8 then (.z,0,17)
 else if (idL l).2.2=false then (.z,0,6)
 else if slo (fL l)=2∧l.length<16 then (.z,0,17)
 else if 11≤((bt' l 1).toNat:Int) % 16∨11≤((bt' l 1).toNat:Int) / 16 then (.z,0,5)
 else if (rdL l).chk (fL l)=0∧l.take ((rdL l).enc (ix (idL l).1) (fL l)).length=(rdL l).enc (ix (idL l).1) (fL l) then (rdL l,slo (fL l),0)
 else (.z,0,12)
theorem BsAt.below {w w':World} {v:Value} {l:List UInt8} (h:BsAt w v l) (hb:Below w.heap.size w w'):BsAt w' v l:=by
 obtain⟨a,cap,rfl,h1,h2,h3⟩:=h
 refine⟨a,cap,rfl,h1,h2,?_⟩
 rcases h3 with h3|⟨k,o,rfl,h3⟩
 ·exact .inl h3
 ·exact .inr ⟨k,o,rfl,h3.up hb⟩
theorem Bytes.get {w:World} {k o:Nat} {l:List UInt8} (h:Bytes w k o l) (i:Nat) (hi:i<l.length):w.cell? ⟨k,o+i,none⟩=some (.int .u8 ((bt' l i).toNat:Int)):=by
 rw [h i hi,bt',List.getD,List.getElem?_eq_getElem hi]
 rfl
theorem Bytes.eight {w:World} {k o:Nat} {l:List UInt8} (h:Bytes w k o l) (hi:8≤l.length):Eight w k o (bt' l 0) (bt' l 1) (bt' l 2) (bt' l 3) (bt' l 4) (bt' l 5) (bt' l 6) (bt' l 7) :=
 ⟨h.get 0 (by omega),h.get 1 (by omega),h.get 2 (by omega),h.get 3 (by omega),h.get 4 (by omega),h.get 5 (by omega),h.get 6 (by omega),h.get 7 (by omega)⟩
theorem dec_short (a:Option Addr) (n cap:Nat) (w:World) (hn:n<8):Calls Tryz.prog 84 #[.slice a n cap] w fun e w'=>e=.returned (.tuple #[.agg Ix.z.cs,.int .i64 0,.int .i64 17])∧Below w.heap.size w w':=by
 have n8:(n:Int)<8:=by omega
 have S:=DecS.start w #[.int .i64 0,.bool false,.int .i64 0,.int .i64 0,.int .i64 0,.int .i64 0]
 go_enter Tryz.func84,Tryz.ntmps84
 go_wp2_with (first|(refine wpList_store_row rfl _ _ _ rfl w.heap.size #[.int .i64 0,.bool false,.int .i64 0,.int .i64 0,.int .i64 0,.int .i64 0] rfl rfl 50 _ S.hg (by kernel_rfl) rfl (ins_one _ _ _ _ _ _) ?_;replace S:=S.set #[.int .i64 0,.bool false,.int .i64 0,.int .i64 0,.int .i64 0,.int .i64 0];obtain⟨x0,x1,x2,x3,x4,x5⟩:=cells6 S.hg))
 exact bodyPost_ret (v:=.tuple #[.agg #[.int .i64 0,.bool false,.int .i64 0,.int .i64 0,.int .i64 0,.int .i64 0],.int .i64 0,.int .i64 17]) (by simp [results,Tryz.results84,go_sem,x0,x1,x2,x3,x4,x5]) rfl ⟨rfl,S.hb⟩
theorem id_ok (code src off imm:Int):∀ (n k:Nat) (op:Int) (r:Bool),idF code src off imm n k=(op,r,true)→∃ j,k≤j∧j<k+n∧op=(j:Int)∧hitK code src off imm j=true∧r=regK code j
 | 0,k,op,r,h=>by simp [idF] at h
 | n+1,k,op,r,h=>by
  unfold idF at h
  split at h
  ·rename_i hh
   simp only [Prod.mk.injEq,and_true] at h
   exact⟨k,Nat.le_refl _,by omega,h.1.symm,hh,h.2.symm⟩
  ·obtain⟨j,h1,h2,h3⟩:=id_ok code src off imm n (k+1) op r h
   exact⟨j,by omega,by omega,h3⟩
theorem sx32_b (x:Int):-2147483648≤sx 32 x∧sx 32 x≤2147483647:=by
 unfold sx
 simp
 omega
theorem or_hi (a b:Int) (ha:0≤a) (ha2:a<4294967296) (hb0:-2147483648≤b) (hb1:b≤2147483647):bits .or .i64 a (b*4294967296)=a+b*4294967296:=by
 show IntKind.i64.wrap (((BitVec.ofInt 64 a ||| BitVec.ofInt 64 (b*4294967296)).toNat:Nat):Int)=_
 rw [BitVec.toNat_or,BitVec.toNat_ofInt,BitVec.toNat_ofInt]
 obtain⟨A,hA⟩:∃ A:Nat,(a % ((2 ^ 64:Nat):Int)).toNat=A:=⟨_,rfl⟩
 obtain⟨Q,hQ⟩:∃ Q:Nat,(b % 4294967296).toNat=Q:=⟨_,rfl⟩
 have e:(b*4294967296 % ((2 ^ 64:Nat):Int)).toNat=2 ^ 32*Q:=by
  have:((2 ^ 64:Nat):Int)=18446744073709551616:=rfl
  rw [this]
  omega
 have hA':A=a.toNat:=by
  have:((2 ^ 64:Nat):Int)=18446744073709551616:=rfl
  rw [this] at hA
  omega
 rw [hA,e,Nat.or_comm,← Nat.two_pow_add_eq_or_of_lt (by omega) Q]
 rw [IntKind.wrap_i64]
 omega
theorem vb (a b:Int) (h0:0≤a) (h1:a<4294967296) (h2:-2147483648≤b) (h3:b≤2147483647):-9223372036854775808≤a+b*4294967296∧a+b*4294967296≤9223372036854775807:=by omega
theorem take_beq (a b:List UInt8) (h:a=b):(a==b)=true:=by rw [h];simp
theorem take_bne (a b:List UInt8) (h:a≠b):(a==b)=false:=by simpa using h
theorem slo_of {f:Int} (h:IsF f):slo f=0∨slo f=1∨slo f=2:=by
 rcases h with rfl|rfl|rfl|rfl|rfl|rfl|rfl|rfl|rfl|rfl|rfl|rfl|rfl <;> decide
theorem decode_any (v:Value) (l:List UInt8) (w:World) (hw:Wid w) (hv:BsAt w v l) :
  Calls Tryz.prog 84 #[v] w fun e w'=>e=.returned (.tuple #[.agg (decF l).1.cs,.int .i64 (decF l).2.1,.int .i64 (decF l).2.2])∧Below w.heap.size w w':=by
 obtain⟨a,cap,rfl,hc,hm,hb⟩:=hv
 unfold maxLen at hm
 unfold decF
 by_cases h8:l.length<8
 ·rw [if_pos h8]
  exact dec_short a l.length cap w h8
 rw [if_neg h8]
 obtain⟨k,o,rfl,hB⟩:∃ k o,a=some ⟨k,o,none⟩∧Bytes w k o l:=by
  rcases hb with rfl|h
  ·simp at h8
  ·exact h
 have hE:=hB.eight (by omega)
 obtain⟨⟨op,r,ok⟩,hid⟩:∃ i,idL l=i:=⟨_,rfl⟩
 have hfL:fL l=frm (ix op):=by unfold fL;rw [hid]
 obtain⟨f,hf⟩:∃ f,frm (ix op)=f:=⟨_,rfl⟩
 rw [hf] at hfL
 have hid':idF ((bt' l 0).toNat:Int) (((bt' l 1).toNat:Int) / 16) (offL l) (immL l) 86 0=(op,r,ok):=hid
 simp only [hid]
 cases ok
 ·simp only [if_true]
  exact dec_op k o l.length cap (bt' l 0) (bt' l 1) (bt' l 2) (bt' l 3) (bt' l 4) (bt' l 5) (bt' l 6) (bt' l 7) (offL l) (immL l) w hw hE (by omega) hc (by omega) rfl rfl op r false hid' rfl
 simp only [Bool.true_eq_false,if_false]
 rw [hfL]
 have hs:=slo_of (hf ▸ frm_isF op:IsF f)
 obtain⟨j,-,hj,hop,-,-⟩:=id_ok _ _ _ _ _ _ _ _ hid'
 have hj':ix op<86:=by rw [hop,ix_nat (by omega)];omega
 have hs12:slo f=1∨slo f=2:=by
  have:=(tab4 _ hj').1
  rwa [← frm_fm hj',hf] at this
 have hiv:(if uI f r then immL l else 0)=ivL l:=by unfold ivL;rw [hfL,hid]
 obtain⟨D,hd⟩:∃ D,(if uD f then ((bt' l 1).toNat:Int) % 16 else 0)=D:=⟨_,rfl⟩
 obtain⟨S,hs'⟩:∃ S,(if uS f r then ((bt' l 1).toNat:Int) / 16 else 0)=S:=⟨_,rfl⟩
 obtain⟨O,ho⟩:∃ O,(if uO f then offL l else 0)=O:=⟨_,rfl⟩
 have hivb:-2147483648≤ivL l∧ivL l≤2147483647:=by
  rw [← hiv]
  split
  ·exact sx32_b _
  ·omega
 rcases hs12 with hs1|hs2
 ·rw [if_neg (by omega)]
  by_cases hreg:11≤((bt' l 1).toNat:Int) % 16∨11≤((bt' l 1).toNat:Int) / 16
  ·rw [if_pos hreg]
   exact dec_reg1 k o l.length cap (bt' l 0) (bt' l 1) (bt' l 2) (bt' l 3) (bt' l 4) (bt' l 5) (bt' l 6) (bt' l 7) (offL l) (immL l) w hw hE (by omega) hc (by omega) rfl rfl op r true hid' rfl f hf hs1 hreg
  rw [if_neg hreg]
  have hrd:rdL l=⟨op,r,D,S,O,ivL l⟩:=by
   unfold rdL
   rw [hid,hfL,← hd,← hs',← ho]
   simp [hs1]
  have hchk:(rdL l).chk f=chkF f r D S O (ivL l):=by rw [hrd];rfl
  have henc:(rdL l).enc (ix op) f=encL (ix op) f r D S O (ivL l):=by rw [hrd];rfl
  have hcs:(rdL l).cs=insA op r D S O (ivL l):=by rw [hrd]
  obtain⟨x,hx⟩:∃ x,rdL l=x:=⟨_,rfl⟩
  rw [hx] at hchk henc hcs ⊢
  clear hrd hx
  by_cases h0:x.chk f=0
  ·have hO:=(chk_ok _ _ _ _ _ _).1 (hchk.symm.trans h0)
   have hlen:(x.enc (ix op) f).length=8:=by rw [henc,encL_length];simp [hs1]
   by_cases hp:l.take (x.enc (ix op) f).length=x.enc (ix op) f
   ·rw [if_pos ⟨h0,hp⟩,hcs,hs1]
    exact dec_yes1 k o l.length cap (bt' l 0) (bt' l 1) (bt' l 2) (bt' l 3) (bt' l 4) (bt' l 5) (bt' l 6) (bt' l 7) (offL l) (immL l) w hw hE (by omega) hc (by omega) rfl rfl op r true hid' rfl f hf hs1 (by omega) (by omega) D S O (ivL l) hd hs' ho hiv l (x.enc (ix op) f) _ rfl hB hO (by omega) (by omega) henc.symm rfl (by omega) (take_beq _ _ hp)
   ·rw [if_neg (fun h=>hp h.2)]
    exact dec_no1 k o l.length cap (bt' l 0) (bt' l 1) (bt' l 2) (bt' l 3) (bt' l 4) (bt' l 5) (bt' l 6) (bt' l 7) (offL l) (immL l) w hw hE (by omega) hc (by omega) rfl rfl op r true hid' rfl f hf hs1 (by omega) (by omega) D S O (ivL l) hd hs' ho hiv l (x.enc (ix op) f) _ rfl hB hO (by omega) (by omega) henc.symm rfl (by omega) (take_bne _ _ hp)
  ·rw [if_neg (fun h=>h0 h.1)]
   exact dec_bad1 k o l.length cap (bt' l 0) (bt' l 1) (bt' l 2) (bt' l 3) (bt' l 4) (bt' l 5) (bt' l 6) (bt' l 7) (offL l) (immL l) w hw hE (by omega) hc (by omega) rfl rfl op r true hid' rfl f hf hs1 (by omega) (by omega) D S O (ivL l) hd hs' ho hiv _ hchk.symm (by simpa using h0)
 ·have hhi:=sx32_b (((bt' l 12).toNat:Int)*1+((bt' l 13).toNat:Int)*256+((bt' l 14).toNat:Int)*65536+((bt' l 15).toNat:Int)*16777216)
  have hor:bits .or .i64 (wrap64 (ivL l % 4294967296)) (hiL l*4294967296)=ivL l % 4294967296+hiL l*4294967296:=by
   rw [show wrap64 (ivL l % 4294967296)=ivL l % 4294967296 by unfold wrap64;omega]
   exact or_hi _ _ (by omega) (by omega) hhi.1 hhi.2
  have hhi':-2147483648≤hiL l∧hiL l≤2147483647:=hhi
  by_cases h16:l.length<16
  ·rw [if_pos ⟨hs2,h16⟩]
   exact dec_short2 k o l.length cap (bt' l 0) (bt' l 1) (bt' l 2) (bt' l 3) (bt' l 4) (bt' l 5) (bt' l 6) (bt' l 7) (offL l) (immL l) w hw hE (by omega) hc (by omega) rfl rfl op r true hid' rfl f hf hs2 h16
  rw [if_neg (fun h=>h16 h.2)]
  by_cases hreg:11≤((bt' l 1).toNat:Int) % 16∨11≤((bt' l 1).toNat:Int) / 16
  ·rw [if_pos hreg]
   exact dec_reg2 k o l.length cap (bt' l 0) (bt' l 1) (bt' l 2) (bt' l 3) (bt' l 4) (bt' l 5) (bt' l 6) (bt' l 7) (offL l) (immL l) w hw hE (by omega) hc (by omega) rfl rfl op r true hid' rfl f hf hs2 (by omega) hreg
  rw [if_neg hreg]
  obtain⟨V,hV⟩:∃ V,bits .or .i64 (wrap64 (ivL l % 4294967296)) (hiL l*4294967296)=V:=⟨_,rfl⟩
  have hVb:-9223372036854775808≤V∧V≤9223372036854775807:=by rw [← hV,hor];exact vb _ _ (Int.emod_nonneg _ (by decide)) (Int.emod_lt_of_pos _ (by decide)) hhi'.1 hhi'.2
  have hrd:rdL l=⟨op,r,D,S,O,V⟩:=by
   unfold rdL
   rw [hid,hfL,← hd,← hs',← ho,← hV]
   simp [hs2]
  have hchk:(rdL l).chk f=chkF f r D S O V:=by rw [hrd];rfl
  have henc:(rdL l).enc (ix op) f=encL (ix op) f r D S O V:=by rw [hrd];rfl
  have hcs:(rdL l).cs=insA op r D S O V:=by rw [hrd]
  obtain⟨x,hx⟩:∃ x,rdL l=x:=⟨_,rfl⟩
  rw [hx] at hchk henc hcs ⊢
  clear hrd hx
  by_cases h0:x.chk f=0
  ·have hO:=(chk_ok _ _ _ _ _ _).1 (hchk.symm.trans h0)
   have hlen:(x.enc (ix op) f).length=16:=by rw [henc,encL_length];simp [hs2]
   by_cases hp:l.take (x.enc (ix op) f).length=x.enc (ix op) f
   ·rw [if_pos ⟨h0,hp⟩,hcs,hs2]
    exact dec_yes2 k o l.length cap (bt' l 0) (bt' l 1) (bt' l 2) (bt' l 3) (bt' l 4) (bt' l 5) (bt' l 6) (bt' l 7) (offL l) (immL l) w hw hE (by omega) hc (by omega) rfl rfl op r true hid' rfl f hf hs2 (by omega) (by omega) (by omega) D S O (ivL l) hd hs' ho hiv (bt' l 12) (bt' l 13) (bt' l 14) (bt' l 15) (hB.get 12 (by omega)) (hB.get 13 (by omega)) (hB.get 14 (by omega)) (hB.get 15 (by omega)) (hiL l) V rfl hV hhi.1 hhi.2 l (x.enc (ix op) f) _ rfl hB hO hVb.1 hVb.2 henc.symm rfl (by omega) (take_beq _ _ hp)
   ·rw [if_neg (fun h=>hp h.2)]
    exact dec_no2 k o l.length cap (bt' l 0) (bt' l 1) (bt' l 2) (bt' l 3) (bt' l 4) (bt' l 5) (bt' l 6) (bt' l 7) (offL l) (immL l) w hw hE (by omega) hc (by omega) rfl rfl op r true hid' rfl f hf hs2 (by omega) (by omega) (by omega) D S O (ivL l) hd hs' ho hiv (bt' l 12) (bt' l 13) (bt' l 14) (bt' l 15) (hB.get 12 (by omega)) (hB.get 13 (by omega)) (hB.get 14 (by omega)) (hB.get 15 (by omega)) (hiL l) V rfl hV hhi.1 hhi.2 l (x.enc (ix op) f) _ rfl hB hO hVb.1 hVb.2 henc.symm rfl (by omega) (take_bne _ _ hp)
  ·rw [if_neg (fun h=>h0 h.1)]
   exact dec_bad2 k o l.length cap (bt' l 0) (bt' l 1) (bt' l 2) (bt' l 3) (bt' l 4) (bt' l 5) (bt' l 6) (bt' l 7) (offL l) (immL l) w hw hE (by omega) hc (by omega) rfl rfl op r true hid' rfl f hf hs2 (by omega) (by omega) (by omega) D S O (ivL l) hd hs' ho hiv (bt' l 12) (bt' l 13) (bt' l 14) (bt' l 15) (hB.get 12 (by omega)) (hB.get 13 (by omega)) (hB.get 14 (by omega)) (hB.get 15 (by omega)) (hiL l) V rfl hV hhi.1 hhi.2 _ hchk.symm (by simpa using h0)
end Go.Proofs.YtgljoilddjmohaaGreatDoor.L5
end
