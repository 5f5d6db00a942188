/- What fields and used return. No condition but that the table of widths reads as laid. -/
import Derived.Test.YtdgnjhhieemcaaaGreatDoorM3
import Derived.StillTailTactics
import Derived.Laws.CopyOwn
set_option maxRecDepth 100000
set_option maxHeartbeats 4000000
namespace Go.Proofs.YtdgnjhhieemcaaaGreatDoor.L5
open Go.RowKit L3 L1 L4
structure Eight (w:World) (k o:Nat) (c0 c1 c2 c3 c4 c5 c6 c7:UInt8):Prop where
 a0:w.cell? ⟨k,o,none⟩=some (.int .u8 (c0.toNat:Int))
 a1:w.cell? ⟨k,o+1,none⟩=some (.int .u8 (c1.toNat:Int))
 a2:w.cell? ⟨k,o+2,none⟩=some (.int .u8 (c2.toNat:Int))
 a3:w.cell? ⟨k,o+2+1,none⟩=some (.int .u8 (c3.toNat:Int))
 a4:w.cell? ⟨k,o+4,none⟩=some (.int .u8 (c4.toNat:Int))
 a5:w.cell? ⟨k,o+4+1,none⟩=some (.int .u8 (c5.toNat:Int))
 a6:w.cell? ⟨k,o+4+2,none⟩=some (.int .u8 (c6.toNat:Int))
 a7:w.cell? ⟨k,o+4+3,none⟩=some (.int .u8 (c7.toNat:Int))
theorem Eight.below {w w':World} {k o:Nat} {c0 c1 c2 c3 c4 c5 c6 c7:UInt8} (h:Eight w k o c0 c1 c2 c3 c4 c5 c6 c7) (hb:Below w.heap.size w w'):Eight w' k o c0 c1 c2 c3 c4 c5 c6 c7:=by
 have hlt:k<w.heap.size:=World.block_lt_of_cell? w _ h.a0
 exact⟨(hb.cell (p:=⟨k,_,none⟩) hlt).trans h.a0,(hb.cell (p:=⟨k,_,none⟩) hlt).trans h.a1,(hb.cell (p:=⟨k,_,none⟩) hlt).trans h.a2,(hb.cell (p:=⟨k,_,none⟩) hlt).trans h.a3,(hb.cell (p:=⟨k,_,none⟩) hlt).trans h.a4,(hb.cell (p:=⟨k,_,none⟩) hlt).trans h.a5,(hb.cell (p:=⟨k,_,none⟩) hlt).trans h.a6,(hb.cell (p:=⟨k,_,none⟩) hlt).trans h.a7⟩
theorem sl_any (k o n cap:Nat) (a b:Nat) (hab:a≤b) (hb:b≤cap) (hca:a≠cap) (w:World) :
  (Instr.slice 23 (.slice (some ⟨k,o,none⟩) n cap) (some (.int .i64 (a:Int))) (some (.int .i64 (b:Int))) none).run Tryz.prog w=.ok (.slice (some ⟨k,o+a,none⟩) (b-a) (cap-a)) w:=by
 simp [go_sem,Tryz.underlying23,hab,hb,Ne.symm hca]
theorem sl_24 (k o n cap:Nat) (h:8≤cap) (w:World):(Instr.slice 23 (.slice (some ⟨k,o,none⟩) n cap) (some (.int .i64 2)) (some (.int .i64 4)) none).run Tryz.prog w=.ok (.slice (some ⟨k,o+2,none⟩) 2 (cap-2)) w:=sl_any k o n cap 2 4 (by omega) (by omega) (by omega) w
theorem sl_48 (k o n cap:Nat) (h:8≤cap) (w:World):(Instr.slice 23 (.slice (some ⟨k,o,none⟩) n cap) (some (.int .i64 4)) (some (.int .i64 8)) none).run Tryz.prog w=.ok (.slice (some ⟨k,o+4,none⟩) 4 (cap-4)) w:=sl_any k o n cap 4 8 (by omega) (by omega) (by omega) w
theorem sl_cg (k o n cap:Nat) (h:16≤cap) (w:World):(Instr.slice 23 (.slice (some ⟨k,o,none⟩) n cap) (some (.int .i64 12)) (some (.int .i64 16)) none).run Tryz.prog w=.ok (.slice (some ⟨k,o+12,none⟩) 4 (cap-12)) w:=sl_any k o n cap 12 16 (by omega) (by omega) (by omega) w
theorem ins_one (op:Int) (reg:Bool) (dst src off imm:Int):(insA op reg dst src off imm).all (·.oneCell')=true:=by simp [insA,Value.oneCell']
theorem three_blocks {w w1:World} {A B C:Array Value} {a b c:Value} {u:Value} (h:Below (((w.alloc (.cells A 45)).alloc (.cells B 45)).alloc (.cells C 45)).heap.size (((w.alloc (.cells A 45)).alloc (.cells B 45)).alloc (.cells C 45)) w1) :
  ∃ g0 g1 g2 g3:Nat,w.heap.size=g0∧g0+1=g1∧g1+1=g2∧w1.heap.size=g3∧g0≠g2∧g1≠g2∧g0≠g1∧g0≠g3∧g1≠g3∧g2≠g3 ∧
   (w1.alloc (.cells #[a,b,c,u] 316)).heap[g0]?=some (.cells A 45)∧(w1.alloc (.cells #[a,b,c,u] 316)).heap[g1]?=some (.cells B 45)∧(w1.alloc (.cells #[a,b,c,u] 316)).heap[g2]?=some (.cells C 45)∧(w1.alloc (.cells #[a,b,c,u] 316)).heap[g3]?=some (.cells #[a,b,c,u] 316)∧Below w.heap.size w (w1.alloc (.cells #[a,b,c,u] 316)):=by
 have hs:=h.size
 simp only [World.size_alloc] at hs
 have hq:=bch h (bnew w1 (.cells #[a,b,c,u] 316))
 refine⟨_,_,_,_,rfl,rfl,rfl,rfl,by omega,by omega,by omega,by omega,by omega,by omega,?_,?_,?_,heap_alloc_last _ _,?_⟩
 ·rw [hq.block _ (by simp;omega),Below.heap_alloc _ _ _ (by simp;omega),Below.heap_alloc _ _ _ (by simp),heap_alloc_last]
 ·rw [hq.block _ (by simp),Below.heap_alloc _ _ _ (by simp)]
  have:=heap_alloc_last (w.alloc (.cells A 45)) (.cells B 45)
  rwa [World.size_alloc] at this
 ·rw [hq.block _ (by simp)]
  have:=heap_alloc_last ((w.alloc (.cells A 45)).alloc (.cells B 45)) (.cells C 45)
  rwa [World.size_alloc,World.size_alloc] at this
 ·exact ((((Below.refl _ w).alloc (Nat.le_refl _) _).alloc (by simp) _).alloc (by simp;omega) _).trans (hq.mono (by simp;omega))
theorem frozen_all {w:World} {k:Nat} {cs:Array Value} {t:TypeId} (h:w.heap[k]?=some (.cells cs t)) (i:Nat):w.frozen? ⟨k,i,none⟩=false:=by simp [World.frozen?,h]
theorem fields_at (k o n cap:Nat) (c0 c1 c2 c3 c4 c5 c6 c7:UInt8) (off imm:Int) (w:World) (hw:Wid w) (h:Eight w k o c0 c1 c2 c3 c4 c5 c6 c7) (hn:8≤n) (hc:n≤cap) (_:n≤9223372036854775807)
  (ho:sx 16 ((c2.toNat:Int)*1+(c3.toNat:Int)*256)=off) (hi:sx 32 ((c4.toNat:Int)*1+(c5.toNat:Int)*256+(c6.toNat:Int)*65536+(c7.toNat:Int)*16777216)=imm) :
  Calls Tryz.prog 262 #[.slice (some ⟨k,o,none⟩) n cap] w fun e w'=>e=.returned (.agg #[.int .i64 0,.bool false,.int .i64 ((c1.toNat:Int) % 16),.int .i64 ((c1.toNat:Int) / 16),.int .i64 off,.int .i64 imm])∧Below w.heap.size w w':=by
 have hb:=bnew w (.cells #[.int .i64 0,.bool false,.int .i64 0,.int .i64 0,.int .i64 0,.int .i64 0] 45)
 have HO:=Lib.hid ho
 have HI:=Lib.hid hi
 have b1:=c1.toNat_lt
 have s24:=sl_24 k o n cap (by omega)
 have s48:=sl_48 k o n cap (by omega)
 have n1:1<n:=by omega
 have n1':(1:Int)<(n:Int):=by omega
 have hg:(w.alloc (.cells #[.int .i64 0,.bool false,.int .i64 0,.int .i64 0,.int .i64 0,.int .i64 0] 45)).heap[w.heap.size]?=some (.cells #[.int .i64 0,.bool false,.int .i64 0,.int .i64 0,.int .i64 0,.int .i64 0] 45):=heap_alloc_last w _
 have h':=h.below hb
 have hw':=wid_below hw hb
 clear hw h ho hi
 go_enter Tryz.func262,Tryz.ntmps262
 go_wp2
 refine wp_region_still_tail 17 (by kernel_rfl) (by kernel_rfl) ?_
 simp only [List.take_succ_cons,List.take_zero,List.drop_succ_cons,List.drop_zero]
 change wpStill _ _ (World.drew _) _ _ _
 generalize hW:w.alloc (.cells #[.int .i64 0,.bool false,.int .i64 0,.int .i64 0,.int .i64 0,.int .i64 0] 45)=W at hg h' hw' hb ⊢
 clear hW
 have hq:Below W.heap.size W W.drew:=(Below.refl _ _).drew
 replace h':=h'.below hq
 replace hw':=wid_below hw' hq
 replace hb:=hb.drew
 replace hg:W.drew.heap[w.heap.size]?=_:=hg
 clear hq
 obtain⟨D,hD⟩:∃ D,D=W.drew:=⟨_,rfl⟩
 rw [← hD] at h' hw' hb hg ⊢
 have wm:IntKind.i64.wrap ((c1.toNat:Int) % 16)=(c1.toNat:Int) % 16:=IntWalk.i64_in _ (by omega)
 have wd:IntKind.i64.wrap ((c1.toNat:Int) / 16)=(c1.toNat:Int) / 16:=IntWalk.i64_in _ (by omega)
 have HD:=Lib.hid hD
 clear hD
 have h1:=h'.a1
 have G2:=Lib.hid (fun c=>(get2_at k (o+2) c c2 c3 off D hw' h'.a2 h'.a3 HO.out).mono (R':=fun e w''=>e=.returned (.int .i64 off)∧w''=D) (fun _ _ h=>⟨h.1,h.2.symm⟩))
 have G4:=Lib.hid (fun c=>(get4_at k (o+4) c c4 c5 c6 c7 imm D hw' h'.a4 h'.a5 h'.a6 h'.a7 HI.out).mono (R':=fun e w''=>e=.returned (.int .i64 imm)∧w''=D) (fun _ _ h=>⟨h.1,h.2.symm⟩))
 have ha:bits .and .u8 (c1.toNat:Int) 15=(c1.toNat:Int) % 16:=u8_and15 _ (by omega) (by omega)
 clear h' hw'
 repeat still_step
 still_call (G2.out _)
 repeat still_step
 still_call (G4.out _)
 repeat still_step
 refine wpStill_nil ?_
 change wpList _ _ _ _ _ W.drew
 rw [← HD.out]
 clear HD wm wd G2 G4 s24 s48 n1 n1' h1 ha
 refine wpList_store_row rfl _ _ _ rfl w.heap.size (insA 0 false ((c1.toNat:Int) % 16) ((c1.toNat:Int) / 16) off imm) rfl rfl 45 _ hg (by kernel_rfl) rfl (ins_one _ _ _ _ _ _) ?_
 have hg2:=setRow_heap D w.heap.size _ (insA 0 false ((c1.toNat:Int) % 16) ((c1.toNat:Int) / 16) off imm) _ _ hg
 have hb2:=below_setRow hb (Nat.le_refl _) (insA 0 false ((c1.toNat:Int) % 16) ((c1.toNat:Int) / 16) off imm)
 generalize D.setRow w.heap.size (insA 0 false ((c1.toNat:Int) % 16) ((c1.toNat:Int) / 16) off imm)=E at hg2 hb2 ⊢
 clear hg hb
 refine wpList_done ?_
 obtain⟨x0,x1,x2,x3,x4,x5⟩:=cells6 hg2
 go_wp2
 exact bodyPost_ret (v:=.agg #[.int .i64 0,.bool false,.int .i64 ((c1.toNat:Int) % 16),.int .i64 ((c1.toNat:Int) / 16),.int .i64 off,.int .i64 imm]) (by simp [results,Tryz.results262,go_sem,x0,x1,x2,x3,x4,x5]) rfl ⟨rfl,hb2⟩
section
variable (op f:Int) (reg:Bool) (op':Int) (reg':Bool) (dst src off imm:Int) (w:World) (hf:frm (ix op)=f)
include op f reg op' reg' dst src off imm w hf
theorem used_FFFF (hD:uD f=false) (hS:uS f reg=false) (hO:uO f=false) (hI:uI f reg=false) :
  Calls Tryz.prog 264 #[.int .i64 op,.bool reg,.agg #[.int .i64 op',.bool reg',.int .i64 dst,.int .i64 src,.int .i64 off,.int .i64 imm]] w fun e w'=>e=.returned (.agg #[.int .i64 op,.bool reg,.int .i64 0,.int .i64 0,.int .i64 0,.int .i64 0])∧Below w.heap.size w w':=by
 have HU:=Lib.hid (fun w=>uses_is op f reg false false false false w hf hD hS hO hI)
 clear hf hD hS hO hI
 go_enter Tryz.func264,Tryz.ntmps264
 go_upto_region 3 with (go_at_call 240;((with_reducible refine (HU.out _).mono ?_);rintro e w1 ⟨rfl,hb1⟩))
 obtain⟨g0,g1,g2,g3,e0,e1,e2,e3,n02,n12,n01,n03,n13,n23,h0,h1,h2,h3,hB⟩:=three_blocks (a:=.bool false) (b:=.bool false) (c:=.bool false) (u:=.bool false) hb1
 clear hb1
 rw [e0,e1,e2,e3]
 generalize w1.alloc _=W at h0 h1 h2 h3 hB ⊢
 obtain⟨a0,a1,a2,a3,a4,a5⟩:=cells6 h0
 obtain⟨b0,b1,b2,b3,b4,b5⟩:=cells6 h1
 obtain⟨c0,c1,c2,c3,c4,c5⟩:=cells6 h2
 obtain⟨d0,d1,d2,d3,-⟩:=cells4 h3
 have f1:=frozen_all h1
 have f2:=frozen_all h2
 have HS:=Lib.hid (show w.heap.size≤g1 by omega)
 have HT:=Lib.hid (show w.heap.size≤g2 by omega)
 have HB:=Lib.hid hB
 clear e0 e1 e2 e3 HU h0 h1 h2 h3 hB
 go_wp2
 refine bodyPost_ret (v:=.agg #[.int .i64 op,.bool reg,.int .i64 0,.int .i64 0,.int .i64 0,.int .i64 0]) (by simp [results,Tryz.results264,go_sem,b0,b1,b2,b3,b4,b5]) rfl ⟨rfl,?_⟩
 repeat first|(with_reducible exact HB.out)|refine Below.setCell ?_ (by first|exact HS.out|exact HT.out) _
theorem used_TTFF (hD:uD f=true) (hS:uS f reg=true) (hO:uO f=false) (hI:uI f reg=false) :
  Calls Tryz.prog 264 #[.int .i64 op,.bool reg,.agg #[.int .i64 op',.bool reg',.int .i64 dst,.int .i64 src,.int .i64 off,.int .i64 imm]] w fun e w'=>e=.returned (.agg #[.int .i64 op,.bool reg,.int .i64 dst,.int .i64 src,.int .i64 0,.int .i64 0])∧Below w.heap.size w w':=by
 have HU:=Lib.hid (fun w=>uses_is op f reg true true false false w hf hD hS hO hI)
 clear hf hD hS hO hI
 go_enter Tryz.func264,Tryz.ntmps264
 go_upto_region 3 with (go_at_call 240;((with_reducible refine (HU.out _).mono ?_);rintro e w1 ⟨rfl,hb1⟩))
 obtain⟨g0,g1,g2,g3,e0,e1,e2,e3,n02,n12,n01,n03,n13,n23,h0,h1,h2,h3,hB⟩:=three_blocks (a:=.bool true) (b:=.bool true) (c:=.bool false) (u:=.bool false) hb1
 clear hb1
 rw [e0,e1,e2,e3]
 generalize w1.alloc _=W at h0 h1 h2 h3 hB ⊢
 obtain⟨a0,a1,a2,a3,a4,a5⟩:=cells6 h0
 obtain⟨b0,b1,b2,b3,b4,b5⟩:=cells6 h1
 obtain⟨c0,c1,c2,c3,c4,c5⟩:=cells6 h2
 obtain⟨d0,d1,d2,d3,-⟩:=cells4 h3
 have f1:=frozen_all h1
 have f2:=frozen_all h2
 have HS:=Lib.hid (show w.heap.size≤g1 by omega)
 have HT:=Lib.hid (show w.heap.size≤g2 by omega)
 have HB:=Lib.hid hB
 clear e0 e1 e2 e3 HU h0 h1 h2 h3 hB
 go_wp2
 refine bodyPost_ret (v:=.agg #[.int .i64 op,.bool reg,.int .i64 dst,.int .i64 src,.int .i64 0,.int .i64 0]) (by simp [results,Tryz.results264,go_sem,b0,b1,b2,b3,b4,b5]) rfl ⟨rfl,?_⟩
 repeat first|(with_reducible exact HB.out)|refine Below.setCell ?_ (by first|exact HS.out|exact HT.out) _
theorem used_TFFT (hD:uD f=true) (hS:uS f reg=false) (hO:uO f=false) (hI:uI f reg=true) :
  Calls Tryz.prog 264 #[.int .i64 op,.bool reg,.agg #[.int .i64 op',.bool reg',.int .i64 dst,.int .i64 src,.int .i64 off,.int .i64 imm]] w fun e w'=>e=.returned (.agg #[.int .i64 op,.bool reg,.int .i64 dst,.int .i64 0,.int .i64 0,.int .i64 imm])∧Below w.heap.size w w':=by
 have HU:=Lib.hid (fun w=>uses_is op f reg true false false true w hf hD hS hO hI)
 clear hf hD hS hO hI
 go_enter Tryz.func264,Tryz.ntmps264
 go_upto_region 3 with (go_at_call 240;((with_reducible refine (HU.out _).mono ?_);rintro e w1 ⟨rfl,hb1⟩))
 obtain⟨g0,g1,g2,g3,e0,e1,e2,e3,n02,n12,n01,n03,n13,n23,h0,h1,h2,h3,hB⟩:=three_blocks (a:=.bool true) (b:=.bool false) (c:=.bool false) (u:=.bool true) hb1
 clear hb1
 rw [e0,e1,e2,e3]
 generalize w1.alloc _=W at h0 h1 h2 h3 hB ⊢
 obtain⟨a0,a1,a2,a3,a4,a5⟩:=cells6 h0
 obtain⟨b0,b1,b2,b3,b4,b5⟩:=cells6 h1
 obtain⟨c0,c1,c2,c3,c4,c5⟩:=cells6 h2
 obtain⟨d0,d1,d2,d3,-⟩:=cells4 h3
 have f1:=frozen_all h1
 have f2:=frozen_all h2
 have HS:=Lib.hid (show w.heap.size≤g1 by omega)
 have HT:=Lib.hid (show w.heap.size≤g2 by omega)
 have HB:=Lib.hid hB
 clear e0 e1 e2 e3 HU h0 h1 h2 h3 hB
 go_wp2
 refine bodyPost_ret (v:=.agg #[.int .i64 op,.bool reg,.int .i64 dst,.int .i64 0,.int .i64 0,.int .i64 imm]) (by simp [results,Tryz.results264,go_sem,b0,b1,b2,b3,b4,b5]) rfl ⟨rfl,?_⟩
 repeat first|(with_reducible exact HB.out)|refine Below.setCell ?_ (by first|exact HS.out|exact HT.out) _
theorem used_TFFF (hD:uD f=true) (hS:uS f reg=false) (hO:uO f=false) (hI:uI f reg=false) :
  Calls Tryz.prog 264 #[.int .i64 op,.bool reg,.agg #[.int .i64 op',.bool reg',.int .i64 dst,.int .i64 src,.int .i64 off,.int .i64 imm]] w fun e w'=>e=.returned (.agg #[.int .i64 op,.bool reg,.int .i64 dst,.int .i64 0,.int .i64 0,.int .i64 0])∧Below w.heap.size w w':=by
 have HU:=Lib.hid (fun w=>uses_is op f reg true false false false w hf hD hS hO hI)
 clear hf hD hS hO hI
 go_enter Tryz.func264,Tryz.ntmps264
 go_upto_region 3 with (go_at_call 240;((with_reducible refine (HU.out _).mono ?_);rintro e w1 ⟨rfl,hb1⟩))
 obtain⟨g0,g1,g2,g3,e0,e1,e2,e3,n02,n12,n01,n03,n13,n23,h0,h1,h2,h3,hB⟩:=three_blocks (a:=.bool true) (b:=.bool false) (c:=.bool false) (u:=.bool false) hb1
 clear hb1
 rw [e0,e1,e2,e3]
 generalize w1.alloc _=W at h0 h1 h2 h3 hB ⊢
 obtain⟨a0,a1,a2,a3,a4,a5⟩:=cells6 h0
 obtain⟨b0,b1,b2,b3,b4,b5⟩:=cells6 h1
 obtain⟨c0,c1,c2,c3,c4,c5⟩:=cells6 h2
 obtain⟨d0,d1,d2,d3,-⟩:=cells4 h3
 have f1:=frozen_all h1
 have f2:=frozen_all h2
 have HS:=Lib.hid (show w.heap.size≤g1 by omega)
 have HT:=Lib.hid (show w.heap.size≤g2 by omega)
 have HB:=Lib.hid hB
 clear e0 e1 e2 e3 HU h0 h1 h2 h3 hB
 go_wp2
 refine bodyPost_ret (v:=.agg #[.int .i64 op,.bool reg,.int .i64 dst,.int .i64 0,.int .i64 0,.int .i64 0]) (by simp [results,Tryz.results264,go_sem,b0,b1,b2,b3,b4,b5]) rfl ⟨rfl,?_⟩
 repeat first|(with_reducible exact HB.out)|refine Below.setCell ?_ (by first|exact HS.out|exact HT.out) _
theorem used_FFTF (hD:uD f=false) (hS:uS f reg=false) (hO:uO f=true) (hI:uI f reg=false) :
  Calls Tryz.prog 264 #[.int .i64 op,.bool reg,.agg #[.int .i64 op',.bool reg',.int .i64 dst,.int .i64 src,.int .i64 off,.int .i64 imm]] w fun e w'=>e=.returned (.agg #[.int .i64 op,.bool reg,.int .i64 0,.int .i64 0,.int .i64 off,.int .i64 0])∧Below w.heap.size w w':=by
 have HU:=Lib.hid (fun w=>uses_is op f reg false false true false w hf hD hS hO hI)
 clear hf hD hS hO hI
 go_enter Tryz.func264,Tryz.ntmps264
 go_upto_region 3 with (go_at_call 240;((with_reducible refine (HU.out _).mono ?_);rintro e w1 ⟨rfl,hb1⟩))
 obtain⟨g0,g1,g2,g3,e0,e1,e2,e3,n02,n12,n01,n03,n13,n23,h0,h1,h2,h3,hB⟩:=three_blocks (a:=.bool false) (b:=.bool false) (c:=.bool true) (u:=.bool false) hb1
 clear hb1
 rw [e0,e1,e2,e3]
 generalize w1.alloc _=W at h0 h1 h2 h3 hB ⊢
 obtain⟨a0,a1,a2,a3,a4,a5⟩:=cells6 h0
 obtain⟨b0,b1,b2,b3,b4,b5⟩:=cells6 h1
 obtain⟨c0,c1,c2,c3,c4,c5⟩:=cells6 h2
 obtain⟨d0,d1,d2,d3,-⟩:=cells4 h3
 have f1:=frozen_all h1
 have f2:=frozen_all h2
 have HS:=Lib.hid (show w.heap.size≤g1 by omega)
 have HT:=Lib.hid (show w.heap.size≤g2 by omega)
 have HB:=Lib.hid hB
 clear e0 e1 e2 e3 HU h0 h1 h2 h3 hB
 go_wp2
 refine bodyPost_ret (v:=.agg #[.int .i64 op,.bool reg,.int .i64 0,.int .i64 0,.int .i64 off,.int .i64 0]) (by simp [results,Tryz.results264,go_sem,b0,b1,b2,b3,b4,b5]) rfl ⟨rfl,?_⟩
 repeat first|(with_reducible exact HB.out)|refine Below.setCell ?_ (by first|exact HS.out|exact HT.out) _
theorem used_TTTF (hD:uD f=true) (hS:uS f reg=true) (hO:uO f=true) (hI:uI f reg=false) :
  Calls Tryz.prog 264 #[.int .i64 op,.bool reg,.agg #[.int .i64 op',.bool reg',.int .i64 dst,.int .i64 src,.int .i64 off,.int .i64 imm]] w fun e w'=>e=.returned (.agg #[.int .i64 op,.bool reg,.int .i64 dst,.int .i64 src,.int .i64 off,.int .i64 0])∧Below w.heap.size w w':=by
 have HU:=Lib.hid (fun w=>uses_is op f reg true true true false w hf hD hS hO hI)
 clear hf hD hS hO hI
 go_enter Tryz.func264,Tryz.ntmps264
 go_upto_region 3 with (go_at_call 240;((with_reducible refine (HU.out _).mono ?_);rintro e w1 ⟨rfl,hb1⟩))
 obtain⟨g0,g1,g2,g3,e0,e1,e2,e3,n02,n12,n01,n03,n13,n23,h0,h1,h2,h3,hB⟩:=three_blocks (a:=.bool true) (b:=.bool true) (c:=.bool true) (u:=.bool false) hb1
 clear hb1
 rw [e0,e1,e2,e3]
 generalize w1.alloc _=W at h0 h1 h2 h3 hB ⊢
 obtain⟨a0,a1,a2,a3,a4,a5⟩:=cells6 h0
 obtain⟨b0,b1,b2,b3,b4,b5⟩:=cells6 h1
 obtain⟨c0,c1,c2,c3,c4,c5⟩:=cells6 h2
 obtain⟨d0,d1,d2,d3,-⟩:=cells4 h3
 have f1:=frozen_all h1
 have f2:=frozen_all h2
 have HS:=Lib.hid (show w.heap.size≤g1 by omega)
 have HT:=Lib.hid (show w.heap.size≤g2 by omega)
 have HB:=Lib.hid hB
 clear e0 e1 e2 e3 HU h0 h1 h2 h3 hB
 go_wp2
 refine bodyPost_ret (v:=.agg #[.int .i64 op,.bool reg,.int .i64 dst,.int .i64 src,.int .i64 off,.int .i64 0]) (by simp [results,Tryz.results264,go_sem,b0,b1,b2,b3,b4,b5]) rfl ⟨rfl,?_⟩
 repeat first|(with_reducible exact HB.out)|refine Below.setCell ?_ (by first|exact HS.out|exact HT.out) _
theorem used_TFTT (hD:uD f=true) (hS:uS f reg=false) (hO:uO f=true) (hI:uI f reg=true) :
  Calls Tryz.prog 264 #[.int .i64 op,.bool reg,.agg #[.int .i64 op',.bool reg',.int .i64 dst,.int .i64 src,.int .i64 off,.int .i64 imm]] w fun e w'=>e=.returned (.agg #[.int .i64 op,.bool reg,.int .i64 dst,.int .i64 0,.int .i64 off,.int .i64 imm])∧Below w.heap.size w w':=by
 have HU:=Lib.hid (fun w=>uses_is op f reg true false true true w hf hD hS hO hI)
 clear hf hD hS hO hI
 go_enter Tryz.func264,Tryz.ntmps264
 go_upto_region 3 with (go_at_call 240;((with_reducible refine (HU.out _).mono ?_);rintro e w1 ⟨rfl,hb1⟩))
 obtain⟨g0,g1,g2,g3,e0,e1,e2,e3,n02,n12,n01,n03,n13,n23,h0,h1,h2,h3,hB⟩:=three_blocks (a:=.bool true) (b:=.bool false) (c:=.bool true) (u:=.bool true) hb1
 clear hb1
 rw [e0,e1,e2,e3]
 generalize w1.alloc _=W at h0 h1 h2 h3 hB ⊢
 obtain⟨a0,a1,a2,a3,a4,a5⟩:=cells6 h0
 obtain⟨b0,b1,b2,b3,b4,b5⟩:=cells6 h1
 obtain⟨c0,c1,c2,c3,c4,c5⟩:=cells6 h2
 obtain⟨d0,d1,d2,d3,-⟩:=cells4 h3
 have f1:=frozen_all h1
 have f2:=frozen_all h2
 have HS:=Lib.hid (show w.heap.size≤g1 by omega)
 have HT:=Lib.hid (show w.heap.size≤g2 by omega)
 have HB:=Lib.hid hB
 clear e0 e1 e2 e3 HU h0 h1 h2 h3 hB
 go_wp2
 refine bodyPost_ret (v:=.agg #[.int .i64 op,.bool reg,.int .i64 dst,.int .i64 0,.int .i64 off,.int .i64 imm]) (by simp [results,Tryz.results264,go_sem,b0,b1,b2,b3,b4,b5]) rfl ⟨rfl,?_⟩
 repeat first|(with_reducible exact HB.out)|refine Below.setCell ?_ (by first|exact HS.out|exact HT.out) _
theorem used_FFFT (hD:uD f=false) (hS:uS f reg=false) (hO:uO f=false) (hI:uI f reg=true) :
  Calls Tryz.prog 264 #[.int .i64 op,.bool reg,.agg #[.int .i64 op',.bool reg',.int .i64 dst,.int .i64 src,.int .i64 off,.int .i64 imm]] w fun e w'=>e=.returned (.agg #[.int .i64 op,.bool reg,.int .i64 0,.int .i64 0,.int .i64 0,.int .i64 imm])∧Below w.heap.size w w':=by
 have HU:=Lib.hid (fun w=>uses_is op f reg false false false true w hf hD hS hO hI)
 clear hf hD hS hO hI
 go_enter Tryz.func264,Tryz.ntmps264
 go_upto_region 3 with (go_at_call 240;((with_reducible refine (HU.out _).mono ?_);rintro e w1 ⟨rfl,hb1⟩))
 obtain⟨g0,g1,g2,g3,e0,e1,e2,e3,n02,n12,n01,n03,n13,n23,h0,h1,h2,h3,hB⟩:=three_blocks (a:=.bool false) (b:=.bool false) (c:=.bool false) (u:=.bool true) hb1
 clear hb1
 rw [e0,e1,e2,e3]
 generalize w1.alloc _=W at h0 h1 h2 h3 hB ⊢
 obtain⟨a0,a1,a2,a3,a4,a5⟩:=cells6 h0
 obtain⟨b0,b1,b2,b3,b4,b5⟩:=cells6 h1
 obtain⟨c0,c1,c2,c3,c4,c5⟩:=cells6 h2
 obtain⟨d0,d1,d2,d3,-⟩:=cells4 h3
 have f1:=frozen_all h1
 have f2:=frozen_all h2
 have HS:=Lib.hid (show w.heap.size≤g1 by omega)
 have HT:=Lib.hid (show w.heap.size≤g2 by omega)
 have HB:=Lib.hid hB
 clear e0 e1 e2 e3 HU h0 h1 h2 h3 hB
 go_wp2
 refine bodyPost_ret (v:=.agg #[.int .i64 op,.bool reg,.int .i64 0,.int .i64 0,.int .i64 0,.int .i64 imm]) (by simp [results,Tryz.results264,go_sem,b0,b1,b2,b3,b4,b5]) rfl ⟨rfl,?_⟩
 repeat first|(with_reducible exact HB.out)|refine Below.setCell ?_ (by first|exact HS.out|exact HT.out) _
end
theorem combos (f:Int) (reg:Bool) (hF:IsF f):(uD f,uS f reg,uO f,uI f reg)∈[(false,false,false,false),(true,true,false,false),(true,false,false,true),(true,false,false,false),(false,false,true,false),(true,true,true,false),(true,false,true,true),(false,false,false,true)]:=by
 rcases hF with rfl|rfl|rfl|rfl|rfl|rfl|rfl|rfl|rfl|rfl|rfl|rfl|rfl <;> cases reg <;> decide
theorem used_at (op f:Int) (reg:Bool) (op':Int) (reg':Bool) (dst src off imm d s o i:Int) (w:World) (hf:frm (ix op)=f)
  (hd:(if uD f then dst else 0)=d) (hs:(if uS f reg then src else 0)=s) (ho:(if uO f then off else 0)=o) (hi:(if uI f reg then imm else 0)=i) :
  Calls Tryz.prog 264 #[.int .i64 op,.bool reg,.agg #[.int .i64 op',.bool reg',.int .i64 dst,.int .i64 src,.int .i64 off,.int .i64 imm]] w fun e w'=>e=.returned (.agg #[.int .i64 op,.bool reg,.int .i64 d,.int .i64 s,.int .i64 o,.int .i64 i])∧Below w.heap.size w w':=by
 have hc:=combos f reg (hf ▸ frm_isF op)
 simp only [List.mem_cons,Prod.mk.injEq,List.not_mem_nil,or_false] at hc
 subst hd hs ho hi
 rcases hc with ⟨hD,hS,hO,hI⟩|⟨hD,hS,hO,hI⟩|⟨hD,hS,hO,hI⟩|⟨hD,hS,hO,hI⟩|⟨hD,hS,hO,hI⟩|⟨hD,hS,hO,hI⟩|⟨hD,hS,hO,hI⟩|⟨hD,hS,hO,hI⟩ <;> rw [hD,hS,hO,hI]
 ·exact used_FFFF op f reg op' reg' dst src off imm w hf hD hS hO hI
 ·exact used_TTFF op f reg op' reg' dst src off imm w hf hD hS hO hI
 ·exact used_TFFT op f reg op' reg' dst src off imm w hf hD hS hO hI
 ·exact used_TFFF op f reg op' reg' dst src off imm w hf hD hS hO hI
 ·exact used_FFTF op f reg op' reg' dst src off imm w hf hD hS hO hI
 ·exact used_TTTF op f reg op' reg' dst src off imm w hf hD hS hO hI
 ·exact used_TFTT op f reg op' reg' dst src off imm w hf hD hS hO hI
 ·exact used_FFFT op f reg op' reg' dst src off imm w hf hD hS hO hI
end Go.Proofs.YtdgnjhhieemcaaaGreatDoor.L5
