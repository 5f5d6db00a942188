/- Lemmas and walks of L3Getj, L4Smallj, L5Putj, L5Fldj, L3Idfj: what each theorem states; conditions stand in each theorem. -/
import Derived.Test.YtgljoilddjmohaaGreatDoorM3
import Derived.Test.YtgljoilddjmohaaGreatDoorM7
import Derived.Test.YtgljoilddjmohaaGreatDoorM18
import Derived.Test.YtgljoilddjmohaaGreatDoorL3Idf
section
set_option maxRecDepth 100000
namespace Go.Proofs.YtgljoilddjmohaaGreatDoor.L3
open Go.RowKit
def wiR (f src r:Int):Int:=if f==10 || f==11 then src else r
def wiO (f off o:Int):Int:=if f==0 || f==2 then off else o
def wiI (f imm i:Int):Int:=if f==1 && i != 0 then imm else i
theorem with_at (s:ByteArray) (f b c r o i src off imm r' o' i':Int) (w:World) (hr:wiR f src r=r') (ho:wiO f off o=o') (hi:wiI f imm i=i'):Calls Tryz.prog 174 #[.agg #[.string s,.int .i64 f,.int .i64 b,.int .u8 c,.int .i64 r,.int .i64 o,.int .i64 i],.int .i64 src,.int .i64 off,.int .i64 imm] w fun e w' =>
  e=.returned (.agg #[.string s,.int .i64 f,.int .i64 b,.int .u8 c,.int .i64 r',.int .i64 o',.int .i64 i'])∧Below w.heap.size w w':=by
 cases h0:f==0
 ·cases h2:f==2
  ·cases h1:f==1
   ·cases h10:f==10
    ·cases h11:f==11
     ·obtain rfl:r'=r:=by rw [← hr,wiR,h10,h11];rfl
      obtain rfl:o'=o:=by rw [← ho,wiO,h0,h2];rfl
      obtain rfl:i'=i:=by rw [← hi,wiI,h1];rfl
      clear hr ho hi
      go_enter Tryz.func174,Tryz.ntmps174
      go_wp2
      refine bodyPost_ret (v:=.agg #[.string s,.int .i64 f,.int .i64 b,.int .u8 c,.int .i64 r',.int .i64 o',.int .i64 i']) (by simp [results,Tryz.results174,go_sem]) rfl ⟨rfl,bch (bnew w _) (bnew _ _)⟩
     ·obtain rfl:f=11:=by simpa using h11
      obtain rfl:r'=src:=hr.symm
      obtain rfl:o'=o:=ho.symm
      obtain rfl:i'=i:=hi.symm
      clear hr ho hi h0 h1 h2 h10 h11
      go_enter Tryz.func174,Tryz.ntmps174
      go_wp2
      refine bodyPost_ret (v:=.agg #[.string s,.int .i64 11,.int .i64 b,.int .u8 c,.int .i64 r',.int .i64 o',.int .i64 i']) (by simp [results,Tryz.results174,go_sem]) rfl ⟨rfl,bch (bnew w _) (bnew _ _)⟩
    ·obtain rfl:f=10:=by simpa using h10
     obtain rfl:r'=src:=hr.symm
     obtain rfl:o'=o:=ho.symm
     obtain rfl:i'=i:=hi.symm
     clear hr ho hi h0 h1 h2 h10
     go_enter Tryz.func174,Tryz.ntmps174
     go_wp2
     refine bodyPost_ret (v:=.agg #[.string s,.int .i64 10,.int .i64 b,.int .u8 c,.int .i64 r',.int .i64 o',.int .i64 i']) (by simp [results,Tryz.results174,go_sem]) rfl ⟨rfl,bch (bnew w _) (bnew _ _)⟩
   ·obtain rfl:f=1:=by simpa using h1
    obtain rfl:r'=r:=hr.symm
    obtain rfl:o'=o:=ho.symm
    cases hz:i != 0
    ·obtain rfl:i'=i:=by rw [← hi,wiI,hz];rfl
     clear hr ho hi h0 h1 h2
     go_enter Tryz.func174,Tryz.ntmps174
     go_wp2
     refine bodyPost_ret (v:=.agg #[.string s,.int .i64 1,.int .i64 b,.int .u8 c,.int .i64 r',.int .i64 o',.int .i64 i']) (by simp [results,Tryz.results174,go_sem]) rfl ⟨rfl,bch (bnew w _) (bnew _ _)⟩
    ·obtain rfl:i'=imm:=by rw [← hi,wiI,hz];rfl
     clear hr ho hi h0 h1 h2
     go_enter Tryz.func174,Tryz.ntmps174
     go_wp2
     refine bodyPost_ret (v:=.agg #[.string s,.int .i64 1,.int .i64 b,.int .u8 c,.int .i64 r',.int .i64 o',.int .i64 i']) (by simp [results,Tryz.results174,go_sem]) rfl ⟨rfl,bch (bnew w _) (bnew _ _)⟩
  ·obtain rfl:f=2:=by simpa using h2
   obtain rfl:r'=r:=hr.symm
   obtain rfl:o'=off:=ho.symm
   obtain rfl:i'=i:=hi.symm
   clear hr ho hi h0 h2
   go_enter Tryz.func174,Tryz.ntmps174
   go_wp2
   refine bodyPost_ret (v:=.agg #[.string s,.int .i64 2,.int .i64 b,.int .u8 c,.int .i64 r',.int .i64 o',.int .i64 i']) (by simp [results,Tryz.results174,go_sem]) rfl ⟨rfl,bch (bnew w _) (bnew _ _)⟩
 ·obtain rfl:f=0:=by simpa using h0
  obtain rfl:r'=r:=hr.symm
  obtain rfl:o'=off:=ho.symm
  obtain rfl:i'=i:=hi.symm
  clear hr ho hi h0
  go_enter Tryz.func174,Tryz.ntmps174
  go_wp2
  refine bodyPost_ret (v:=.agg #[.string s,.int .i64 0,.int .i64 b,.int .u8 c,.int .i64 r',.int .i64 o',.int .i64 i']) (by simp [results,Tryz.results174,go_sem]) rfl ⟨rfl,bch (bnew w _) (bnew _ _)⟩
end Go.Proofs.YtgljoilddjmohaaGreatDoor.L3
end
section
namespace Go.Proofs.YtgljoilddjmohaaGreatDoor.L4
open Go.RowKit L3
abbrev insA (op:Int) (reg:Bool) (dst src off imm:Int):Array Value:=#[.int .i64 op,.bool reg,.int .i64 dst,.int .i64 src,.int .i64 off,.int .i64 imm]
end Go.Proofs.YtgljoilddjmohaaGreatDoor.L4
end
section
set_option maxRecDepth 100000
set_option maxHeartbeats 2000000
namespace Go.Proofs.YtgljoilddjmohaaGreatDoor.L5
open Go.RowKit L3 L1
theorem extend_is (x y b v:Int) (w:World) (hw:Wid w) (h:x=y) (h0:0≤y) (h1:y<18446744073709551616) (hb:b=8∨b=16∨b=32∨b=64) (hv:sx b y=v) :
  Calls Tryz.prog 87 #[.int .u64 x,.int .i64 b] w fun e w'=>e=.returned (.int .i64 v)∧w=w':=by
 subst h;subst hv
 exact extend_yes x b w h0 h1 hw hb
theorem or2 (a b:UInt8):bits .or .u64 (bits .or .u64 0 (a.toNat:Int)) ((b.toNat:Int)*256)=(a.toNat:Int)*1+(b.toNat:Int)*256:=by
 have ha:=a.toNat_lt
 have hb:=b.toNat_lt
 have e0:bits .or .u64 0 (a.toNat:Int)=(a.toNat:Int):=by rw [u64_or 0 _ (by omega) (by omega) (by omega) (by omega)];simp
 rw [e0,u64_or8 _ _ (by omega) (by omega) (by omega) (by omega) (by omega)]
 omega
theorem or4 (a b c d:UInt8):bits .or .u64 (bits .or .u64 (bits .or .u64 (bits .or .u64 0 (a.toNat:Int)) ((b.toNat:Int)*256)) ((c.toNat:Int)*65536)) ((d.toNat:Int)*16777216)=(a.toNat:Int)*1+(b.toNat:Int)*256+(c.toNat:Int)*65536+(d.toNat:Int)*16777216:=by
 have ha:=a.toNat_lt
 have hb:=b.toNat_lt
 have hc:=c.toNat_lt
 have hd:=d.toNat_lt
 have e2:bits .or .u64 ((a.toNat:Int)*1+(b.toNat:Int)*256) ((c.toNat:Int)*65536)=((a.toNat:Int)*1+(b.toNat:Int)*256)+(c.toNat:Int)*65536:=u64_or16 _ _ (by omega) (by omega) (by omega) (by omega) (by omega)
 rw [or2,e2]
 exact u64_or24 _ _ (by omega) (by omega) (by omega) (by omega) (by omega)
theorem get2_at (k o cap:Nat) (c0 c1:UInt8) (v:Int) (w:World) (hw:Wid w) (h0:w.cell? ⟨k,o,none⟩=some (.int .u8 (c0.toNat:Int))) (h1:w.cell? ⟨k,o+1,none⟩=some (.int .u8 (c1.toNat:Int))) (hv:sx 16 ((c0.toNat:Int)*1+(c1.toNat:Int)*256)=v) :
  Calls Tryz.prog 130 #[.slice (some ⟨k,o,none⟩) 2 cap] w fun e w'=>e=.returned (.int .i64 v)∧w=w':=by
 have HW:=Lib.hid hw
 have HV:=Lib.hid hv
 clear hw hv
 have b0:=c0.toNat_lt
 have b1:=c1.toNat_lt
 go_enter Tryz.func130,Tryz.ntmps130
 go_wp2
 refine wp_loop_rounds 3 ?_
 repeat (rw [rounds_succ];go_wp2_with (go_at_call 87;((with_reducible refine (extend_is _ _ 16 v _ HW.out (or2 c0 c1) (by omega) (by omega) (by decide) HV.out).mono ?_);rintro e w' ⟨rfl,rfl⟩)))
 go_ret
 exact⟨rfl,rfl⟩
theorem get4_at (k o cap:Nat) (c0 c1 c2 c3:UInt8) (v:Int) (w:World) (hw:Wid w) (h0:w.cell? ⟨k,o,none⟩=some (.int .u8 (c0.toNat:Int))) (h1:w.cell? ⟨k,o+1,none⟩=some (.int .u8 (c1.toNat:Int))) (h2:w.cell? ⟨k,o+2,none⟩=some (.int .u8 (c2.toNat:Int))) (h3:w.cell? ⟨k,o+3,none⟩=some (.int .u8 (c3.toNat:Int))) (hv:sx 32 ((c0.toNat:Int)*1+(c1.toNat:Int)*256+(c2.toNat:Int)*65536+(c3.toNat:Int)*16777216)=v) :
  Calls Tryz.prog 130 #[.slice (some ⟨k,o,none⟩) 4 cap] w fun e w'=>e=.returned (.int .i64 v)∧w=w':=by
 have HW:=Lib.hid hw
 have HV:=Lib.hid hv
 clear hw hv
 have b0:=c0.toNat_lt
 have b1:=c1.toNat_lt
 have b2:=c2.toNat_lt
 have b3:=c3.toNat_lt
 go_enter Tryz.func130,Tryz.ntmps130
 go_wp2
 refine wp_loop_rounds 5 ?_
 repeat (rw [rounds_succ];go_wp2_with (go_at_call 87;((with_reducible refine (extend_is _ _ 32 v _ HW.out (or4 c0 c1 c2 c3) (by omega) (by omega) (by decide) HV.out).mono ?_);rintro e w' ⟨rfl,rfl⟩)))
 go_ret
 exact⟨rfl,rfl⟩
end Go.Proofs.YtgljoilddjmohaaGreatDoor.L5
end
section
set_option maxRecDepth 100000
set_option maxHeartbeats 4000000
namespace Go.Proofs.YtgljoilddjmohaaGreatDoor.L5
open Go.RowKit L3 L1 L4
structure Eight (w:World) (k o:Nat) (c0 c1 c2 c3 c4 c5 c6 c7:UInt8):Prop where
 a0:w.cell? ⟨k,o,none⟩=some (.int .u8 (c0.toNat:Int))
 a1:w.cell? ⟨k,o+1,none⟩=some (.int .u8 (c1.toNat:Int))
 a2:w.cell? ⟨k,o+2,none⟩=some (.int .u8 (c2.toNat:Int))
 a3:w.cell? ⟨k,o+2+1,none⟩=some (.int .u8 (c3.toNat:Int))
 a4:w.cell? ⟨k,o+4,none⟩=some (.int .u8 (c4.toNat:Int))
 a5:w.cell? ⟨k,o+4+1,none⟩=some (.int .u8 (c5.toNat:Int))
 a6:w.cell? ⟨k,o+4+2,none⟩=some (.int .u8 (c6.toNat:Int))
 a7:w.cell? ⟨k,o+4+3,none⟩=some (.int .u8 (c7.toNat:Int))
theorem Eight.below {w w':World} {k o:Nat} {c0 c1 c2 c3 c4 c5 c6 c7:UInt8} (h:Eight w k o c0 c1 c2 c3 c4 c5 c6 c7) (hb:Below w.heap.size w w'):Eight w' k o c0 c1 c2 c3 c4 c5 c6 c7:=by
 have hlt:k<w.heap.size:=World.block_lt_of_cell? w _ h.a0
 exact⟨(hb.cell (p:=⟨k,_,none⟩) hlt).trans h.a0,(hb.cell (p:=⟨k,_,none⟩) hlt).trans h.a1,(hb.cell (p:=⟨k,_,none⟩) hlt).trans h.a2,(hb.cell (p:=⟨k,_,none⟩) hlt).trans h.a3,(hb.cell (p:=⟨k,_,none⟩) hlt).trans h.a4,(hb.cell (p:=⟨k,_,none⟩) hlt).trans h.a5,(hb.cell (p:=⟨k,_,none⟩) hlt).trans h.a6,(hb.cell (p:=⟨k,_,none⟩) hlt).trans h.a7⟩
theorem sl_any (k o n cap:Nat) (a b:Nat) (hab:a≤b) (hb:b≤cap) (hca:a≠cap) (w:World) :
  (Instr.slice 35 (.slice (some ⟨k,o,none⟩) n cap) (some (.int .i64 (a:Int))) (some (.int .i64 (b:Int))) none).run Tryz.prog w=.ok (.slice (some ⟨k,o+a,none⟩) (b-a) (cap-a)) w:=by
 simp [go_sem,Tryz.underlying35,hab,hb,Ne.symm hca]
theorem sl_24 (k o n cap:Nat) (h:8≤cap) (w:World):(Instr.slice 35 (.slice (some ⟨k,o,none⟩) n cap) (some (.int .i64 2)) (some (.int .i64 4)) none).run Tryz.prog w=.ok (.slice (some ⟨k,o+2,none⟩) 2 (cap-2)) w:=sl_any k o n cap 2 4 (by omega) (by omega) (by omega) w
theorem sl_48 (k o n cap:Nat) (h:8≤cap) (w:World):(Instr.slice 35 (.slice (some ⟨k,o,none⟩) n cap) (some (.int .i64 4)) (some (.int .i64 8)) none).run Tryz.prog w=.ok (.slice (some ⟨k,o+4,none⟩) 4 (cap-4)) w:=sl_any k o n cap 4 8 (by omega) (by omega) (by omega) w
theorem sl_cg (k o n cap:Nat) (h:16≤cap) (w:World):(Instr.slice 35 (.slice (some ⟨k,o,none⟩) n cap) (some (.int .i64 12)) (some (.int .i64 16)) none).run Tryz.prog w=.ok (.slice (some ⟨k,o+12,none⟩) 4 (cap-12)) w:=sl_any k o n cap 12 16 (by omega) (by omega) (by omega) w
theorem ins_one (op:Int) (reg:Bool) (dst src off imm:Int):(insA op reg dst src off imm).all (·.oneCell')=true:=by simp [insA,Value.oneCell']
theorem three_blocks {w w1:World} {A B C:Array Value} {a b c:Value} {u:Value} (h:Below (((w.alloc (.cells A 50)).alloc (.cells B 50)).alloc (.cells C 50)).heap.size (((w.alloc (.cells A 50)).alloc (.cells B 50)).alloc (.cells C 50)) w1) :
  ∃ g0 g1 g2 g3:Nat,w.heap.size=g0∧g0+1=g1∧g1+1=g2∧w1.heap.size=g3∧g0≠g2∧g1≠g2∧g0≠g1∧g0≠g3∧g1≠g3∧g2≠g3 ∧
   (w1.alloc (.cells #[a,b,c,u] 234)).heap[g0]?=some (.cells A 50)∧(w1.alloc (.cells #[a,b,c,u] 234)).heap[g1]?=some (.cells B 50)∧(w1.alloc (.cells #[a,b,c,u] 234)).heap[g2]?=some (.cells C 50)∧(w1.alloc (.cells #[a,b,c,u] 234)).heap[g3]?=some (.cells #[a,b,c,u] 234)∧Below w.heap.size w (w1.alloc (.cells #[a,b,c,u] 234)):=by
 have hs:=h.size
 simp only [World.size_alloc] at hs
 have hq:=bch h (bnew w1 (.cells #[a,b,c,u] 234))
 refine⟨_,_,_,_,rfl,rfl,rfl,rfl,by omega,by omega,by omega,by omega,by omega,by omega,?_,?_,?_,heap_alloc_last _ _,?_⟩
 ·rw [hq.block _ (by simp;omega),Below.heap_alloc _ _ _ (by simp;omega),Below.heap_alloc _ _ _ (by simp),heap_alloc_last]
 ·rw [hq.block _ (by simp),Below.heap_alloc _ _ _ (by simp)]
  have:=heap_alloc_last (w.alloc (.cells A 50)) (.cells B 50)
  rwa [World.size_alloc] at this
 ·rw [hq.block _ (by simp)]
  have:=heap_alloc_last ((w.alloc (.cells A 50)).alloc (.cells B 50)) (.cells C 50)
  rwa [World.size_alloc,World.size_alloc] at this
 ·exact ((((Below.refl _ w).alloc (Nat.le_refl _) _).alloc (by simp) _).alloc (by simp;omega) _).trans (hq.mono (by simp;omega))
theorem fields_at (k o n cap:Nat) (c0 c1 c2 c3 c4 c5 c6 c7:UInt8) (off imm:Int) (w:World) (hw:Wid w) (h:Eight w k o c0 c1 c2 c3 c4 c5 c6 c7) (hn:8≤n) (hc:n≤cap) (_:cap≤9223372036854775807)
  (ho:sx 16 ((c2.toNat:Int)*1+(c3.toNat:Int)*256)=off) (hi:sx 32 ((c4.toNat:Int)*1+(c5.toNat:Int)*256+(c6.toNat:Int)*65536+(c7.toNat:Int)*16777216)=imm) :
  Calls Tryz.prog 127 #[.slice (some ⟨k,o,none⟩) n cap] w fun e w'=>e=.returned (.agg #[.int .i64 0,.bool false,.int .i64 ((c1.toNat:Int) % 16),.int .i64 ((c1.toNat:Int) / 16),.int .i64 off,.int .i64 imm])∧Below w.heap.size w w':=by
 have hb:=bnew w (.cells #[.int .i64 0,.bool false,.int .i64 0,.int .i64 0,.int .i64 0,.int .i64 0] 50)
 have HO:=Lib.hid ho
 have HI:=Lib.hid hi
 have b1:=c1.toNat_lt
 have s24:=sl_24 k o n cap (by omega)
 have s48:=sl_48 k o n cap (by omega)
 have n1:1<n:=by omega
 have n1':(1:Int)<(n:Int):=by omega
 have hg:(w.alloc (.cells #[.int .i64 0,.bool false,.int .i64 0,.int .i64 0,.int .i64 0,.int .i64 0] 50)).heap[w.heap.size]?=some (.cells #[.int .i64 0,.bool false,.int .i64 0,.int .i64 0,.int .i64 0,.int .i64 0] 50):=heap_alloc_last w _
 have h':=h.below hb
 have hw':=wid_below hw hb
 clear hw h ho hi
 go_enter Tryz.func127,Tryz.ntmps127
 go_wp2
 refine wp_region_still_tail 17 (by kernel_rfl) (by kernel_rfl) ?_
 simp only [List.take_succ_cons,List.take_zero,List.drop_succ_cons,List.drop_zero]
 change wpStill _ _ (World.drew _) _ _ _
 generalize hW:w.alloc (.cells #[.int .i64 0,.bool false,.int .i64 0,.int .i64 0,.int .i64 0,.int .i64 0] 50)=W at hg h' hw' hb ⊢
 clear hW
 have hq:Below W.heap.size W W.drew:=(Below.refl _ _).drew
 replace h':=h'.below hq
 replace hw':=wid_below hw' hq
 replace hb:=hb.drew
 replace hg:W.drew.heap[w.heap.size]?=_:=hg
 clear hq
 obtain⟨D,hD⟩:∃ D,D=W.drew:=⟨_,rfl⟩
 rw [← hD] at h' hw' hb hg ⊢
 have wm:IntKind.i64.wrap ((c1.toNat:Int) % 16)=(c1.toNat:Int) % 16:=IntWalk.i64_in _ (by omega)
 have wd:IntKind.i64.wrap ((c1.toNat:Int) / 16)=(c1.toNat:Int) / 16:=IntWalk.i64_in _ (by omega)
 have HD:=Lib.hid hD
 clear hD
 have h1:=h'.a1
 have G2:=Lib.hid (fun c=>(get2_at k (o+2) c c2 c3 off D hw' h'.a2 h'.a3 HO.out).mono (R':=fun e w''=>e=.returned (.int .i64 off)∧w''=D) (fun _ _ h=>⟨h.1,h.2.symm⟩))
 have G4:=Lib.hid (fun c=>(get4_at k (o+4) c c4 c5 c6 c7 imm D hw' h'.a4 h'.a5 h'.a6 h'.a7 HI.out).mono (R':=fun e w''=>e=.returned (.int .i64 imm)∧w''=D) (fun _ _ h=>⟨h.1,h.2.symm⟩))
 have ha:bits .and .u8 (c1.toNat:Int) 15=(c1.toNat:Int) % 16:=u8_and15 _ (by omega) (by omega)
 clear h' hw'
 repeat still_step
 still_call (G2.out _)
 repeat still_step
 still_call (G4.out _)
 repeat still_step
 refine wpStill_nil ?_
 change wpList _ _ _ _ _ W.drew
 rw [← HD.out]
 clear HD wm wd G2 G4 s24 s48 n1 n1' h1 ha
 refine wpList_store_row rfl _ _ _ rfl w.heap.size (insA 0 false ((c1.toNat:Int) % 16) ((c1.toNat:Int) / 16) off imm) rfl rfl 50 _ hg (by kernel_rfl) rfl (ins_one _ _ _ _ _ _) ?_
 have hg2:=setRow_heap D w.heap.size _ (insA 0 false ((c1.toNat:Int) % 16) ((c1.toNat:Int) / 16) off imm) _ _ hg
 have hb2:=below_setRow hb (Nat.le_refl _) (insA 0 false ((c1.toNat:Int) % 16) ((c1.toNat:Int) / 16) off imm)
 generalize D.setRow w.heap.size (insA 0 false ((c1.toNat:Int) % 16) ((c1.toNat:Int) / 16) off imm)=E at hg2 hb2 ⊢
 clear hg hb
 refine wpList_done ?_
 obtain⟨x0,x1,x2,x3,x4,x5⟩:=cells6 hg2
 go_wp2
 exact bodyPost_ret (v:=.agg #[.int .i64 0,.bool false,.int .i64 ((c1.toNat:Int) % 16),.int .i64 ((c1.toNat:Int) / 16),.int .i64 off,.int .i64 imm]) (by simp [results,Tryz.results127,go_sem,x0,x1,x2,x3,x4,x5]) rfl ⟨rfl,hb2⟩
theorem used_FFFF (op f:Int) (reg:Bool) (op':Int) (reg':Bool) (dst src off imm:Int) (w:World) (hf:frm (ix op)=f) (hD:uD f=false) (hS:uS f reg=false) (hO:uO f=false) (hI:uI f reg=false) :
  Calls Tryz.prog 129 #[.int .i64 op,.bool reg,.agg #[.int .i64 op',.bool reg',.int .i64 dst,.int .i64 src,.int .i64 off,.int .i64 imm]] w fun e w'=>e=.returned (.agg #[.int .i64 op,.bool reg,.int .i64 0,.int .i64 0,.int .i64 0,.int .i64 0])∧Below w.heap.size w w':=by
 have HU:=Lib.hid (fun w=>uses_is op f reg false false false false w hf hD hS hO hI)
 clear hf hD hS hO hI
 go_enter Tryz.func129,Tryz.ntmps129
 go_upto_region 3 with (go_at_call 175;((with_reducible refine (HU.out _).mono ?_);rintro e w1 ⟨rfl,hb1⟩))
 obtain⟨g0,g1,g2,g3,e0,e1,e2,e3,n02,n12,n01,n03,n13,n23,h0,h1,h2,h3,hB⟩:=three_blocks (a:=.bool false) (b:=.bool false) (c:=.bool false) (u:=.bool false) hb1
 clear hb1
 rw [e0,e1,e2,e3]
 generalize w1.alloc _=W at h0 h1 h2 h3 hB ⊢
 obtain⟨a0,a1,a2,a3,a4,a5⟩:=cells6 h0
 obtain⟨b0,b1,b2,b3,b4,b5⟩:=cells6 h1
 obtain⟨c0,c1,c2,c3,c4,c5⟩:=cells6 h2
 obtain⟨d0,d1,d2,d3,-⟩:=cells4 h3
 have f1:=frozen_all h1
 have f2:=frozen_all h2
 have HS:=Lib.hid (show w.heap.size≤g1 by omega)
 have HT:=Lib.hid (show w.heap.size≤g2 by omega)
 have HB:=Lib.hid hB
 clear e0 e1 e2 e3 HU h0 h1 h2 h3 hB
 go_wp2
 refine bodyPost_ret (v:=.agg #[.int .i64 op,.bool reg,.int .i64 0,.int .i64 0,.int .i64 0,.int .i64 0]) (by simp [results,Tryz.results129,go_sem,b0,b1,b2,b3,b4,b5]) rfl ⟨rfl,?_⟩
 repeat first|(with_reducible exact HB.out)|refine Below.setCell ?_ (by first|exact HS.out|exact HT.out) _
theorem used_TTFF (op f:Int) (reg:Bool) (op':Int) (reg':Bool) (dst src off imm:Int) (w:World) (hf:frm (ix op)=f) (hD:uD f=true) (hS:uS f reg=true) (hO:uO f=false) (hI:uI f reg=false) :
  Calls Tryz.prog 129 #[.int .i64 op,.bool reg,.agg #[.int .i64 op',.bool reg',.int .i64 dst,.int .i64 src,.int .i64 off,.int .i64 imm]] w fun e w'=>e=.returned (.agg #[.int .i64 op,.bool reg,.int .i64 dst,.int .i64 src,.int .i64 0,.int .i64 0])∧Below w.heap.size w w':=by
 have HU:=Lib.hid (fun w=>uses_is op f reg true true false false w hf hD hS hO hI)
 clear hf hD hS hO hI
 go_enter Tryz.func129,Tryz.ntmps129
 go_upto_region 3 with (go_at_call 175;((with_reducible refine (HU.out _).mono ?_);rintro e w1 ⟨rfl,hb1⟩))
 obtain⟨g0,g1,g2,g3,e0,e1,e2,e3,n02,n12,n01,n03,n13,n23,h0,h1,h2,h3,hB⟩:=three_blocks (a:=.bool true) (b:=.bool true) (c:=.bool false) (u:=.bool false) hb1
 clear hb1
 rw [e0,e1,e2,e3]
 generalize w1.alloc _=W at h0 h1 h2 h3 hB ⊢
 obtain⟨a0,a1,a2,a3,a4,a5⟩:=cells6 h0
 obtain⟨b0,b1,b2,b3,b4,b5⟩:=cells6 h1
 obtain⟨c0,c1,c2,c3,c4,c5⟩:=cells6 h2
 obtain⟨d0,d1,d2,d3,-⟩:=cells4 h3
 have f1:=frozen_all h1
 have f2:=frozen_all h2
 have HS:=Lib.hid (show w.heap.size≤g1 by omega)
 have HT:=Lib.hid (show w.heap.size≤g2 by omega)
 have HB:=Lib.hid hB
 clear e0 e1 e2 e3 HU h0 h1 h2 h3 hB
 go_wp2
 refine bodyPost_ret (v:=.agg #[.int .i64 op,.bool reg,.int .i64 dst,.int .i64 src,.int .i64 0,.int .i64 0]) (by simp [results,Tryz.results129,go_sem,b0,b1,b2,b3,b4,b5]) rfl ⟨rfl,?_⟩
 repeat first|(with_reducible exact HB.out)|refine Below.setCell ?_ (by first|exact HS.out|exact HT.out) _
theorem used_TFFT (op f:Int) (reg:Bool) (op':Int) (reg':Bool) (dst src off imm:Int) (w:World) (hf:frm (ix op)=f) (hD:uD f=true) (hS:uS f reg=false) (hO:uO f=false) (hI:uI f reg=true) :
  Calls Tryz.prog 129 #[.int .i64 op,.bool reg,.agg #[.int .i64 op',.bool reg',.int .i64 dst,.int .i64 src,.int .i64 off,.int .i64 imm]] w fun e w'=>e=.returned (.agg #[.int .i64 op,.bool reg,.int .i64 dst,.int .i64 0,.int .i64 0,.int .i64 imm])∧Below w.heap.size w w':=by
 have HU:=Lib.hid (fun w=>uses_is op f reg true false false true w hf hD hS hO hI)
 clear hf hD hS hO hI
 go_enter Tryz.func129,Tryz.ntmps129
 go_upto_region 3 with (go_at_call 175;((with_reducible refine (HU.out _).mono ?_);rintro e w1 ⟨rfl,hb1⟩))
 obtain⟨g0,g1,g2,g3,e0,e1,e2,e3,n02,n12,n01,n03,n13,n23,h0,h1,h2,h3,hB⟩:=three_blocks (a:=.bool true) (b:=.bool false) (c:=.bool false) (u:=.bool true) hb1
 clear hb1
 rw [e0,e1,e2,e3]
 generalize w1.alloc _=W at h0 h1 h2 h3 hB ⊢
 obtain⟨a0,a1,a2,a3,a4,a5⟩:=cells6 h0
 obtain⟨b0,b1,b2,b3,b4,b5⟩:=cells6 h1
 obtain⟨c0,c1,c2,c3,c4,c5⟩:=cells6 h2
 obtain⟨d0,d1,d2,d3,-⟩:=cells4 h3
 have f1:=frozen_all h1
 have f2:=frozen_all h2
 have HS:=Lib.hid (show w.heap.size≤g1 by omega)
 have HT:=Lib.hid (show w.heap.size≤g2 by omega)
 have HB:=Lib.hid hB
 clear e0 e1 e2 e3 HU h0 h1 h2 h3 hB
 go_wp2
 refine bodyPost_ret (v:=.agg #[.int .i64 op,.bool reg,.int .i64 dst,.int .i64 0,.int .i64 0,.int .i64 imm]) (by simp [results,Tryz.results129,go_sem,b0,b1,b2,b3,b4,b5]) rfl ⟨rfl,?_⟩
 repeat first|(with_reducible exact HB.out)|refine Below.setCell ?_ (by first|exact HS.out|exact HT.out) _
theorem used_TFFF (op f:Int) (reg:Bool) (op':Int) (reg':Bool) (dst src off imm:Int) (w:World) (hf:frm (ix op)=f) (hD:uD f=true) (hS:uS f reg=false) (hO:uO f=false) (hI:uI f reg=false) :
  Calls Tryz.prog 129 #[.int .i64 op,.bool reg,.agg #[.int .i64 op',.bool reg',.int .i64 dst,.int .i64 src,.int .i64 off,.int .i64 imm]] w fun e w'=>e=.returned (.agg #[.int .i64 op,.bool reg,.int .i64 dst,.int .i64 0,.int .i64 0,.int .i64 0])∧Below w.heap.size w w':=by
 have HU:=Lib.hid (fun w=>uses_is op f reg true false false false w hf hD hS hO hI)
 clear hf hD hS hO hI
 go_enter Tryz.func129,Tryz.ntmps129
 go_upto_region 3 with (go_at_call 175;((with_reducible refine (HU.out _).mono ?_);rintro e w1 ⟨rfl,hb1⟩))
 obtain⟨g0,g1,g2,g3,e0,e1,e2,e3,n02,n12,n01,n03,n13,n23,h0,h1,h2,h3,hB⟩:=three_blocks (a:=.bool true) (b:=.bool false) (c:=.bool false) (u:=.bool false) hb1
 clear hb1
 rw [e0,e1,e2,e3]
 generalize w1.alloc _=W at h0 h1 h2 h3 hB ⊢
 obtain⟨a0,a1,a2,a3,a4,a5⟩:=cells6 h0
 obtain⟨b0,b1,b2,b3,b4,b5⟩:=cells6 h1
 obtain⟨c0,c1,c2,c3,c4,c5⟩:=cells6 h2
 obtain⟨d0,d1,d2,d3,-⟩:=cells4 h3
 have f1:=frozen_all h1
 have f2:=frozen_all h2
 have HS:=Lib.hid (show w.heap.size≤g1 by omega)
 have HT:=Lib.hid (show w.heap.size≤g2 by omega)
 have HB:=Lib.hid hB
 clear e0 e1 e2 e3 HU h0 h1 h2 h3 hB
 go_wp2
 refine bodyPost_ret (v:=.agg #[.int .i64 op,.bool reg,.int .i64 dst,.int .i64 0,.int .i64 0,.int .i64 0]) (by simp [results,Tryz.results129,go_sem,b0,b1,b2,b3,b4,b5]) rfl ⟨rfl,?_⟩
 repeat first|(with_reducible exact HB.out)|refine Below.setCell ?_ (by first|exact HS.out|exact HT.out) _
theorem used_FFTF (op f:Int) (reg:Bool) (op':Int) (reg':Bool) (dst src off imm:Int) (w:World) (hf:frm (ix op)=f) (hD:uD f=false) (hS:uS f reg=false) (hO:uO f=true) (hI:uI f reg=false) :
  Calls Tryz.prog 129 #[.int .i64 op,.bool reg,.agg #[.int .i64 op',.bool reg',.int .i64 dst,.int .i64 src,.int .i64 off,.int .i64 imm]] w fun e w'=>e=.returned (.agg #[.int .i64 op,.bool reg,.int .i64 0,.int .i64 0,.int .i64 off,.int .i64 0])∧Below w.heap.size w w':=by
 have HU:=Lib.hid (fun w=>uses_is op f reg false false true false w hf hD hS hO hI)
 clear hf hD hS hO hI
 go_enter Tryz.func129,Tryz.ntmps129
 go_upto_region 3 with (go_at_call 175;((with_reducible refine (HU.out _).mono ?_);rintro e w1 ⟨rfl,hb1⟩))
 obtain⟨g0,g1,g2,g3,e0,e1,e2,e3,n02,n12,n01,n03,n13,n23,h0,h1,h2,h3,hB⟩:=three_blocks (a:=.bool false) (b:=.bool false) (c:=.bool true) (u:=.bool false) hb1
 clear hb1
 rw [e0,e1,e2,e3]
 generalize w1.alloc _=W at h0 h1 h2 h3 hB ⊢
 obtain⟨a0,a1,a2,a3,a4,a5⟩:=cells6 h0
 obtain⟨b0,b1,b2,b3,b4,b5⟩:=cells6 h1
 obtain⟨c0,c1,c2,c3,c4,c5⟩:=cells6 h2
 obtain⟨d0,d1,d2,d3,-⟩:=cells4 h3
 have f1:=frozen_all h1
 have f2:=frozen_all h2
 have HS:=Lib.hid (show w.heap.size≤g1 by omega)
 have HT:=Lib.hid (show w.heap.size≤g2 by omega)
 have HB:=Lib.hid hB
 clear e0 e1 e2 e3 HU h0 h1 h2 h3 hB
 go_wp2
 refine bodyPost_ret (v:=.agg #[.int .i64 op,.bool reg,.int .i64 0,.int .i64 0,.int .i64 off,.int .i64 0]) (by simp [results,Tryz.results129,go_sem,b0,b1,b2,b3,b4,b5]) rfl ⟨rfl,?_⟩
 repeat first|(with_reducible exact HB.out)|refine Below.setCell ?_ (by first|exact HS.out|exact HT.out) _
theorem used_TTTF (op f:Int) (reg:Bool) (op':Int) (reg':Bool) (dst src off imm:Int) (w:World) (hf:frm (ix op)=f) (hD:uD f=true) (hS:uS f reg=true) (hO:uO f=true) (hI:uI f reg=false) :
  Calls Tryz.prog 129 #[.int .i64 op,.bool reg,.agg #[.int .i64 op',.bool reg',.int .i64 dst,.int .i64 src,.int .i64 off,.int .i64 imm]] w fun e w'=>e=.returned (.agg #[.int .i64 op,.bool reg,.int .i64 dst,.int .i64 src,.int .i64 off,.int .i64 0])∧Below w.heap.size w w':=by
 have HU:=Lib.hid (fun w=>uses_is op f reg true true true false w hf hD hS hO hI)
 clear hf hD hS hO hI
 go_enter Tryz.func129,Tryz.ntmps129
 go_upto_region 3 with (go_at_call 175;((with_reducible refine (HU.out _).mono ?_);rintro e w1 ⟨rfl,hb1⟩))
 obtain⟨g0,g1,g2,g3,e0,e1,e2,e3,n02,n12,n01,n03,n13,n23,h0,h1,h2,h3,hB⟩:=three_blocks (a:=.bool true) (b:=.bool true) (c:=.bool true) (u:=.bool false) hb1
 clear hb1
 rw [e0,e1,e2,e3]
 generalize w1.alloc _=W at h0 h1 h2 h3 hB ⊢
 obtain⟨a0,a1,a2,a3,a4,a5⟩:=cells6 h0
 obtain⟨b0,b1,b2,b3,b4,b5⟩:=cells6 h1
 obtain⟨c0,c1,c2,c3,c4,c5⟩:=cells6 h2
 obtain⟨d0,d1,d2,d3,-⟩:=cells4 h3
 have f1:=frozen_all h1
 have f2:=frozen_all h2
 have HS:=Lib.hid (show w.heap.size≤g1 by omega)
 have HT:=Lib.hid (show w.heap.size≤g2 by omega)
 have HB:=Lib.hid hB
 clear e0 e1 e2 e3 HU h0 h1 h2 h3 hB
 go_wp2
 refine bodyPost_ret (v:=.agg #[.int .i64 op,.bool reg,.int .i64 dst,.int .i64 src,.int .i64 off,.int .i64 0]) (by simp [results,Tryz.results129,go_sem,b0,b1,b2,b3,b4,b5]) rfl ⟨rfl,?_⟩
 repeat first|(with_reducible exact HB.out)|refine Below.setCell ?_ (by first|exact HS.out|exact HT.out) _
theorem used_TFTT (op f:Int) (reg:Bool) (op':Int) (reg':Bool) (dst src off imm:Int) (w:World) (hf:frm (ix op)=f) (hD:uD f=true) (hS:uS f reg=false) (hO:uO f=true) (hI:uI f reg=true) :
  Calls Tryz.prog 129 #[.int .i64 op,.bool reg,.agg #[.int .i64 op',.bool reg',.int .i64 dst,.int .i64 src,.int .i64 off,.int .i64 imm]] w fun e w'=>e=.returned (.agg #[.int .i64 op,.bool reg,.int .i64 dst,.int .i64 0,.int .i64 off,.int .i64 imm])∧Below w.heap.size w w':=by
 have HU:=Lib.hid (fun w=>uses_is op f reg true false true true w hf hD hS hO hI)
 clear hf hD hS hO hI
 go_enter Tryz.func129,Tryz.ntmps129
 go_upto_region 3 with (go_at_call 175;((with_reducible refine (HU.out _).mono ?_);rintro e w1 ⟨rfl,hb1⟩))
 obtain⟨g0,g1,g2,g3,e0,e1,e2,e3,n02,n12,n01,n03,n13,n23,h0,h1,h2,h3,hB⟩:=three_blocks (a:=.bool true) (b:=.bool false) (c:=.bool true) (u:=.bool true) hb1
 clear hb1
 rw [e0,e1,e2,e3]
 generalize w1.alloc _=W at h0 h1 h2 h3 hB ⊢
 obtain⟨a0,a1,a2,a3,a4,a5⟩:=cells6 h0
 obtain⟨b0,b1,b2,b3,b4,b5⟩:=cells6 h1
 obtain⟨c0,c1,c2,c3,c4,c5⟩:=cells6 h2
 obtain⟨d0,d1,d2,d3,-⟩:=cells4 h3
 have f1:=frozen_all h1
 have f2:=frozen_all h2
 have HS:=Lib.hid (show w.heap.size≤g1 by omega)
 have HT:=Lib.hid (show w.heap.size≤g2 by omega)
 have HB:=Lib.hid hB
 clear e0 e1 e2 e3 HU h0 h1 h2 h3 hB
 go_wp2
 refine bodyPost_ret (v:=.agg #[.int .i64 op,.bool reg,.int .i64 dst,.int .i64 0,.int .i64 off,.int .i64 imm]) (by simp [results,Tryz.results129,go_sem,b0,b1,b2,b3,b4,b5]) rfl ⟨rfl,?_⟩
 repeat first|(with_reducible exact HB.out)|refine Below.setCell ?_ (by first|exact HS.out|exact HT.out) _
theorem used_FFFT (op f:Int) (reg:Bool) (op':Int) (reg':Bool) (dst src off imm:Int) (w:World) (hf:frm (ix op)=f) (hD:uD f=false) (hS:uS f reg=false) (hO:uO f=false) (hI:uI f reg=true) :
  Calls Tryz.prog 129 #[.int .i64 op,.bool reg,.agg #[.int .i64 op',.bool reg',.int .i64 dst,.int .i64 src,.int .i64 off,.int .i64 imm]] w fun e w'=>e=.returned (.agg #[.int .i64 op,.bool reg,.int .i64 0,.int .i64 0,.int .i64 0,.int .i64 imm])∧Below w.heap.size w w':=by
 have HU:=Lib.hid (fun w=>uses_is op f reg false false false true w hf hD hS hO hI)
 clear hf hD hS hO hI
 go_enter Tryz.func129,Tryz.ntmps129
 go_upto_region 3 with (go_at_call 175;((with_reducible refine (HU.out _).mono ?_);rintro e w1 ⟨rfl,hb1⟩))
 obtain⟨g0,g1,g2,g3,e0,e1,e2,e3,n02,n12,n01,n03,n13,n23,h0,h1,h2,h3,hB⟩:=three_blocks (a:=.bool false) (b:=.bool false) (c:=.bool false) (u:=.bool true) hb1
 clear hb1
 rw [e0,e1,e2,e3]
 generalize w1.alloc _=W at h0 h1 h2 h3 hB ⊢
 obtain⟨a0,a1,a2,a3,a4,a5⟩:=cells6 h0
 obtain⟨b0,b1,b2,b3,b4,b5⟩:=cells6 h1
 obtain⟨c0,c1,c2,c3,c4,c5⟩:=cells6 h2
 obtain⟨d0,d1,d2,d3,-⟩:=cells4 h3
 have f1:=frozen_all h1
 have f2:=frozen_all h2
 have HS:=Lib.hid (show w.heap.size≤g1 by omega)
 have HT:=Lib.hid (show w.heap.size≤g2 by omega)
 have HB:=Lib.hid hB
 clear e0 e1 e2 e3 HU h0 h1 h2 h3 hB
 go_wp2
 refine bodyPost_ret (v:=.agg #[.int .i64 op,.bool reg,.int .i64 0,.int .i64 0,.int .i64 0,.int .i64 imm]) (by simp [results,Tryz.results129,go_sem,b0,b1,b2,b3,b4,b5]) rfl ⟨rfl,?_⟩
 repeat first|(with_reducible exact HB.out)|refine Below.setCell ?_ (by first|exact HS.out|exact HT.out) _
theorem combos (f:Int) (reg:Bool) (hF:IsF f):(uD f,uS f reg,uO f,uI f reg)∈[(false,false,false,false),(true,true,false,false),(true,false,false,true),(true,false,false,false),(false,false,true,false),(true,true,true,false),(true,false,true,true),(false,false,false,true)]:=by
 rcases hF with rfl|rfl|rfl|rfl|rfl|rfl|rfl|rfl|rfl|rfl|rfl|rfl|rfl <;> cases reg <;> decide
theorem used_at (op f:Int) (reg:Bool) (op':Int) (reg':Bool) (dst src off imm d s o i:Int) (w:World) (hf:frm (ix op)=f)
  (hd:(if uD f then dst else 0)=d) (hs:(if uS f reg then src else 0)=s) (ho:(if uO f then off else 0)=o) (hi:(if uI f reg then imm else 0)=i) :
  Calls Tryz.prog 129 #[.int .i64 op,.bool reg,.agg #[.int .i64 op',.bool reg',.int .i64 dst,.int .i64 src,.int .i64 off,.int .i64 imm]] w fun e w'=>e=.returned (.agg #[.int .i64 op,.bool reg,.int .i64 d,.int .i64 s,.int .i64 o,.int .i64 i])∧Below w.heap.size w w':=by
 have hc:=combos f reg (hf ▸ frm_isF op)
 simp only [List.mem_cons,Prod.mk.injEq,List.not_mem_nil,or_false] at hc
 subst hd hs ho hi
 rcases hc with ⟨hD,hS,hO,hI⟩|⟨hD,hS,hO,hI⟩|⟨hD,hS,hO,hI⟩|⟨hD,hS,hO,hI⟩|⟨hD,hS,hO,hI⟩|⟨hD,hS,hO,hI⟩|⟨hD,hS,hO,hI⟩|⟨hD,hS,hO,hI⟩ <;> rw [hD,hS,hO,hI]
 ·exact used_FFFF op f reg op' reg' dst src off imm w hf hD hS hO hI
 ·exact used_TTFF op f reg op' reg' dst src off imm w hf hD hS hO hI
 ·exact used_TFFT op f reg op' reg' dst src off imm w hf hD hS hO hI
 ·exact used_TFFF op f reg op' reg' dst src off imm w hf hD hS hO hI
 ·exact used_FFTF op f reg op' reg' dst src off imm w hf hD hS hO hI
 ·exact used_TTTF op f reg op' reg' dst src off imm w hf hD hS hO hI
 ·exact used_TFTT op f reg op' reg' dst src off imm w hf hD hS hO hI
 ·exact used_FFFT op f reg op' reg' dst src off imm w hf hD hS hO hI
end Go.Proofs.YtgljoilddjmohaaGreatDoor.L5
end
section
set_option maxRecDepth 100000
set_option maxHeartbeats 1000000
namespace Go.Proofs.YtgljoilddjmohaaGreatDoor.L3
open Go.RowKit
def regK (code:Int) (k:Nat):Bool:=isR (fm k) && code==cd8 k
def sameK (src off imm:Int) (k:Nat):Bool:=(wiR (fm k) src (sr k)==sr k) && (wiO (fm k) off (of k)==of k) && (wiI (fm k) imm (im k)==im k)
def hitK (code src off imm:Int) (k:Nat):Bool:=(regK code k || code==cd k) && sameK src off imm k
def idF (code src off imm:Int):Nat→Nat→Int × Bool × Bool
 | 0,_=>(0,false,false)
 | n+1,k=>if hitK code src off imm k then ((k:Int),regK code k,true) else idF code src off imm n (k+1)
theorem keepD {B w:World} {g:Nat} {v0 v1 v2 v3 v4 v5 v6:Value} (hB:Below B.heap.size B w) (h0:w.cell? ⟨g,0,none⟩=some v0) (h1:w.cell? ⟨g,1,none⟩=some v1) (h2:w.cell? ⟨g,2,none⟩=some v2) (h3:w.cell? ⟨g,3,none⟩=some v3)
  (h4:w.cell? ⟨g,4,none⟩=some v4) (h5:w.cell? ⟨g,5,none⟩=some v5) (h6:w.cell? ⟨g,6,none⟩=some v6) :
  Below B.heap.size B w.drew∧w.drew.cell? ⟨g,0,none⟩=some v0∧w.drew.cell? ⟨g,1,none⟩=some v1∧w.drew.cell? ⟨g,2,none⟩=some v2∧w.drew.cell? ⟨g,3,none⟩=some v3∧w.drew.cell? ⟨g,4,none⟩=some v4∧w.drew.cell? ⟨g,5,none⟩=some v5∧w.drew.cell? ⟨g,6,none⟩=some v6 :=
 ⟨below_drewN hB 1,h0,h1,h2,h3,h4,h5,h6⟩
theorem keepB {B w w':World} {g:Nat} {v0 v1 v2 v3 v4 v5 v6:Value} (hb:Below w.heap.size w w') (hB:Below B.heap.size B w) (h0:w.cell? ⟨g,0,none⟩=some v0) (h1:w.cell? ⟨g,1,none⟩=some v1) (h2:w.cell? ⟨g,2,none⟩=some v2) (h3:w.cell? ⟨g,3,none⟩=some v3)
  (h4:w.cell? ⟨g,4,none⟩=some v4) (h5:w.cell? ⟨g,5,none⟩=some v5) (h6:w.cell? ⟨g,6,none⟩=some v6) :
  Below B.heap.size B w'∧w'.cell? ⟨g,0,none⟩=some v0∧w'.cell? ⟨g,1,none⟩=some v1∧w'.cell? ⟨g,2,none⟩=some v2∧w'.cell? ⟨g,3,none⟩=some v3∧w'.cell? ⟨g,4,none⟩=some v4∧w'.cell? ⟨g,5,none⟩=some v5∧w'.cell? ⟨g,6,none⟩=some v6:=by
 have hlt:g<w.heap.size:=World.block_lt_of_cell? w _ h0
 exact⟨bch hB hb,(hb.cell hlt).trans h0,(hb.cell hlt).trans h1,(hb.cell hlt).trans h2,(hb.cell hlt).trans h3,(hb.cell hlt).trans h4,(hb.cell hlt).trans h5,(hb.cell hlt).trans h6⟩
theorem keepC {B w w':World} {g:Nat} {v0 v1 v2 v3 v4 v5 v6:Value} (hb:Below w.drew.heap.size w.drew w') (hB:Below B.heap.size B w) (h0:w.cell? ⟨g,0,none⟩=some v0) (h1:w.cell? ⟨g,1,none⟩=some v1) (h2:w.cell? ⟨g,2,none⟩=some v2) (h3:w.cell? ⟨g,3,none⟩=some v3)
  (h4:w.cell? ⟨g,4,none⟩=some v4) (h5:w.cell? ⟨g,5,none⟩=some v5) (h6:w.cell? ⟨g,6,none⟩=some v6) :
  Below B.heap.size B w'∧w'.cell? ⟨g,0,none⟩=some v0∧w'.cell? ⟨g,1,none⟩=some v1∧w'.cell? ⟨g,2,none⟩=some v2∧w'.cell? ⟨g,3,none⟩=some v3∧w'.cell? ⟨g,4,none⟩=some v4∧w'.cell? ⟨g,5,none⟩=some v5∧w'.cell? ⟨g,6,none⟩=some v6 :=
 keepB hb (below_drewN hB 1) h0 h1 h2 h3 h4 h5 h6
theorem eql_row (s:ByteArray) (f b c r o i r' o' i':Int) (w:World):(binOp .eql 159 (.agg #[.string s,.int .i64 f,.int .i64 b,.int .u8 c,.int .i64 r',.int .i64 o',.int .i64 i']) (.agg #[.string s,.int .i64 f,.int .i64 b,.int .u8 c,.int .i64 r,.int .i64 o,.int .i64 i])).run Tryz.prog w =
  .ok (.bool ((r'==r) && (o'==o) && (i'==i))) w:=by
 have hp:Tryz.prog.stoodInHeld 159=false:=by kernel_rfl
 have a9:∀ w,(isAgg 9).run Tryz.prog w=.ok false w:=fun w=>by kernel_rfl
 have a3:∀ w,(isAgg 3).run Tryz.prog w=.ok false w:=fun w=>by kernel_rfl
 have a5:∀ w,(isAgg 5).run Tryz.prog w=.ok false w:=fun w=>by kernel_rfl
 simp [go_sem,hp,Tryz.underlying159,Tryz.underlying9,Tryz.underlying3,Tryz.underlying5,part,a9,a3,a5]
 cases e1:(r'==r) <;> cases e2:(o'==o) <;> cases e3:(i'==i) <;> simp_all
theorem hit_is {code src off imm:Int} {k:Nat} {s:ByteArray} {f b c r o i:Int} {t b8 bc sm:Bool} (h:Is k s f b c r o i) (ht:isR f=t) (h8:(code==(c+8) % 256)=b8) (hc:(code==c)=bc)
  (hs:((wiR f src r==r) && (wiO f off o==o) && (wiI f imm i==i))=sm) {n:Nat} {R:Int × Bool × Bool} (hR:idF code src off imm (n+1) k=R) :
  R=if ((t && b8) || bc) && sm then ((k:Int),(t && b8),true) else idF code src off imm n (k+1):=by
 obtain⟨rfl,rfl,rfl,rfl,rfl,rfl,rfl⟩:=h
 subst ht h8 hc hs
 exact hR.symm
theorem ident_any (code src off imm:Int) (w:World):Calls Tryz.prog 128 #[.int .u8 code,.int .i64 src,.int .i64 off,.int .i64 imm] w fun e w' =>
  e=.returned (.tuple #[.int .i64 (idF code src off imm 86 0).1,.bool (idF code src off imm 86 0).2.1,.bool (idF code src off imm 86 0).2.2])∧Below w.heap.size w w':=by
 obtain⟨R,hR⟩:∃ R,idF code src off imm 86 0=R:=⟨_,rfl⟩
 have HR:=Lib.hid hR
 rw [hR]
 clear hR
 go_enter Tryz.func128,Tryz.ntmps128
 go_wp2
 go_loopw [14] (fun i wr=>∃ k:Nat,k≤86∧i=.int .i64 k∧Below w.heap.size w wr∧Hid (idF code src off imm (86-k) k=R)) (fun i _=>86-(intOf i).toNat)
 case atStart=>exact⟨0,by omega,rfl,Below.refl _ _,HR⟩
 case round =>
  obtain⟨k,hk,rfl,hnx,hQ⟩:=hrel
  by_cases hlt:k<86
  ·obtain⟨s,f,b,c,r,o,i,hI⟩:=Is.some k
   obtain⟨t,ht⟩:∃ t,isR f=t:=⟨_,rfl⟩
   obtain⟨b8,h8⟩:∃ b8,(code==(c+8) % 256)=b8:=⟨_,rfl⟩
   obtain⟨bc,hbc⟩:∃ bc,(code==c)=bc:=⟨_,rfl⟩
   obtain⟨sm,hsm⟩:∃ sm,((wiR f src r==r) && (wiO f off o==o) && (wiI f imm i==i))=sm:=⟨_,rfl⟩
   have HI:Hid (Is (ix (k:Int)) s f b c r o i):=Lib.hid (by rw [ix_nat hlt];exact hI)
   have HK:Hid (decide (ix (k:Int)<86)=true):=Lib.hid (by rw [ix_nat hlt];exact decide_eq_true hlt)
   have HT:=Lib.hid ht
   have HL:=Lib.hid hlt
   have HG:=Lib.hid (hit_is hI ht h8 hbc hsm (n:=86-(k+1)) (R:=R) (by rw [← hQ.out,show 86-k=86-(k+1)+1 by omega]))
   clear hI ht
   obtain⟨r',hr'⟩:∃ r',wiR f src r=r':=⟨_,rfl⟩
   obtain⟨o',ho'⟩:∃ o',wiO f off o=o':=⟨_,rfl⟩
   obtain⟨i',hi'⟩:∃ i',wiI f imm i=i':=⟨_,rfl⟩
   rw [hr',ho',hi'] at hsm
   have hq:∀ w:World,(binOp .eql 159 (.agg #[.string s,.int .i64 f,.int .i64 b,.int .u8 c,.int .i64 r',.int .i64 o',.int .i64 i']) (.agg #[.string s,.int .i64 f,.int .i64 b,.int .u8 c,.int .i64 r,.int .i64 o,.int .i64 i])).run Tryz.prog w=.ok (.bool sm) w:=fun w=>by rw [eql_row,hsm]
   have HR':=Lib.hid hr'
   have HO':=Lib.hid ho'
   have HI':=Lib.hid hi'
   clear hr' ho' hi' hsm
   cases t
   ·clear h8
    cases bc
    ·have HN:Hid (idF code src off imm (86-(k+1)) (k+1)=R):=Lib.hid (by rw [HG.out];rfl)
     go_wp2_with (first|(go_at_call 98;((with_reducible refine (at_is (k:Int) _ HI.out HK.out).mono ?_);rintro e w1 ⟨rfl,hb1⟩))|(go_at_call 142;((with_reducible refine (takes_at _ _ _ _ _ _ _ _ _ HT.out).mono ?_);rintro e w2 ⟨rfl,rfl⟩)))
     go_quiet (fail)
     go_wp2
     go_roundw
     case rel=>exact⟨k+1,HL.out,by go_num,below_drewN (bch (bch hnx hb1) (bch (bnew _ _) (bnew _ _))) _,HN⟩
     case measure=>simp [intOf];omega
    ·go_wp2_with (first|(go_at_call 98;((with_reducible refine (at_is (k:Int) _ HI.out HK.out).mono ?_);rintro e w1 ⟨rfl,hb1⟩))|(go_at_call 142;((with_reducible refine (takes_at _ _ _ _ _ _ _ _ _ HT.out).mono ?_);rintro e w2 ⟨rfl,rfl⟩)))
     generalize hW:World.alloc _ _=W
     have hb2:Below w.heap.size w W:=by rw [← hW];exact bch (bch hnx hb1) (bch (bnew _ _) (bnew _ _))
     have hc:∀ j v,#[Value.string s,Value.int .i64 f,Value.int .i64 b,Value.int .u8 c,Value.int .i64 r,Value.int .i64 o,Value.int .i64 i][j]?=some v→W.cell? ⟨w1.heap.size,j,none⟩=some v:=by
      intro j v hj
      rw [← hW]
      refine (World.cell?_alloc_past _ _ _ (by simp)).trans ((World.cell?_alloc_at _ _ _ _ rfl).trans ?_)
      exact hj
     have h0:W.cell? ⟨w1.heap.size,0,none⟩=some (.string s):=hc 0 _ rfl
     have h1:W.cell? ⟨w1.heap.size,1,none⟩=some (.int .i64 f):=hc 1 _ rfl
     have h2:W.cell? ⟨w1.heap.size,2,none⟩=some (.int .i64 b):=hc 2 _ rfl
     have h3:W.cell? ⟨w1.heap.size,3,none⟩=some (.int .u8 c):=hc 3 _ rfl
     have h4:W.cell? ⟨w1.heap.size,4,none⟩=some (.int .i64 r):=hc 4 _ rfl
     have h5:W.cell? ⟨w1.heap.size,5,none⟩=some (.int .i64 o):=hc 5 _ rfl
     have h6:W.cell? ⟨w1.heap.size,6,none⟩=some (.int .i64 i):=hc 6 _ rfl
     obtain⟨g,hg⟩:∃ g,g=w1.heap.size:=⟨_,rfl⟩
     rw [← hg] at h0 h1 h2 h3 h4 h5 h6 ⊢
     have hbW:Below W.heap.size W W:=Below.refl _ _
     clear hc hW hb1 hg
     go_region_held3 (fun w'=>Below W.heap.size W w'∧w'.cell? ⟨g,0,none⟩=some (.string s)∧w'.cell? ⟨g,1,none⟩=some (.int .i64 f)∧w'.cell? ⟨g,2,none⟩=some (.int .i64 b)∧w'.cell? ⟨g,3,none⟩=some (.int .u8 c)∧w'.cell? ⟨g,4,none⟩=some (.int .i64 r)∧w'.cell? ⟨g,5,none⟩=some (.int .i64 o)∧w'.cell? ⟨g,6,none⟩=some (.int .i64 i)) (first|exact keepD (by assumption) (by assumption) (by assumption) (by assumption) (by assumption) (by assumption) (by assumption) (by assumption)|exact keepC hb3 (by assumption) (by assumption) (by assumption) (by assumption) (by assumption) (by assumption) (by assumption) (by assumption)|exact keepB hb3 (by assumption) (by assumption) (by assumption) (by assumption) (by assumption) (by assumption) (by assumption) (by assumption))
      (first|(go_at_call 174;((with_reducible refine (with_at _ _ _ _ _ _ _ _ _ _ _ _ _ _ HR'.out HO'.out HI'.out).mono ?_);rintro e w3 ⟨rfl,hb3⟩)))
     rename_i hh
     have hb4:=bch hb2 hh.1
     clear hh hb3 h0 h1 h2 h3 h4 h5 h6 hbW
     cases sm
     ·have HN:Hid (idF code src off imm (86-(k+1)) (k+1)=R):=Lib.hid (by rw [HG.out];rfl)
      go_wp2
      go_roundw
      case rel=>exact⟨k+1,HL.out,by go_num,hb4,HN⟩
      case measure=>simp [intOf];omega
     ·go_wp2
      go_ret3
      exact⟨by rw [HG.out] <;> rfl,hb4⟩
   ·cases b8
    ·cases bc
     ·have HN:Hid (idF code src off imm (86-(k+1)) (k+1)=R):=Lib.hid (by rw [HG.out];rfl)
      go_wp2_with (first|(go_at_call 98;((with_reducible refine (at_is (k:Int) _ HI.out HK.out).mono ?_);rintro e w1 ⟨rfl,hb1⟩))|(go_at_call 142;((with_reducible refine (takes_at _ _ _ _ _ _ _ _ _ HT.out).mono ?_);rintro e w2 ⟨rfl,rfl⟩)))
      go_quiet (fail)
      go_wp2
      go_roundw
      case rel=>exact⟨k+1,HL.out,by go_num,below_drewN (bch (bch hnx hb1) (bch (bnew _ _) (bnew _ _))) _,HN⟩
      case measure=>simp [intOf];omega
     ·go_wp2_with (first|(go_at_call 98;((with_reducible refine (at_is (k:Int) _ HI.out HK.out).mono ?_);rintro e w1 ⟨rfl,hb1⟩))|(go_at_call 142;((with_reducible refine (takes_at _ _ _ _ _ _ _ _ _ HT.out).mono ?_);rintro e w2 ⟨rfl,rfl⟩)))
      generalize hW:World.alloc _ _=W
      have hb2:Below w.heap.size w W:=by rw [← hW];exact bch (bch hnx hb1) (bch (bnew _ _) (bnew _ _))
      have hc:∀ j v,#[Value.string s,Value.int .i64 f,Value.int .i64 b,Value.int .u8 c,Value.int .i64 r,Value.int .i64 o,Value.int .i64 i][j]?=some v→W.cell? ⟨w1.heap.size,j,none⟩=some v:=by
       intro j v hj
       rw [← hW]
       refine (World.cell?_alloc_past _ _ _ (by simp)).trans ((World.cell?_alloc_at _ _ _ _ rfl).trans ?_)
       exact hj
      have h0:W.cell? ⟨w1.heap.size,0,none⟩=some (.string s):=hc 0 _ rfl
      have h1:W.cell? ⟨w1.heap.size,1,none⟩=some (.int .i64 f):=hc 1 _ rfl
      have h2:W.cell? ⟨w1.heap.size,2,none⟩=some (.int .i64 b):=hc 2 _ rfl
      have h3:W.cell? ⟨w1.heap.size,3,none⟩=some (.int .u8 c):=hc 3 _ rfl
      have h4:W.cell? ⟨w1.heap.size,4,none⟩=some (.int .i64 r):=hc 4 _ rfl
      have h5:W.cell? ⟨w1.heap.size,5,none⟩=some (.int .i64 o):=hc 5 _ rfl
      have h6:W.cell? ⟨w1.heap.size,6,none⟩=some (.int .i64 i):=hc 6 _ rfl
      obtain⟨g,hg⟩:∃ g,g=w1.heap.size:=⟨_,rfl⟩
      rw [← hg] at h0 h1 h2 h3 h4 h5 h6 ⊢
      have hbW:Below W.heap.size W W:=Below.refl _ _
      clear hc hW hb1 hg
      go_region_held3 (fun w'=>Below W.heap.size W w'∧w'.cell? ⟨g,0,none⟩=some (.string s)∧w'.cell? ⟨g,1,none⟩=some (.int .i64 f)∧w'.cell? ⟨g,2,none⟩=some (.int .i64 b)∧w'.cell? ⟨g,3,none⟩=some (.int .u8 c)∧w'.cell? ⟨g,4,none⟩=some (.int .i64 r)∧w'.cell? ⟨g,5,none⟩=some (.int .i64 o)∧w'.cell? ⟨g,6,none⟩=some (.int .i64 i)) (first|exact keepD (by assumption) (by assumption) (by assumption) (by assumption) (by assumption) (by assumption) (by assumption) (by assumption)|exact keepC hb3 (by assumption) (by assumption) (by assumption) (by assumption) (by assumption) (by assumption) (by assumption) (by assumption)|exact keepB hb3 (by assumption) (by assumption) (by assumption) (by assumption) (by assumption) (by assumption) (by assumption) (by assumption))
       (first|(go_at_call 174;((with_reducible refine (with_at _ _ _ _ _ _ _ _ _ _ _ _ _ _ HR'.out HO'.out HI'.out).mono ?_);rintro e w3 ⟨rfl,hb3⟩)))
      rename_i hh
      have hb4:=bch hb2 hh.1
      clear hh hb3 h0 h1 h2 h3 h4 h5 h6 hbW
      cases sm
      ·have HN:Hid (idF code src off imm (86-(k+1)) (k+1)=R):=Lib.hid (by rw [HG.out];rfl)
       go_wp2
       go_roundw
       case rel=>exact⟨k+1,HL.out,by go_num,hb4,HN⟩
       case measure=>simp [intOf];omega
      ·go_wp2
       go_ret3
       exact⟨by rw [HG.out] <;> rfl,hb4⟩
    ·go_wp2_with (first|(go_at_call 98;((with_reducible refine (at_is (k:Int) _ HI.out HK.out).mono ?_);rintro e w1 ⟨rfl,hb1⟩))|(go_at_call 142;((with_reducible refine (takes_at _ _ _ _ _ _ _ _ _ HT.out).mono ?_);rintro e w2 ⟨rfl,rfl⟩)))
     generalize hW:World.alloc _ _=W
     have hb2:Below w.heap.size w W:=by rw [← hW];exact bch (bch hnx hb1) (bch (bnew _ _) (bnew _ _))
     have hc:∀ j v,#[Value.string s,Value.int .i64 f,Value.int .i64 b,Value.int .u8 c,Value.int .i64 r,Value.int .i64 o,Value.int .i64 i][j]?=some v→W.cell? ⟨w1.heap.size,j,none⟩=some v:=by
      intro j v hj
      rw [← hW]
      refine (World.cell?_alloc_past _ _ _ (by simp)).trans ((World.cell?_alloc_at _ _ _ _ rfl).trans ?_)
      exact hj
     have h0:W.cell? ⟨w1.heap.size,0,none⟩=some (.string s):=hc 0 _ rfl
     have h1:W.cell? ⟨w1.heap.size,1,none⟩=some (.int .i64 f):=hc 1 _ rfl
     have h2:W.cell? ⟨w1.heap.size,2,none⟩=some (.int .i64 b):=hc 2 _ rfl
     have h3:W.cell? ⟨w1.heap.size,3,none⟩=some (.int .u8 c):=hc 3 _ rfl
     have h4:W.cell? ⟨w1.heap.size,4,none⟩=some (.int .i64 r):=hc 4 _ rfl
     have h5:W.cell? ⟨w1.heap.size,5,none⟩=some (.int .i64 o):=hc 5 _ rfl
     have h6:W.cell? ⟨w1.heap.size,6,none⟩=some (.int .i64 i):=hc 6 _ rfl
     obtain⟨g,hg⟩:∃ g,g=w1.heap.size:=⟨_,rfl⟩
     rw [← hg] at h0 h1 h2 h3 h4 h5 h6 ⊢
     have hbW:Below W.heap.size W W:=Below.refl _ _
     clear hc hW hb1 hg
     refine wp_region_held_drew (S:=(fun w'=>Below W.heap.size W w'∧w'.cell? ⟨g,0,none⟩=some (.string s)∧w'.cell? ⟨g,1,none⟩=some (.int .i64 f)∧w'.cell? ⟨g,2,none⟩=some (.int .i64 b)∧w'.cell? ⟨g,3,none⟩=some (.int .u8 c)∧w'.cell? ⟨g,4,none⟩=some (.int .i64 r)∧w'.cell? ⟨g,5,none⟩=some (.int .i64 o)∧w'.cell? ⟨g,6,none⟩=some (.int .i64 i))) (by kernel_rfl) (keepD hbW h0 h1 h2 h3 h4 h5 h6) (fun hH=>?_)
     refine wpAnyH_take (i:=0) (oi:=⟨some 31,.move (.tmp 9),_,_,_,none⟩) (v:=.bool true) rfl (by kernel_rfl) (by kernel_rfl) (by kernel_rfl) (fun _ _ _ h=>h) (Or.inl ⟨by rfl,fun wS hS=>by rfl⟩) hH ?_
     simp only [Act.put,zA,zB,zC]
     refine wpAnyH_take (i:=1) (oi:=⟨some 32,.move (.tmp 31),_,_,_,none⟩) (v:=.bool true) rfl (by kernel_rfl) (by kernel_rfl) (by kernel_rfl) (fun _ _ _ h=>h) (Or.inl ⟨by rfl,fun wS hS=>by rfl⟩) hH ?_
     simp only [Act.put,zA,zB,zC]
     refine wpAnyH_take (i:=2) (oi:=⟨some 33,.move (.tmp 0),_,_,_,some (1,false)⟩) (v:=undef) rfl (by kernel_rfl) (by kernel_rfl) (by kernel_rfl) (fun _ _ _ h=>h) (Or.inr ⟨by rfl,rfl⟩) hH ?_
     simp only [Act.put,zA,zB,zC]
     refine wpAnyH_take (i:=3) (oi:=⟨some 34,.fieldAddr 159 (.tmp 12) 3,_,_,_,some (1,false)⟩) (v:=undef) rfl (by kernel_rfl) (by kernel_rfl) (by kernel_rfl) (fun _ _ _ h=>h) (Or.inr ⟨by rfl,rfl⟩) hH ?_
     simp only [Act.put,zA,zB,zC]
     refine wpAnyH_take (i:=4) (oi:=⟨some 35,.load 5 (.tmp 34),_,_,_,some (1,false)⟩) (v:=undef) rfl (by kernel_rfl) (by kernel_rfl) (by kernel_rfl) (fun _ _ _ h=>h) (Or.inr ⟨by rfl,rfl⟩) hH ?_
     simp only [Act.put,zA,zB,zC]
     refine wpAnyH_take (i:=5) (oi:=⟨some 36,.binOp .eql 5 (.tmp 33) (.tmp 35) 5,_,_,_,some (1,false)⟩) (v:=undef) rfl (by kernel_rfl) (by kernel_rfl) (by kernel_rfl) (fun _ _ _ h=>h) (Or.inr ⟨by rfl,rfl⟩) hH ?_
     simp only [Act.put,zA,zB,zC]
     refine wpAnyH_take (i:=6) (oi:=⟨some 37,.pick (.tmp 32) (.const (.bool true)) (.tmp 36),_,_,_,none⟩) (v:=.bool true) rfl (by kernel_rfl) (by kernel_rfl) (by kernel_rfl) (fun _ _ _ h=>h) (Or.inl ⟨by rfl,fun wS hS=>by rfl⟩) hH ?_
     simp only [Act.put,zA,zB,zC]
     refine wpAnyH_take (i:=7) (oi:=⟨some 38,.move (.tmp 37),_,_,_,none⟩) (v:=.bool true) rfl (by kernel_rfl) (by kernel_rfl) (by kernel_rfl) (fun _ _ _ h=>h) (Or.inl ⟨by rfl,fun wS hS=>by rfl⟩) hH ?_
     simp only [Act.put,zA,zB,zC]
     refine wpAnyH_take (i:=8) (oi:=⟨some 39,.load 159 (.tmp 12),_,_,_,some (7,true)⟩) (v:=(.agg #[.string s,.int .i64 f,.int .i64 b,.int .u8 c,.int .i64 r,.int .i64 o,.int .i64 i])) rfl (by kernel_rfl) (by kernel_rfl) (by kernel_rfl) (fun _ _ _ h=>h) (Or.inl ⟨by rfl,fun wS hS=>(by obtain⟨_,k0,k1,k2,k3,k4,k5,k6⟩:=hS;go_simp)⟩) hH ?_
     simp only [Act.put,zA,zB,zC]
     refine wpAnyH_take (i:=9) (oi:=⟨some 40,.move (.tmp 1),_,_,_,some (7,true)⟩) (v:=.int .i64 src) rfl (by kernel_rfl) (by kernel_rfl) (by kernel_rfl) (fun _ _ _ h=>h) (Or.inl ⟨by rfl,fun wS hS=>by rfl⟩) hH ?_
     simp only [Act.put,zA,zB,zC]
     refine wpAnyH_take (i:=10) (oi:=⟨some 41,.move (.tmp 2),_,_,_,some (7,true)⟩) (v:=.int .i64 off) rfl (by kernel_rfl) (by kernel_rfl) (by kernel_rfl) (fun _ _ _ h=>h) (Or.inl ⟨by rfl,fun wS hS=>by rfl⟩) hH ?_
     simp only [Act.put,zA,zB,zC]
     refine wpAnyH_take (i:=11) (oi:=⟨some 42,.move (.tmp 3),_,_,_,some (7,true)⟩) (v:=.int .i64 imm) rfl (by kernel_rfl) (by kernel_rfl) (by kernel_rfl) (fun _ _ _ h=>h) (Or.inl ⟨by rfl,fun wS hS=>by rfl⟩) hH ?_
     simp only [Act.put,zA,zB,zC]
     refine wpAnyH_take (i:=13) (oi:=⟨some 44,.load 159 (.tmp 12),_,_,_,some (7,true)⟩) (v:=(.agg #[.string s,.int .i64 f,.int .i64 b,.int .u8 c,.int .i64 r,.int .i64 o,.int .i64 i])) rfl (by kernel_rfl) (by kernel_rfl) (by kernel_rfl) (fun _ _ _ h=>h) (Or.inl ⟨by rfl,fun wS hS=>(by obtain⟨_,k0,k1,k2,k3,k4,k5,k6⟩:=hS;go_simp)⟩) hH ?_
     simp only [Act.put,zA,zB,zC]
     refine wpAnyH_ready (rs:=[12]) (by kernel_rfl) (by simp) ?_
     refine AllReadyH.cons (o:=⟨some 43,.call ⟨.value (.func 174),#[.tmp 39,.tmp 40,.tmp 41,.tmp 42],#[159,3,3,3]⟩,_,_,_,some (7,true)⟩) rfl (fun K hK=>?_) AllReadyH.nil
     go_simp
     refine (with_at _ _ _ _ _ _ _ _ _ _ _ _ _ _ HR'.out HO'.out HI'.out).mono ?_
     rintro e w3 ⟨rfl,hb3⟩
     refine hK.out _ _ (keepC hb3 hbW h0 h1 h2 h3 h4 h5 h6) (fun hH2=>?_)
     clear hK K hH
     refine wpAnyH_take (i:=14) (oi:=⟨some 45,.binOp .eql 159 (.tmp 43) (.tmp 44) 159,_,_,_,some (7,true)⟩) (v:=.bool sm) rfl (by kernel_rfl) (by kernel_rfl) (by kernel_rfl) (fun _ _ _ h=>h) (Or.inl ⟨by rfl,fun wS hS=>(by go_simp)⟩) hH2 ?_
     simp only [Act.put,zA,zB,zC]
     refine wpAnyH_take (i:=15) (oi:=⟨some 46,.pick (.tmp 38) (.tmp 45) (.const (.bool false)),_,_,_,none⟩) (v:=.bool sm) rfl (by kernel_rfl) (by kernel_rfl) (by kernel_rfl) (fun _ _ _ h=>h) (Or.inl ⟨by rfl,fun wS hS=>by rfl⟩) hH2 ?_
     simp only [Act.put,zA,zB,zC]
     refine wpAnyH_done (by kernel_rfl) ?_ _
     have hb4:=bch hb2 hH2.1
     clear hH2 hb3 h0 h1 h2 h3 h4 h5 h6 hbW
     cases sm
     ·have HN:Hid (idF code src off imm (86-(k+1)) (k+1)=R):=Lib.hid (by rw [HG.out];rfl)
      go_wp2
      go_roundw
      case rel=>exact⟨k+1,HL.out,by go_num,hb4,HN⟩
      case measure=>simp [intOf];omega
     ·go_wp2
      go_ret3
      exact⟨by rw [HG.out] <;> rfl,hb4⟩
  ·go_wp2
   go_ret3
   have hR:idF code src off imm 0 k=R:=by have:=hQ.out;rwa [show 86-k=0 by omega] at this
   exact⟨by rw [← hR] <;> rfl,hnx⟩
end Go.Proofs.YtgljoilddjmohaaGreatDoor.L3
end
