/- Lemmas and walks of L1Uns, L1Parse, L2Names, L2Valid: what each theorem states; conditions stand in each theorem. -/
import Derived.Test.YtdgnjhhieemcaaaGreatDoorM2
import Derived.Lib.ItoaMem
set_option maxHeartbeats 1000000
set_option maxRecDepth 100000
section
namespace Go.Proofs.YtdgnjhhieemcaaaGreatDoor.L1
open Go.RowKit
def dgn (c:UInt8):Nat:=(dg c.toNat).toNat
def rd (base:Nat):List UInt8→Nat→Bool→Option (Nat × Bool)
 | [],v,o=>some (v,o)
 | c::r,v,o=>if dgn c<base then rd base r ((v*base+dgn c) % 18446744073709551616) (o || decide (18446744073709551616≤v*base+dgn c)) else none
theorem cut_at (s p t:ByteArray) (c:Bool) (w:World) (ht:(⟨(Lib.trimPrefix s.data.toList p.data.toList).toArray⟩:ByteArray)=t) (hc:Lib.hasPrefix s.data.toList p.data.toList=c) :
  Calls Tryz.prog 274 #[.string s,.string p] w fun e w'=>e=.returned (.tuple #[.string t,.bool c])∧w=w':=by
 subst ht;subst hc
 exact (Tryz.strings_CutPrefix s p w).mono fun _ _ h=>⟨h.1,h.2.symm⟩
theorem adder_any (base:Nat) (w:World) :
  Calls Tryz.prog 294 #[.int .u64 (base:Int)] w fun e w'=>e=.returned (.func (.func 300) #[] #[.pointer (some ⟨w.heap.size,0,none⟩)])∧w'=w.alloc (.cells #[.int .u64 (base:Int)] 94):=by
 have hmf:∀ (fn:Fn) (first cap:Array Value) (w:World),(Instr.makeFunc fn first cap).run Tryz.prog w=.ok (.func fn first cap) w:=fun _ _ _ _=>rfl
 go_enter Tryz.func294,Tryz.ntmps294
 go_wp2
 go_ret
 exact⟨rfl,rfl⟩
theorem cell_of_two {w:World} {b:Nat} {u v:Value} {t:TypeId} (h:w.heap[b]?=some (.cells #[u,v] t (0,0))):w.cell? ⟨b,0,none⟩=some u∧w.cell? ⟨b,1,none⟩=some v∧w.frozen? ⟨b,0,none⟩=false∧w.frozen? ⟨b,1,none⟩=false:=by
 simp [World.cell?,World.frozen?,h]
theorem set_two0 {w:World} {b:Nat} {u v x:Value} {t:TypeId} (h:w.heap[b]?=some (.cells #[u,v] t (0,0))):(w.setCell ⟨b,0,none⟩ x).heap[b]?=some (.cells #[x,v] t (0,0)):=by
 have hlt:=lt_of_block h
 have h':w.heap[b]=.cells #[u,v] t (0,0):=by simpa [Array.getElem?_eq_getElem hlt] using h
 show (w.heap.modify b _)[b]?=_
 rw [Array.getElem?_eq_getElem (by simpa using hlt),Array.getElem_modify_self,h']
 rfl
theorem set_two1 {w:World} {b:Nat} {u v x:Value} {t:TypeId} (h:w.heap[b]?=some (.cells #[u,v] t (0,0))):(w.setCell ⟨b,1,none⟩ x).heap[b]?=some (.cells #[u,x] t (0,0)):=by
 have hlt:=lt_of_block h
 have h':w.heap[b]=.cells #[u,v] t (0,0):=by simpa [Array.getElem?_eq_getElem hlt] using h
 show (w.heap.modify b _)[b]?=_
 rw [Array.getElem?_eq_getElem (by simpa using hlt),Array.getElem_modify_self,h']
 rfl
def unsV (r:Option (Nat × Bool)):Value:=match r with
 | some (v,o)=>.tuple #[.agg #[.int .u64 (v:Int),.bool o],.bool true]
 | none=>.tuple #[.agg #[.int .u64 0,.bool false],.bool false]
def unsR (e:Bool) (r:Option (Nat × Bool)):Value:=unsV (if e then none else r)
structure Head (B kb base:Nat) (t:ByteArray) (w wr:World) (pos v:Nat) (o:Bool):Prop where
 hp:pos≤t.size
 hv:v<18446744073709551616
 it:wr.heap[kb+2]?=some (.stringIter t pos)
 m:wr.heap[kb+1]?=some (.cells #[.int .u64 (v:Int),.bool o] 343 (0,0))
 b:wr.heap[kb]?=some (.cells #[.int .u64 (base:Int)] 94 (0,0))
 r:wr.heap[B]?=some (.cells #[.int .u64 0,.bool false] 343 (0,0))
 bel:Below B w wr
 rest:rd base (t.data.toList.drop pos) v o=rd base t.data.toList 0 false
theorem heap5 (w:World) (a b c d e:Obj):(((((w.alloc a).alloc b).alloc c).alloc d).alloc e).heap[w.heap.size]?=some a∧(((((w.alloc a).alloc b).alloc c).alloc d).alloc e).heap[w.heap.size+1]?=some b ∧
  (((((w.alloc a).alloc b).alloc c).alloc d).alloc e).heap[w.heap.size+2]?=some c∧(((((w.alloc a).alloc b).alloc c).alloc d).alloc e).heap[w.heap.size+3]?=some d∧(((((w.alloc a).alloc b).alloc c).alloc d).alloc e).heap[w.heap.size+4]?=some e:=by
 simp only [World.alloc,Array.getElem?_push,Array.size_push]
 refine⟨?_,?_,?_,?_,?_⟩ <;> (repeat rw [if_neg (by omega)]) <;> simp
theorem dg_high {r:Int} (h:128≤r):dg r=18446744073709551615:=by
 unfold dg
 rw [if_neg (by omega),if_neg (by omega),if_neg (by omega)]
theorem dg_nonneg (r:Int):0≤dg r:=by unfold dg;repeat' split <;> omega
theorem dgn_eq (c:UInt8):dg c.toNat=(dgn c:Int):=by
 unfold dgn;have:=dg_nonneg c.toNat;omega
theorem dg_decode (t:ByteArray) (pos:Nat) (h:pos<t.size):dg (Utf8.decode t pos).1=(dgn t[pos]:Int):=by
 by_cases ha:(t[pos]'h).toNat<128
 ·rw [decode_ascii t pos h ha,dgn_eq]
 ·have:=decode_high t pos h (by omega)
  rw [dg_high (by omega),← dgn_eq,dg_high (by omega)]
theorem decode_one (t:ByteArray) (pos base:Nat) (h:pos<t.size) (hb:base≤16) (hd:dgn t[pos]<base):(Utf8.decode t pos).2=1:=by
 by_cases ha:(t[pos]'h).toNat<128
 ·rw [decode_ascii t pos h ha]
 ·have h1:=dgn_eq t[pos]
  rw [dg_high (by omega)] at h1
  omega
theorem drop_at (t:ByteArray) (pos:Nat) (h:pos<t.size):t.data.toList.drop pos=t[pos]::t.data.toList.drop (pos+1):=by
 rw [List.drop_eq_getElem_cons (by simpa using h)];rfl
theorem uns_hex (s t:ByteArray) (w:World) (ht:(⟨(Lib.trimPrefix s.data.toList [48,120]).toArray⟩:ByteArray)=t) (hp:Lib.hasPrefix s.data.toList [48,120]=true) (e:Bool) (he:t.data.toList.isEmpty=e) :
  Calls Tryz.prog 275 #[.string s] w fun e' w'=>e'=.returned (unsR e (rd 16 t.data.toList 0 false))∧Below w.heap.size w w':=by
 have HT:=Lib.hid ht
 have HP:=Lib.hid hp
 have hte:t.toList.isEmpty=e:=by rw [Lib.toList_data];exact he
 have HN:=Lib.hid he
 clear ht hp he
 go_enter Tryz.func275,Tryz.ntmps275
 go_wp2_with (first|(go_at_call 294;refine (adder_any 10 _).mono ?_;rintro e w' ⟨rfl,rfl⟩)|(go_at_call 274;refine (cut_at _ _ t true _ HT.out HP.out).mono ?_;rintro e w' ⟨rfl,rfl⟩)|(go_at_call 294;refine (adder_any 16 _).mono ?_;rintro e w' ⟨rfl,rfl⟩))
 clear hte
 go_loopw [8] (fun ok wr=>∃ (pos v:Nat) (o:Bool),ok=.bool (!e)∧Head w.heap.size (w.heap.size+2) 16 t w wr pos v o) (fun _ wr=>t.size-wr.iterPos (w.heap.size+4))
 case atStart =>
  refine⟨0,0,false,rfl,⟨Nat.zero_le _,by decide,?_,?_,?_,?_,?_,rfl⟩⟩
  ·exact (heap5 _ _ _ _ _ _).2.2.2.2
  ·exact (heap5 _ _ _ _ _ _).2.2.2.1
  ·exact (heap5 _ _ _ _ _ _).2.2.1
  ·exact (heap5 _ _ _ _ _ _).1
  ·exact ((((((Below.refl _ _).alloc (Nat.le_refl _) _).alloc (by simp) _).alloc (by simp;omega) _).alloc (by simp;omega) _).alloc (by simp;omega) _)
 case round =>
  obtain⟨pos,v,o,rfl,hH⟩:=hrel
  have hbase:=hH.bel.size
  by_cases hlt:pos<t.size
  ·have HF:Hid (e=false):=by
    have h1:=HN.out
    cases e
    ·exact Lib.hid rfl
    ·have h2:t.data.toList.length=0:=by rw [List.isEmpty_iff.1 h1];rfl
     have h3:t.data.size=0:=by rw [← Array.length_toList];exact h2
     have h4:t.size=t.data.size:=rfl
     omega
   obtain⟨W1,hW1⟩:∃ W1,W1=wr.iterAt (w.heap.size+4) t (pos+(Utf8.decode t pos).2):=⟨_,rfl⟩
   have hnx:∀ ty,(Instr.next (.pointer (some ⟨w.heap.size+4,0,none⟩)) true ty).run Tryz.prog wr=.ok (.tuple #[.bool true,.int .i64 pos,.int .i32 (Utf8.decode t pos).1]) W1:=fun ty=>hW1 ▸ Lib.run_next_any_at wr _ t pos ty hH.it hlt
   have hm1:W1.heap[w.heap.size+3]?=some (.cells #[.int .u64 (v:Int),.bool o] 343 (0,0)):=by rw [hW1,Lib.iterAt_other _ _ _ _ _ (by omega)];exact hH.m
   have hb1:W1.heap[w.heap.size+2]?=some (.cells #[.int .u64 (16:Nat)] 94 (0,0)):=by rw [hW1,Lib.iterAt_other _ _ _ _ _ (by omega)];exact hH.b
   have hr1:W1.heap[w.heap.size]?=some (.cells #[.int .u64 0,.bool false] 343 (0,0)):=by rw [hW1,Lib.iterAt_other _ _ _ _ _ (by omega)];exact hH.r
   have hi1:W1.heap[w.heap.size+4]?=some (.stringIter t (pos+(Utf8.decode t pos).2)):=by rw [hW1];exact Lib.iterAt_heap _ _ _ _ _ hH.it
   have hbel1:Below w.heap.size w W1:=by rw [hW1];exact Lib.below_iterAt hH.bel (by omega) _ _
   have hle:=decode_le t pos
   obtain⟨c1,c2,f1,f2⟩:=cell_of_two hm1
   obtain⟨c3,c4,f3,f4⟩:=cell_of_two hr1
   have HM:=Lib.hid hm1
   have HB:=Lib.hid hb1
   have HR:=Lib.hid hr1
   have HI:=Lib.hid hi1
   clear hW1 hm1 hb1 hr1 hi1
   have HD:=Lib.hid (dg_decode t pos hlt)
   have HE:=Lib.hid (drop_at t pos hlt)
   have hl3:w.heap.size+4<W1.heap.size:=lt_of_block HI.out
   by_cases hd:dgn t[pos]<16
   ·have hsz:=hbel1.size
    go_wp2_with (go_at_call 300;refine (add_yes v 16 (dgn t[pos]) o _ _ _ hH.hv (by decide) (by omega) (by omega) HD.out HB.out hd).mono ?_;rintro e w2 ⟨rfl,hb2⟩;obtain⟨d1,d2,g1,g2⟩:=cell_of_two ((hb2.block _ (by omega)).trans HM.out))
    have hdr:=decode_one t pos 16 hlt (by decide) hd
    have hi2:=(hb2.block _ (by omega)).trans HI.out
    have hm2:=(hb2.block _ (by omega)).trans HM.out
    have hbb2:=(hb2.block _ (by omega)).trans HB.out
    have hr2:=(hb2.block _ (by omega)).trans HR.out
    rw [hdr] at hi2
    go_roundw
    case rel =>
     refine⟨pos+1,(v*16+dgn t[pos]) % 18446744073709551616,o || decide (18446744073709551616≤v*16+dgn t[pos]),by rw [HF.out];rfl,⟨by omega,Nat.mod_lt _ (by decide),?_,?_,?_,?_,?_,?_⟩⟩
     ·rw [Below.heap_setCell _ _ _ _ (by simp),Below.heap_setCell _ _ _ _ (by simp)];exact hi2
     ·have:=set_two1 (x:=.bool (o || decide (18446744073709551616≤v*16+dgn t[pos]))) (set_two0 (x:=.int .u64 (((v*16+dgn t[pos]) % 18446744073709551616:Nat):Int)) hm2)
      rw [show (((v*16+dgn t[pos]) % 18446744073709551616:Nat):Int)=((v:Int)*16+(dgn t[pos]:Int)) % 18446744073709551616 by omega] at this
      exact this
     ·rw [Below.heap_setCell _ _ _ _ (by simp),Below.heap_setCell _ _ _ _ (by simp)];exact hbb2
     ·rw [Below.heap_setCell _ _ _ _ (by simp;omega),Below.heap_setCell _ _ _ _ (by simp;omega)];exact hr2
     ·exact ((hbel1.trans (hb2.mono hbel1.size)).setCell (by simp;omega) _).setCell (by simp;omega) _
     ·have hrest:=hH.rest
      rw [HE.out] at hrest
      simp only [rd,if_pos hd] at hrest
      exact hrest
    case measure =>
     rw [iterPos_of hH.it,iterPos_of (s:=t) (p:=pos+1) (by rw [Below.heap_setCell _ _ _ _ (by simp),Below.heap_setCell _ _ _ _ (by simp)];exact hi2)]
     omega
   ·go_wp2_with (go_at_call 300;refine (add_no v 16 (dgn t[pos]) o _ _ _ (by omega) (by omega) HD.out HB.out (by omega)).mono ?_;rintro e w2 ⟨rfl,hb2⟩;obtain⟨d1,d2,g1,g2⟩:=cell_of_two ((hb2.block _ (by omega)).trans HM.out);obtain⟨d3,d4,g3,g4⟩:=cell_of_two ((hb2.block _ (by omega)).trans HR.out))
    have hrest:=hH.rest
    rw [HE.out] at hrest
    simp only [rd,if_neg hd] at hrest
    refine bodyPost_ret (v:=.tuple #[.agg #[.int .u64 0,.bool false],.bool false]) ?_ rfl ⟨by rw [← hrest,HF.out];rfl,?_⟩
    ·simp [results,Tryz.results275,go_sem, *]
    ·exact ((((hbel1.trans (hb2.mono hbel1.size)).setCell (by simp;omega) _).setCell (by simp;omega) _).setCell (by simp) _).setCell (by simp) _
  ·have hnx:∀ ty,(Instr.next (.pointer (some ⟨w.heap.size+4,0,none⟩)) true ty).run Tryz.prog wr=.ok (.tuple #[.bool false]) wr:=fun ty=>Lib.run_next_end_at wr _ t pos ty hH.it hlt
   have hpe:pos=t.size:=by have:=hH.hp;omega
   have hrest:=hH.rest
   rw [List.drop_eq_nil_of_le (by simp;omega)] at hrest
   simp only [rd] at hrest
   have HRE:=Lib.hid hrest
   obtain⟨d1,d2,g1,g2⟩:=cell_of_two hH.m
   obtain⟨d3,d4,g3,g4⟩:=cell_of_two hH.r
   have hb2:=hH.bel
   clear hrest hH hpe
   go_wp2
   refine bodyPost_ret (v:=.tuple #[.agg #[.int .u64 v,.bool o],.bool (!e)]) ?_ rfl ⟨?_,?_⟩
   ·simp [results,Tryz.results275,go_sem, *]
   ·have h1:=HRE.out
    have h2:=HN.out
    cases e
    ·rw [← h1];rfl
    ·simp only [List.isEmpty_iff] at h2
     rw [h2] at h1
     simp only [rd,Option.some.injEq,Prod.mk.injEq] at h1
     obtain⟨rfl,rfl⟩:=h1
     rfl
   ·exact ((hb2.setCell (by simp) _).setCell (by simp) _)
theorem heap4 (w:World) (a b c d:Obj):((((w.alloc a).alloc b).alloc c).alloc d).heap[w.heap.size]?=some a∧((((w.alloc a).alloc b).alloc c).alloc d).heap[w.heap.size+1]?=some b ∧
  ((((w.alloc a).alloc b).alloc c).alloc d).heap[w.heap.size+2]?=some c∧((((w.alloc a).alloc b).alloc c).alloc d).heap[w.heap.size+3]?=some d:=by
 simp only [World.alloc,Array.getElem?_push,Array.size_push]
 refine⟨?_,?_,?_,?_⟩ <;> (repeat rw [if_neg (by omega)]) <;> simp
theorem uns_dec (t u:ByteArray) (w:World) (ht:(⟨(Lib.trimPrefix t.data.toList [48,120]).toArray⟩:ByteArray)=u) (hp:Lib.hasPrefix t.data.toList [48,120]=false) (e:Bool) (he:t.data.toList.isEmpty=e) :
  Calls Tryz.prog 275 #[.string t] w fun e' w'=>e'=.returned (unsR e (rd 10 t.data.toList 0 false))∧Below w.heap.size w w':=by
 have HT:=Lib.hid ht
 have HP:=Lib.hid hp
 have hte:t.toList.isEmpty=e:=by rw [Lib.toList_data];exact he
 have HN:=Lib.hid he
 clear ht hp he
 go_enter Tryz.func275,Tryz.ntmps275
 go_wp2_with (first|(go_at_call 294;refine (adder_any 10 _).mono ?_;rintro e w' ⟨rfl,rfl⟩)|(go_at_call 274;refine (cut_at _ _ u false _ HT.out HP.out).mono ?_;rintro e w' ⟨rfl,rfl⟩))
 clear hte
 go_loopw [8] (fun ok wr=>∃ (pos v:Nat) (o:Bool),ok=.bool (!e)∧Head w.heap.size (w.heap.size+1) 10 t w wr pos v o) (fun _ wr=>t.size-wr.iterPos (w.heap.size+3))
 case atStart =>
  refine⟨0,0,false,rfl,⟨Nat.zero_le _,by decide,?_,?_,?_,?_,?_,rfl⟩⟩
  ·exact (heap4 _ _ _ _ _).2.2.2
  ·exact (heap4 _ _ _ _ _).2.2.1
  ·exact (heap4 _ _ _ _ _).2.1
  ·exact (heap4 _ _ _ _ _).1
  ·exact (((((Below.refl _ _).alloc (Nat.le_refl _) _).alloc (by simp) _).alloc (by simp;omega) _).alloc (by simp;omega) _)
 case round =>
  obtain⟨pos,v,o,rfl,hH⟩:=hrel
  have hbase:=hH.bel.size
  by_cases hlt:pos<t.size
  ·have HF:Hid (e=false):=by
    have h1:=HN.out
    cases e
    ·exact Lib.hid rfl
    ·have h2:t.data.toList.length=0:=by rw [List.isEmpty_iff.1 h1];rfl
     have h3:t.data.size=0:=by rw [← Array.length_toList];exact h2
     have h4:t.size=t.data.size:=rfl
     omega
   obtain⟨W1,hW1⟩:∃ W1,W1=wr.iterAt (w.heap.size+3) t (pos+(Utf8.decode t pos).2):=⟨_,rfl⟩
   have hnx:∀ ty,(Instr.next (.pointer (some ⟨w.heap.size+3,0,none⟩)) true ty).run Tryz.prog wr=.ok (.tuple #[.bool true,.int .i64 pos,.int .i32 (Utf8.decode t pos).1]) W1:=fun ty=>hW1 ▸ Lib.run_next_any_at wr _ t pos ty hH.it hlt
   have hm1:W1.heap[w.heap.size+2]?=some (.cells #[.int .u64 (v:Int),.bool o] 343 (0,0)):=by rw [hW1,Lib.iterAt_other _ _ _ _ _ (by omega)];exact hH.m
   have hb1:W1.heap[w.heap.size+1]?=some (.cells #[.int .u64 (10:Nat)] 94 (0,0)):=by rw [hW1,Lib.iterAt_other _ _ _ _ _ (by omega)];exact hH.b
   have hr1:W1.heap[w.heap.size]?=some (.cells #[.int .u64 0,.bool false] 343 (0,0)):=by rw [hW1,Lib.iterAt_other _ _ _ _ _ (by omega)];exact hH.r
   have hi1:W1.heap[w.heap.size+3]?=some (.stringIter t (pos+(Utf8.decode t pos).2)):=by rw [hW1];exact Lib.iterAt_heap _ _ _ _ _ hH.it
   have hbel1:Below w.heap.size w W1:=by rw [hW1];exact Lib.below_iterAt hH.bel (by omega) _ _
   have hle:=decode_le t pos
   obtain⟨c1,c2,f1,f2⟩:=cell_of_two hm1
   obtain⟨c3,c4,f3,f4⟩:=cell_of_two hr1
   have HM:=Lib.hid hm1
   have HB:=Lib.hid hb1
   have HR:=Lib.hid hr1
   have HI:=Lib.hid hi1
   clear hW1 hm1 hb1 hr1 hi1
   have HD:=Lib.hid (dg_decode t pos hlt)
   have HE:=Lib.hid (drop_at t pos hlt)
   have hl3:w.heap.size+3<W1.heap.size:=lt_of_block HI.out
   by_cases hd:dgn t[pos]<10
   ·have hsz:=hbel1.size
    go_wp2_with (go_at_call 300;refine (add_yes v 10 (dgn t[pos]) o _ _ _ hH.hv (by decide) (by omega) (by omega) HD.out HB.out hd).mono ?_;rintro e w2 ⟨rfl,hb2⟩;obtain⟨d1,d2,g1,g2⟩:=cell_of_two ((hb2.block _ (by omega)).trans HM.out))
    have hdr:=decode_one t pos 10 hlt (by decide) hd
    have hi2:=(hb2.block _ (by omega)).trans HI.out
    have hm2:=(hb2.block _ (by omega)).trans HM.out
    have hbb2:=(hb2.block _ (by omega)).trans HB.out
    have hr2:=(hb2.block _ (by omega)).trans HR.out
    rw [hdr] at hi2
    go_roundw
    case rel =>
     refine⟨pos+1,(v*10+dgn t[pos]) % 18446744073709551616,o || decide (18446744073709551616≤v*10+dgn t[pos]),by rw [HF.out];rfl,⟨by omega,Nat.mod_lt _ (by decide),?_,?_,?_,?_,?_,?_⟩⟩
     ·rw [Below.heap_setCell _ _ _ _ (by simp),Below.heap_setCell _ _ _ _ (by simp)];exact hi2
     ·have:=set_two1 (x:=.bool (o || decide (18446744073709551616≤v*10+dgn t[pos]))) (set_two0 (x:=.int .u64 (((v*10+dgn t[pos]) % 18446744073709551616:Nat):Int)) hm2)
      rw [show (((v*10+dgn t[pos]) % 18446744073709551616:Nat):Int)=((v:Int)*10+(dgn t[pos]:Int)) % 18446744073709551616 by omega] at this
      exact this
     ·rw [Below.heap_setCell _ _ _ _ (by simp),Below.heap_setCell _ _ _ _ (by simp)];exact hbb2
     ·rw [Below.heap_setCell _ _ _ _ (by simp;omega),Below.heap_setCell _ _ _ _ (by simp;omega)];exact hr2
     ·exact ((hbel1.trans (hb2.mono hbel1.size)).setCell (by simp;omega) _).setCell (by simp;omega) _
     ·have hrest:=hH.rest
      rw [HE.out] at hrest
      simp only [rd,if_pos hd] at hrest
      exact hrest
    case measure =>
     rw [iterPos_of hH.it,iterPos_of (s:=t) (p:=pos+1) (by rw [Below.heap_setCell _ _ _ _ (by simp),Below.heap_setCell _ _ _ _ (by simp)];exact hi2)]
     omega
   ·go_wp2_with (go_at_call 300;refine (add_no v 10 (dgn t[pos]) o _ _ _ (by omega) (by omega) HD.out HB.out (by omega)).mono ?_;rintro e w2 ⟨rfl,hb2⟩;obtain⟨d1,d2,g1,g2⟩:=cell_of_two ((hb2.block _ (by omega)).trans HM.out);obtain⟨d3,d4,g3,g4⟩:=cell_of_two ((hb2.block _ (by omega)).trans HR.out))
    have hrest:=hH.rest
    rw [HE.out] at hrest
    simp only [rd,if_neg hd] at hrest
    refine bodyPost_ret (v:=.tuple #[.agg #[.int .u64 0,.bool false],.bool false]) ?_ rfl ⟨by rw [← hrest,HF.out];rfl,?_⟩
    ·simp [results,Tryz.results275,go_sem, *]
    ·exact ((((hbel1.trans (hb2.mono hbel1.size)).setCell (by simp;omega) _).setCell (by simp;omega) _).setCell (by simp) _).setCell (by simp) _
  ·have hnx:∀ ty,(Instr.next (.pointer (some ⟨w.heap.size+3,0,none⟩)) true ty).run Tryz.prog wr=.ok (.tuple #[.bool false]) wr:=fun ty=>Lib.run_next_end_at wr _ t pos ty hH.it hlt
   have hpe:pos=t.size:=by have:=hH.hp;omega
   have hrest:=hH.rest
   rw [List.drop_eq_nil_of_le (by simp;omega)] at hrest
   simp only [rd] at hrest
   have HRE:=Lib.hid hrest
   obtain⟨d1,d2,g1,g2⟩:=cell_of_two hH.m
   obtain⟨d3,d4,g3,g4⟩:=cell_of_two hH.r
   have hb2:=hH.bel
   clear hrest hH hpe
   go_wp2
   refine bodyPost_ret (v:=.tuple #[.agg #[.int .u64 v,.bool o],.bool (!e)]) ?_ rfl ⟨?_,?_⟩
   ·simp [results,Tryz.results275,go_sem, *]
   ·have h1:=HRE.out
    have h2:=HN.out
    cases e
    ·rw [← h1];rfl
    ·simp only [List.isEmpty_iff] at h2
     rw [h2] at h1
     simp only [rd,Option.some.injEq,Prod.mk.injEq] at h1
     obtain⟨rfl,rfl⟩:=h1
     rfl
   ·exact ((hb2.setCell (by simp) _).setCell (by simp) _)
def us (l:List UInt8):Option (Nat × Bool) :=
 if Lib.hasPrefix l [48,120] then (if (l.drop 2).isEmpty then none else rd 16 (l.drop 2) 0 false) else if l.isEmpty then none else rd 10 l 0 false
theorem unsigned_any (s:ByteArray) (w:World) :
  Calls Tryz.prog 275 #[.string s] w fun e w'=>e=.returned (unsV (us s.data.toList))∧Below w.heap.size w w':=by
 cases hp:Lib.hasPrefix s.data.toList [48,120]
 ·have:=uns_dec s _ w rfl hp _ rfl
  simpa [us,hp,unsR] using this
 ·have ht:Lib.trimPrefix s.data.toList [48,120]=s.data.toList.drop 2:=by simp [Lib.trimPrefix,hp]
  have:=uns_hex s ⟨(s.data.toList.drop 2).toArray⟩ w (by rw [ht]) hp _ rfl
  simpa [us,hp,unsR] using this
theorem Wid.lt {w:World} (h:Wid w):0<w.heap.size:=by
 obtain⟨t,fr,h⟩:=h;exact lt_of_block h
theorem Wid.below {B:Nat} {w w':World} (h:Wid w) (hb:Below B w w') (hB:0<B):Wid w':=by
 obtain⟨t,fr,h⟩:=h;exact⟨t,fr,(hb.block 0 hB).trans h⟩
theorem Wid.alloc {w:World} (h:Wid w) (o:Obj):Wid (w.alloc o):=h.below ((Below.refl _ _).alloc (Nat.le_refl _) o) h.lt
theorem Calls.turn {P:Program} {f:FuncId} {args:Array Value} {w:World} {v:Value} (h:Calls P f args w fun e w'=>e=.returned v∧w=w'):Calls P f args w fun e w'=>e=.returned v∧w'=w :=
 h.mono fun _ _ h=>⟨h.1,h.2.symm⟩
def ps (l:List UInt8) (b:Int):Int × Int :=
 match us (Lib.trimPrefix l [45]) with
 | none=>(0,3)
 | some (v,o)=>if isW b && (!o && decide ((v:Int)≤gr (Lib.hasPrefix l [45]) b)) then (sx b (if Lib.hasPrefix l [45] then -(v:Int) else v),0) else (0,4)
theorem ret_two {k k':IntKind} {a b c:Int} (h:a=b):Ending.returned (.tuple #[.int k a,.int k' c])=.returned (.tuple #[.int k b,.int k' c]):=by rw [h]
theorem parse_none (s:ByteArray) (b:Int) (w:World) (hu:us (Lib.trimPrefix s.data.toList [45])=none) :
  Calls Tryz.prog 257 #[.string s,.int .i64 b] w fun e w'=>e=.returned (.tuple #[.int .i64 0,.int .i64 3])∧Below w.heap.size w w':=by
 obtain⟨t,ht⟩:∃ t:ByteArray,(⟨(Lib.trimPrefix s.data.toList [45]).toArray⟩:ByteArray)=t:=⟨_,rfl⟩
 obtain⟨c,hc⟩:∃ c:Bool,Lib.hasPrefix s.data.toList [45]=c:=⟨_,rfl⟩
 have hu':us t.data.toList=none:=by rw [← ht];exact hu
 have HT:=Lib.hid ht
 have HC:=Lib.hid hc
 have HU:=Lib.hid hu'
 clear ht hc hu hu'
 go_enter Tryz.func257,Tryz.ntmps257
 go_wp2_with (first|(go_at_call 274;refine (cut_at _ _ t c _ HT.out HC.out).mono ?_;rintro e w' ⟨rfl,rfl⟩)|(go_at_call 275;refine (unsigned_any _ _).mono ?_;rw [HU.out];rintro e w1 ⟨rfl,hb1⟩;unfold unsV))
 go_ret2
 refine⟨rfl,?_⟩
 exact hb1.alloc hb1.size _
theorem parse_nw (s:ByteArray) (b:Int) (w:World) (hw:Wid w) (v:Nat) (o:Bool) (hu:us (Lib.trimPrefix s.data.toList [45])=some (v,o)) (hb:isW b=false) :
  Calls Tryz.prog 257 #[.string s,.int .i64 b] w fun e w'=>e=.returned (.tuple #[.int .i64 0,.int .i64 4])∧Below w.heap.size w w':=by
 obtain⟨t,ht⟩:∃ t:ByteArray,(⟨(Lib.trimPrefix s.data.toList [45]).toArray⟩:ByteArray)=t:=⟨_,rfl⟩
 obtain⟨c,hc⟩:∃ c:Bool,Lib.hasPrefix s.data.toList [45]=c:=⟨_,rfl⟩
 have hu':us t.data.toList=some (v,o):=by rw [← ht];exact hu
 have HT:=Lib.hid ht
 have HC:=Lib.hid hc
 have HU:=Lib.hid hu'
 have HB:=Lib.hid hb
 clear ht hc hu hu' hb
 go_enter Tryz.func257,Tryz.ntmps257
 go_wp2_with (first|(go_at_call 274;refine (cut_at _ _ t c _ HT.out HC.out).mono ?_;rintro e w' ⟨rfl,rfl⟩)|(go_at_call 275;refine (unsigned_any _ _).mono ?_;rw [HU.out];rintro e w1 ⟨rfl,hb1⟩;unfold unsV))
 have hw1:Wid w1:=hw.below hb1 hw.lt
 go_quiet ((go_at_call 230;exact Calls.quiet_of_same (Calls.turn (isWidth_no _ _ (by exact hw1.alloc _) HB.out))))
 go_wp2
 go_ret2
 refine⟨rfl,?_⟩
 exact below_drewN (hb1.alloc hb1.size _) _
theorem parse_over (s:ByteArray) (b:Int) (w:World) (hw:Wid w) (v:Nat) (hu:us (Lib.trimPrefix s.data.toList [45])=some (v,true)) (hb:b=8∨b=16∨b=32∨b=64) :
  Calls Tryz.prog 257 #[.string s,.int .i64 b] w fun e w'=>e=.returned (.tuple #[.int .i64 0,.int .i64 4])∧Below w.heap.size w w':=by
 obtain⟨t,ht⟩:∃ t:ByteArray,(⟨(Lib.trimPrefix s.data.toList [45]).toArray⟩:ByteArray)=t:=⟨_,rfl⟩
 obtain⟨c,hc⟩:∃ c:Bool,Lib.hasPrefix s.data.toList [45]=c:=⟨_,rfl⟩
 have hu':us t.data.toList=some (v,true):=by rw [← ht];exact hu
 have HT:=Lib.hid ht
 have HC:=Lib.hid hc
 have HU:=Lib.hid hu'
 have HB:=Lib.hid hb
 clear ht hc hu hu' hb
 go_enter Tryz.func257,Tryz.ntmps257
 go_wp2_with (first|(go_at_call 274;refine (cut_at _ _ t c _ HT.out HC.out).mono ?_;rintro e w' ⟨rfl,rfl⟩)|(go_at_call 275;refine (unsigned_any _ _).mono ?_;rw [HU.out];rintro e w1 ⟨rfl,hb1⟩;unfold unsV))
 have hw1:Wid w1:=hw.below hb1 hw.lt
 go_quiet ((go_at_call 230;exact Calls.quiet_of_same (Calls.turn (isWidth_yes _ _ (by exact hw1.alloc _) HB.out))))
 go_wp2
 go_ret2
 refine⟨rfl,?_⟩
 exact below_drewN (hb1.alloc hb1.size _) _
theorem parse_big (s:ByteArray) (b:Int) (w:World) (hw:Wid w) (v:Nat) (hu:us (Lib.trimPrefix s.data.toList [45])=some (v,false)) (hb:b=8∨b=16∨b=32∨b=64) (hg:gr (Lib.hasPrefix s.data.toList [45]) b<v) :
  Calls Tryz.prog 257 #[.string s,.int .i64 b] w fun e w'=>e=.returned (.tuple #[.int .i64 0,.int .i64 4])∧Below w.heap.size w w':=by
 obtain⟨t,ht⟩:∃ t:ByteArray,(⟨(Lib.trimPrefix s.data.toList [45]).toArray⟩:ByteArray)=t:=⟨_,rfl⟩
 obtain⟨c,hc⟩:∃ c:Bool,Lib.hasPrefix s.data.toList [45]=c:=⟨_,rfl⟩
 have hu':us t.data.toList=some (v,false):=by rw [← ht];exact hu
 rw [hc] at hg
 have hg':decide (gr c b<(v:Int))=true:=by simpa using hg
 clear hg
 have HT:=Lib.hid ht
 have HC:=Lib.hid hc
 have HU:=Lib.hid hu'
 have HB:=Lib.hid hb
 clear ht hc hu hu' hb
 go_enter Tryz.func257,Tryz.ntmps257
 go_wp2_with (first|(go_at_call 274;refine (cut_at _ _ t c _ HT.out HC.out).mono ?_;rintro e w' ⟨rfl,rfl⟩)|(go_at_call 275;refine (unsigned_any _ _).mono ?_;rw [HU.out];rintro e w1 ⟨rfl,hb1⟩;unfold unsV))
 have hw1:Wid w1:=hw.below hb1 hw.lt
 go_quiet (first|(go_at_call 230;exact Calls.quiet_of_same (Calls.turn (isWidth_yes _ _ (by exact hw1.alloc _) HB.out)))|(go_at_call 276;exact Calls.quiet_of_same (Calls.turn (greatest_any _ _ _ HB.out))))
 go_wp2
 go_ret2
 refine⟨rfl,?_⟩
 exact below_drewN (hb1.alloc hb1.size _) _
theorem rd_lt (base:Nat):∀ (l:List UInt8) (v:Nat) (o:Bool) (v':Nat) (o':Bool),v<18446744073709551616→rd base l v o=some (v',o')→v'<18446744073709551616
 | [],v,o,v',o',h,e=>by
  simp only [rd,Option.some.injEq,Prod.mk.injEq] at e
  omega
 | c::r,v,o,v',o',h,e=>by
  simp only [rd] at e
  split at e
  ·exact rd_lt base r _ _ _ _ (Nat.mod_lt _ (by decide)) e
  ·cases e
theorem us_lt (l:List UInt8) {v:Nat} {o:Bool} (h:us l=some (v,o)):v<18446744073709551616:=by
 unfold us at h
 split at h
 ·split at h
  ·cases h
  ·exact rd_lt _ _ _ _ _ _ (by decide) h
 ·split at h
  ·cases h
  ·exact rd_lt _ _ _ _ _ _ (by decide) h
theorem parse_ok (s:ByteArray) (b:Int) (w:World) (hw:Wid w) (v:Nat) (hu:us (Lib.trimPrefix s.data.toList [45])=some (v,false)) (hb:b=8∨b=16∨b=32∨b=64) (hg:(v:Int)≤gr (Lib.hasPrefix s.data.toList [45]) b) :
  Calls Tryz.prog 257 #[.string s,.int .i64 b] w fun e w'=>e=.returned (.tuple #[.int .i64 (sx b (if Lib.hasPrefix s.data.toList [45] then -(v:Int) else v)),.int .i64 0])∧Below w.heap.size w w':=by
 obtain⟨t,ht⟩:∃ t:ByteArray,(⟨(Lib.trimPrefix s.data.toList [45]).toArray⟩:ByteArray)=t:=⟨_,rfl⟩
 obtain⟨c,hc⟩:∃ c:Bool,Lib.hasPrefix s.data.toList [45]=c:=⟨_,rfl⟩
 have hu':us t.data.toList=some (v,false):=by rw [← ht];exact hu
 rw [hc] at hg
 have hg':decide (gr c b<(v:Int))=false:=by simpa using hg
 clear hg
 have HT:=Lib.hid ht
 have HC:=Lib.hid hc
 have HU:=Lib.hid hu'
 have HB:=Lib.hid hb
 rw [hc]
 have hv:v<18446744073709551616:=us_lt _ hu'
 have hx0:0≤IntKind.u64.wrap (-(v:Int)):=by rw [IntKind.wrap_u64];omega
 have hx1:IntKind.u64.wrap (-(v:Int))<18446744073709551616:=by rw [IntKind.wrap_u64];omega
 clear ht hc hu hu' hb
 cases c
 all_goals
  go_enter Tryz.func257,Tryz.ntmps257
  go_wp2_with (first|(go_at_call 274;refine (cut_at _ _ t _ _ HT.out HC.out).mono ?_;rintro e w' ⟨rfl,rfl⟩)|(go_at_call 275;refine (unsigned_any _ _).mono ?_;rw [HU.out];rintro e w1 ⟨rfl,hb1⟩;unfold unsV))
  have hw1:Wid w1:=hw.below hb1 hw.lt
  go_quiet (first|(go_at_call 230;exact Calls.quiet_of_same (Calls.turn (isWidth_yes _ _ (by exact hw1.alloc _) HB.out)))|(go_at_call 276;exact Calls.quiet_of_same (Calls.turn (greatest_any _ _ _ HB.out))))
  go_wp2_with (go_at_call 231;refine (extend_yes _ _ _ (by omega) (by omega) (by exact hw1.alloc _) HB.out).mono ?_;rintro e w' ⟨rfl,rfl⟩)
  go_ret2
  refine⟨?_,?_⟩
  ·exact ret_two (by first|rfl|(show sx b (IntKind.u64.wrap (-(v:Int)))=sx b (-(v:Int));rw [IntKind.wrap_u64,sx_mod]))
  ·exact below_drewN (hb1.alloc hb1.size _) _
theorem parse_any (s:ByteArray) (b:Int) (w:World) (hw:Wid w) :
  Calls Tryz.prog 257 #[.string s,.int .i64 b] w fun e w'=>e=.returned (.tuple #[.int .i64 (ps s.data.toList b).1,.int .i64 (ps s.data.toList b).2])∧Below w.heap.size w w':=by
 unfold ps
 cases hu:us (Lib.trimPrefix s.data.toList [45]) with
 | none=>exact parse_none s b w hu
 | some r =>
  obtain⟨v,o⟩:=r
  cases hb:isW b with
  | false=>exact parse_nw s b w hw v o hu hb
  | true =>
   cases o with
   | true=>exact parse_over s b w hw v hu (isW_cases hb)
   | false =>
    by_cases hg:(v:Int)≤gr (Lib.hasPrefix s.data.toList [45]) b
    ·have:=parse_ok s b w hw v hu (isW_cases hb) hg
     simpa [hg] using this
    ·have:=parse_big s b w hw v hu (isW_cases hb) (by omega)
     simpa [hg] using this
end Go.Proofs.YtdgnjhhieemcaaaGreatDoor.L1
end
section
namespace Go.Proofs.YtdgnjhhieemcaaaGreatDoor.L2
open Go.RowKit
def regL:List ByteArray:=[⟨#[114,48]⟩,⟨#[114,49]⟩,⟨#[114,50]⟩,⟨#[114,51]⟩,⟨#[114,52]⟩,⟨#[114,53]⟩,⟨#[114,54]⟩,⟨#[114,55]⟩,⟨#[114,56]⟩,⟨#[114,57]⟩,⟨#[114,49,48]⟩]
def regS (k:Nat):ByteArray:=regL.getD k ⟨#[]⟩
abbrev regC:Array Value:=#[.string ⟨#[114,48]⟩,.string ⟨#[114,49]⟩,.string ⟨#[114,50]⟩,.string ⟨#[114,51]⟩,.string ⟨#[114,52]⟩,.string ⟨#[114,53]⟩,.string ⟨#[114,54]⟩,.string ⟨#[114,55]⟩,.string ⟨#[114,56]⟩,.string ⟨#[114,57]⟩,.string ⟨#[114,49,48]⟩]
def Regs (w:World):Prop:=∃ t fr,w.heap[2]?=some (.cells regC t fr)
theorem reg_index (k:Nat) (hk:k<11) (w:World):(Instr.index 339 (.agg regC) (.int .i64 (k:Int))).run Tryz.prog w=.ok (.string (regS k)) w:=by
 rcases (show k=0∨k=1∨k=2∨k=3∨k=4∨k=5∨k=6∨k=7∨k=8∨k=9∨k=10 by omega) with rfl|rfl|rfl|rfl|rfl|rfl|rfl|rfl|rfl|rfl|rfl <;> kernel_rfl
theorem txt_ne {a b:ByteArray} (h:¬ a=b):(a.toList==b.toList)=false:=by
 rw [Lib.toList_data,Lib.toList_data,beq_eq_false_iff_ne]
 intro e
 apply h
 cases a;cases b
 simp only [ByteArray.mk.injEq]
 exact Array.toList_inj.1 e
theorem txt_eq {a b:ByteArray} (h:a=b):(a.toList==b.toList)=true:=by
 rw [h];exact beq_self_eq_true _
def rgFrom:Nat→Nat→ByteArray→Nat × Bool
 | 0,_,_=>(0,false)
 | n+1,k,s=>if regS k=s then (k,true) else rgFrom n (k+1) s
def rg (s:ByteArray):Nat × Bool:=rgFrom 11 0 s
theorem register_any (s:ByteArray) (w:World) (hw:Regs w):Calls Tryz.prog 252 #[.string s] w fun e w'=>e=.returned (.tuple #[.int .i64 ((rg s).1:Int),.bool (rg s).2])∧w=w':=by
 obtain⟨t,fr,hg⟩:=hw
 obtain⟨C,hC⟩:∃ C,C=regC:=⟨_,rfl⟩
 rw [← hC] at hg
 have HC:=Lib.hid hC
 clear hC
 go_enter Tryz.func252,Tryz.ntmps252
 go_wp2_with (refine wpList_load_row rfl 339 _ rfl 2 rfl t _ fr _ hg Tryz.underlying339 rfl (by rw [HC.out];kernel_rfl) ?_)
 go_loop [7] (fun i=>∃ k:Nat,i=.int .i64 k∧k≤11∧Hid (rgFrom (11-k) k s=rg s)) (fun i=>11-(intOf i).toNat)
 case atStart=>exact⟨0,rfl,Nat.zero_le _,Lib.hid rfl⟩
 case round =>
  obtain⟨k,rfl,hk,hR⟩:=hrel
  by_cases hlt:k<11
  ·have hix:∀ w,(Instr.index 339 (.agg C) (.int .i64 (k:Int))).run Tryz.prog w=.ok (.string (regS k)) w:=fun w=>by rw [HC.out];exact reg_index k hlt w
   have hsub:11-k=(11-(k+1))+1:=by omega
   by_cases he:regS k=s
   ·have HR:Hid (rg s=(k,true)):=Lib.hid (by rw [← hR.out,hsub,rgFrom,if_pos he])
    go_wp2
    go_ret2
    exact⟨by rw [HR.out] <;> rfl,rfl⟩
   ·have HR:Hid (rgFrom (11-(k+1)) (k+1) s=rg s):=Lib.hid (by rw [← hR.out,hsub,rgFrom,if_neg he])
    have he2:=txt_ne he
    go_wp2
    go_round
    case rel=>exact⟨k+1,by go_num,by omega,HR⟩
    case measure=>simp [intOf];omega
  ·have HR:Hid (rg s=(0,false)):=Lib.hid (by rw [← hR.out,show 11-k=0 by omega];rfl)
   go_wp2
   go_ret2
   exact⟨by rw [HR.out] <;> rfl,rfl⟩
theorem register_at (s:ByteArray) (n:Int) (b:Bool) (w:World) (hw:Regs w) (h1:((rg s).1:Int)=n) (h2:(rg s).2=b):Calls Tryz.prog 252 #[.string s] w fun e w'=>e=.returned (.tuple #[.int .i64 n,.bool b])∧w=w':=by
 subst h1;subst h2;exact register_any s w hw
end Go.Proofs.YtdgnjhhieemcaaaGreatDoor.L2
end
section
namespace Go.Proofs.YtdgnjhhieemcaaaGreatDoor.L2
open Go.RowKit Go.Sort
theorem Regs.lt {w:World} (h:Regs w):2<w.heap.size:=by
 obtain⟨t,fr,hg⟩:=h
 exact lt_of_block hg
theorem Regs.below {w w':World} (h:Regs w) (hb:Below w.heap.size w w'):Regs w':=by
 have hlt:=h.lt
 obtain⟨t,fr,hg⟩:=h
 exact⟨t,fr,(hb.block 2 hlt).trans hg⟩
def d0:List UInt8→Bool
 | []=>false
 | c::_=>dgt (c.toNat:Int)
def vd (s:ByteArray):Bool:=decide (1≤s.size) && decide (s.size≤32) && !d0 s.data.toList && !(rg s).2 && decide (wn s.data.toList=s.size)
theorem first_at (s:ByteArray) (h:0<s.size):d0 s.data.toList=dgt ((s[0]'h).toNat:Int):=by
 have:=drop_at s 0 h
 rw [List.drop_zero] at this
 rw [this]
 rfl
theorem wrap_byte (c:UInt8):wrap32 (c.toNat:Int)=c.toNat:=by
 have:=c.toNat_lt
 unfold wrap32
 omega
theorem valid_any (s:ByteArray) (w:World) (ht:Regs w):Calls Tryz.prog 218 #[.string s] w fun e w'=>e=.returned (.bool (vd s))∧Below w.heap.size w w':=by
 by_cases h0:s.size=0
 ·have HV:Hid (vd s=false):=Lib.hid (by simp [vd,h0])
  go_enter Tryz.func218,Tryz.ntmps218
  go_wp2
  go_ret
  exact⟨by rw [HV.out] <;> rfl,Below.refl _ _⟩
 ·have hp:0<s.size:=by omega
  by_cases h1:32<s.size
  ·have HV:Hid (vd s=false):=Lib.hid (by
    rw [vd,show decide (s.size≤32)=false from by simp;omega];simp)
   go_enter Tryz.func218,Tryz.ntmps218
   go_wp2
   go_ret
   exact⟨by rw [HV.out] <;> rfl,Below.refl _ _⟩
  ·have e1:decide (1≤s.size)=true:=by simp;omega
   have e2:decide (s.size≤32)=true:=by simp;omega
   have HF:=Lib.hid (first_at s hp)
   have f1:((s.size:Int)==0)=false:=by rw [beq_eq_false_iff_ne];omega
   have f2:decide ((32:Int)<(s.size:Int))=false:=by rw [decide_eq_false_iff_not];omega
   cases hd:dgt ((s[0]'hp).toNat:Int) with
   | true =>
    have HD:Hid (dgt (wrap32 ((s[0]'hp).toNat:Int))=true):=Lib.hid (by rw [wrap_byte];exact hd)
    have HV:Hid (vd s=false):=Lib.hid (by rw [vd,HF.out,hd];simp)
    clear hd e1 e2
    go_enter Tryz.func218,Tryz.ntmps218
    go_wp2_with (go_at_call 251;((with_reducible refine (isDigit_at _ true _ HD.out).mono ?_);rintro e w' ⟨rfl,rfl⟩))
    go_ret
    exact⟨by rw [HV.out] <;> rfl,Below.refl _ _⟩
   | false =>
    have HD:Hid (dgt (wrap32 ((s[0]'hp).toNat:Int))=false):=Lib.hid (by rw [wrap_byte];exact hd)
    obtain⟨n,hn⟩:∃ n:Int,((rg s).1:Int)=n:=⟨_,rfl⟩
    have HG:=Lib.hid hn
    cases hr:(rg s).2 with
    | true =>
     have HR:=Lib.hid hr
     have HV:Hid (vd s=false):=Lib.hid (by rw [vd,hr];simp)
     clear hd hn hr e1 e2
     go_enter Tryz.func218,Tryz.ntmps218
     go_wp2_with (first|(go_at_call 251;((with_reducible refine (isDigit_at _ false _ HD.out).mono ?_);rintro e w' ⟨rfl,rfl⟩))|(go_at_call 252;((with_reducible refine (register_at s n true _ ht HG.out HR.out).mono ?_);rintro e w' ⟨rfl,rfl⟩)))
     go_ret
     exact⟨by rw [HV.out] <;> rfl,Below.refl _ _⟩
    | false =>
     have HR:=Lib.hid hr
     obtain⟨m,hm⟩:∃ m:Nat,m=wn s.data.toList:=⟨_,rfl⟩
     have HM:Hid ((wn s.data.toList:Int)=(m:Int)):=Lib.hid (by rw [hm])
     have HV:Hid (vd s=decide (m=s.size)):=Lib.hid (by rw [vd,hr,HF.out,hd,e1,e2,hm];simp)
     clear hd hn hr hm e1 e2
     by_cases hms:m=s.size
     ·have HV2:Hid (vd s=true):=Lib.hid (by rw [HV.out];simpa using hms)
      go_enter Tryz.func218,Tryz.ntmps218
      go_wp2_with (first|(go_at_call 251;((with_reducible refine (isDigit_at _ false _ HD.out).mono ?_);rintro e w' ⟨rfl,rfl⟩))|(go_at_call 252;((with_reducible refine (register_at s n false _ ht HG.out HR.out).mono ?_);rintro e w' ⟨rfl,rfl⟩))|(go_at_call 224;((with_reducible refine (word_at s m _ HM.out).mono ?_);rintro e w1 ⟨rfl,hb1⟩)))
      go_ret
      exact⟨by rw [HV2.out] <;> rfl,hb1⟩
     ·have HV2:Hid (vd s=false):=Lib.hid (by rw [HV.out];simpa using hms)
      have hne:((m:Int)==(s.size:Int))=false:=by rw [beq_eq_false_iff_ne];omega
      go_enter Tryz.func218,Tryz.ntmps218
      go_wp2_with (first|(go_at_call 251;((with_reducible refine (isDigit_at _ false _ HD.out).mono ?_);rintro e w' ⟨rfl,rfl⟩))|(go_at_call 252;((with_reducible refine (register_at s n false _ ht HG.out HR.out).mono ?_);rintro e w' ⟨rfl,rfl⟩))|(go_at_call 224;((with_reducible refine (word_at s m _ HM.out).mono ?_);rintro e w1 ⟨rfl,hb1⟩)))
      go_ret
      exact⟨by rw [HV2.out] <;> rfl,hb1⟩
theorem valid_at (s:ByteArray) (b:Bool) (w:World) (ht:Regs w) (h:vd s=b):Calls Tryz.prog 218 #[.string s] w fun e w'=>e=.returned (.bool b)∧Below w.heap.size w w':=by
 subst h;exact valid_any s w ht
end Go.Proofs.YtdgnjhhieemcaaaGreatDoor.L2
end
