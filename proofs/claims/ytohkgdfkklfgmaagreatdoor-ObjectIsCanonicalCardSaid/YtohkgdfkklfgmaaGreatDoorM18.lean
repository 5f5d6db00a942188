/- Lemmas and walks of L5Put, L5Fld, L5Le, L5Enc, L5Encm, L5Enca: what each theorem states; conditions stand in each theorem. -/
import Derived.Test.YtohkgdfkklfgmaaGreatDoorL1Base
import Derived.Test.YtohkgdfkklfgmaaGreatDoorM3
import Derived.Deep.RegionHeld3
import Derived.Laws.BitsAllLaws
import Derived.Lib.EndianBits
import Derived.Test.YtohkgdfkklfgmaaGreatDoorM8
import Derived.StillTailTactics
import Derived.IntWalk
import Derived.Deep.DeepCutAuto
import Derived.Laws.CopyOwn
import Derived.Laws.Tables
import Derived.Test.YtohkgdfkklfgmaaGreatDoorL3Idf
import Derived.Deep.OwnRows
import Derived.OwnWalk
section
set_option maxRecDepth 100000
set_option maxHeartbeats 2000000
namespace Go.Proofs.YtohkgdfkklfgmaaGreatDoor.L5
open Go.RowKit L3 L1
theorem put16_at (k o cap:Nat) (x a b:Int) (w:World) (cs:Array Value) (hk:w.heap[k]?=some (.cells cs 5)) (ho:o+2≤cs.size) (ha:x % 256=a) (hb:x / 256 % 256=b) :
  Calls Tryz.prog 117 #[.slice (some ⟨k,o,none⟩) 2 cap,.int .i16 x] w fun e w'=>e=.returned (.tuple #[])∧w'=(w.setCell ⟨k,o,none⟩ (.int .u8 a)).setCell ⟨k,o+1,none⟩ (.int .u8 b):=by
 have c0:w.cell? ⟨k,o,none⟩=some (cs.getD (o) undef):=by simp [World.cell?,hk,show o<cs.size by omega]
 have f0:w.frozen? ⟨k,o,none⟩=false:=by simp [World.frozen?,hk]
 generalize cs.getD (o) undef=u0 at c0
 have c1:w.cell? ⟨k,o+1,none⟩=some (cs.getD (o+1) undef):=by simp [World.cell?,hk,show o+1<cs.size by omega]
 have f1:w.frozen? ⟨k,o+1,none⟩=false:=by simp [World.frozen?,hk]
 generalize cs.getD (o+1) undef=u1 at c1
 have Ha:=Lib.hid ha
 have Hb:=Lib.hid hb
 clear hk ho ha hb
 go_enter Tryz.func117,Tryz.ntmps117
 go_wp2
 refine wp_loop_rounds 3 ?_
 repeat (rw [rounds_succ];go_wp2)
 go_end0
 exact⟨rfl,by rw [Ha.out,Hb.out]⟩
theorem put32_at (k o cap:Nat) (x a b c d:Int) (w:World) (cs:Array Value) (hk:w.heap[k]?=some (.cells cs 5)) (ho:o+4≤cs.size) (ha:x % 256=a) (hb:x / 256 % 256=b) (hc:x / 256 / 256 % 256=c) (hd:x / 256 / 256 / 256 % 256=d) :
  Calls Tryz.prog 118 #[.slice (some ⟨k,o,none⟩) 4 cap,.int .i32 x] w fun e w'=>e=.returned (.tuple #[])∧w'=(((w.setCell ⟨k,o,none⟩ (.int .u8 a)).setCell ⟨k,o+1,none⟩ (.int .u8 b)).setCell ⟨k,o+2,none⟩ (.int .u8 c)).setCell ⟨k,o+3,none⟩ (.int .u8 d):=by
 have c0:w.cell? ⟨k,o,none⟩=some (cs.getD (o) undef):=by simp [World.cell?,hk,show o<cs.size by omega]
 have f0:w.frozen? ⟨k,o,none⟩=false:=by simp [World.frozen?,hk]
 generalize cs.getD (o) undef=u0 at c0
 have c1:w.cell? ⟨k,o+1,none⟩=some (cs.getD (o+1) undef):=by simp [World.cell?,hk,show o+1<cs.size by omega]
 have f1:w.frozen? ⟨k,o+1,none⟩=false:=by simp [World.frozen?,hk]
 generalize cs.getD (o+1) undef=u1 at c1
 have c2:w.cell? ⟨k,o+2,none⟩=some (cs.getD (o+2) undef):=by simp [World.cell?,hk,show o+2<cs.size by omega]
 have f2:w.frozen? ⟨k,o+2,none⟩=false:=by simp [World.frozen?,hk]
 generalize cs.getD (o+2) undef=u2 at c2
 have c3:w.cell? ⟨k,o+3,none⟩=some (cs.getD (o+3) undef):=by simp [World.cell?,hk,show o+3<cs.size by omega]
 have f3:w.frozen? ⟨k,o+3,none⟩=false:=by simp [World.frozen?,hk]
 generalize cs.getD (o+3) undef=u3 at c3
 have Ha:=Lib.hid ha
 have Hb:=Lib.hid hb
 have Hc:=Lib.hid hc
 have Hd:=Lib.hid hd
 clear hk ho ha hb hc hd
 go_enter Tryz.func118,Tryz.ntmps118
 go_wp2
 refine wp_loop_rounds 5 ?_
 repeat (rw [rounds_succ];go_wp2)
 go_end0
 exact⟨rfl,by rw [Ha.out,Hb.out,Hc.out,Hd.out]⟩
theorem extend_is (x y b v:Int) (w:World) (hw:Wid w) (h:x=y) (h0:0≤y) (h1:y<18446744073709551616) (hb:b=8∨b=16∨b=32∨b=64) (hv:sx b y=v) :
  Calls Tryz.prog 148 #[.int .u64 x,.int .i64 b] w fun e w'=>e=.returned (.int .i64 v)∧w=w':=by
 subst h;subst hv
 exact extend_yes x b w h0 h1 hw hb
theorem or2 (a b:UInt8):bits .or .u64 (bits .or .u64 0 (a.toNat:Int)) ((b.toNat:Int)*256)=(a.toNat:Int)*1+(b.toNat:Int)*256:=by
 have ha:=a.toNat_lt
 have hb:=b.toNat_lt
 have e0:bits .or .u64 0 (a.toNat:Int)=(a.toNat:Int):=by rw [u64_or 0 _ (by omega) (by omega) (by omega) (by omega)];simp
 rw [e0,u64_or8 _ _ (by omega) (by omega) (by omega) (by omega) (by omega)]
 omega
theorem or4 (a b c d:UInt8):bits .or .u64 (bits .or .u64 (bits .or .u64 (bits .or .u64 0 (a.toNat:Int)) ((b.toNat:Int)*256)) ((c.toNat:Int)*65536)) ((d.toNat:Int)*16777216)=(a.toNat:Int)*1+(b.toNat:Int)*256+(c.toNat:Int)*65536+(d.toNat:Int)*16777216:=by
 have ha:=a.toNat_lt
 have hb:=b.toNat_lt
 have hc:=c.toNat_lt
 have hd:=d.toNat_lt
 have e2:bits .or .u64 ((a.toNat:Int)*1+(b.toNat:Int)*256) ((c.toNat:Int)*65536)=((a.toNat:Int)*1+(b.toNat:Int)*256)+(c.toNat:Int)*65536:=u64_or16 _ _ (by omega) (by omega) (by omega) (by omega) (by omega)
 rw [or2,e2]
 exact u64_or24 _ _ (by omega) (by omega) (by omega) (by omega) (by omega)
end Go.Proofs.YtohkgdfkklfgmaaGreatDoor.L5
end
section
namespace Go.Proofs.YtohkgdfkklfgmaaGreatDoor.L5
open Go.RowKit L3 L1 L4
structure Eight (w:World) (k o:Nat) (c0 c1 c2 c3 c4 c5 c6 c7:UInt8):Prop where
 a0:w.cell? ⟨k,o,none⟩=some (.int .u8 (c0.toNat:Int))
 a1:w.cell? ⟨k,o+1,none⟩=some (.int .u8 (c1.toNat:Int))
 a2:w.cell? ⟨k,o+2,none⟩=some (.int .u8 (c2.toNat:Int))
 a3:w.cell? ⟨k,o+2+1,none⟩=some (.int .u8 (c3.toNat:Int))
 a4:w.cell? ⟨k,o+4,none⟩=some (.int .u8 (c4.toNat:Int))
 a5:w.cell? ⟨k,o+4+1,none⟩=some (.int .u8 (c5.toNat:Int))
 a6:w.cell? ⟨k,o+4+2,none⟩=some (.int .u8 (c6.toNat:Int))
 a7:w.cell? ⟨k,o+4+3,none⟩=some (.int .u8 (c7.toNat:Int))
theorem Eight.below {w w':World} {k o:Nat} {c0 c1 c2 c3 c4 c5 c6 c7:UInt8} (h:Eight w k o c0 c1 c2 c3 c4 c5 c6 c7) (hb:Below w.heap.size w w'):Eight w' k o c0 c1 c2 c3 c4 c5 c6 c7:=by
 have hlt:k<w.heap.size:=World.block_lt_of_cell? w _ h.a0
 exact⟨(hb.cell (p:=⟨k,_,none⟩) hlt).trans h.a0,(hb.cell (p:=⟨k,_,none⟩) hlt).trans h.a1,(hb.cell (p:=⟨k,_,none⟩) hlt).trans h.a2,(hb.cell (p:=⟨k,_,none⟩) hlt).trans h.a3,(hb.cell (p:=⟨k,_,none⟩) hlt).trans h.a4,(hb.cell (p:=⟨k,_,none⟩) hlt).trans h.a5,(hb.cell (p:=⟨k,_,none⟩) hlt).trans h.a6,(hb.cell (p:=⟨k,_,none⟩) hlt).trans h.a7⟩
theorem frozen_all {w:World} {k:Nat} {cs:Array Value} {t:TypeId} (h:w.heap[k]?=some (.cells cs t)) (i:Nat):w.frozen? ⟨k,i,none⟩=false:=by simp [World.frozen?,h]
end Go.Proofs.YtohkgdfkklfgmaaGreatDoor.L5
end
section
namespace Go.Proofs.YtohkgdfkklfgmaaGreatDoor.L5
open Go.RowKit L3 L1 L4
def le:Nat→Int→List UInt8
 | 0,_=>[]
 | n+1,z=>UInt8.ofNat (z % 256).toNat::le n (z / 256)
def va:List UInt8→Int
 | []=>0
 | c::l=>(c.toNat:Int)+256*va l
theorem le_length:∀ (n:Nat) (z:Int),(le n z).length=n
 | 0,_=>rfl
 | n+1,z=>by simp [le,le_length n]
theorem byte_nat (z:Int):((UInt8.ofNat (z % 256).toNat).toNat:Int)=z % 256:=by
 rw [UInt8.toNat_ofNat']
 omega
theorem byte_mk (c:UInt8) (z:Int) (h:z % 256=(c.toNat:Int)):UInt8.ofNat (z % 256).toNat=c:=by
 rw [h]
 simp
theorem emod_256 (z M:Int) (hM:0<M):z % (256*M)=z % 256+256*(z / 256 % M):=by
 have h2:=Int.emod_add_mul_ediv (z / 256) M
 have h3:=Int.emod_nonneg (z / 256) (show M≠0 by omega)
 have h4:=Int.emod_lt_of_pos (z / 256) hM
 have h5:z=(z % 256+256*(z / 256 % M))+(256*M)*(z / 256 / M):=by
  rw [Int.mul_assoc]
  omega
 have h6:((z % 256+256*(z / 256 % M))+(256*M)*(z / 256 / M)) % (256*M)=z % 256+256*(z / 256 % M):=by
  rw [Int.add_mul_emod_self_left,Int.emod_eq_of_lt (by omega) (by omega)]
 rw [← h5] at h6
 exact h6
theorem le_va:∀ (l:List UInt8) (z:Int),z % 256 ^ l.length=va l→le l.length z=l
 | [],_,_=>rfl
 | c::l,z,h=>by
  have hc:=c.toNat_lt
  have e:(256:Int) ^ (l.length+1)=256*256 ^ l.length:=by rw [Int.pow_succ];omega
  have hp:(0:Int)<256 ^ l.length:=Int.pow_pos (by decide)
  simp only [va,List.length_cons,e] at h
  have h1:z % 256=(c.toNat:Int):=by
   have:=emod_256 z _ hp
   omega
  have h2:z / 256 % 256 ^ l.length=va l:=by
   have:z % (256*256 ^ l.length)=z % 256+256*(z / 256 % 256 ^ l.length):=emod_256 z _ hp
   omega
  simp only [le,List.length_cons,byte_mk c z h1,le_va l _ h2]
theorem va_le:∀ (n:Nat) (z:Int),va (le n z)=z % 256 ^ n
 | 0,z=>by simp [le,va,Int.emod_one]
 | n+1,z=>by
  have e:(256:Int) ^ (n+1)=256*256 ^ n:=by rw [Int.pow_succ];omega
  have:z % (256*256 ^ n)=z % 256+256*(z / 256 % 256 ^ n):=emod_256 z _ (Int.pow_pos (by decide))
  simp only [le,va,va_le n,byte_nat,e]
  omega
theorem le_mod {n:Nat} {z y:Int} (h:z % 256 ^ n=y % 256 ^ n):le n z=le n y:=by
 have:=le_va (le n y) z (by rw [le_length,va_le,h])
 rwa [le_length] at this
end Go.Proofs.YtohkgdfkklfgmaaGreatDoor.L5
end
section
set_option maxRecDepth 100000
set_option maxHeartbeats 4000000
namespace Go.Proofs.YtohkgdfkklfgmaaGreatDoor.L5
open Go.RowKit L3 L1 L4
structure EncS (w W:World) (g k:Nat) (X cs:Array Value):Prop where
 hb:Below w.heap.size w W
 hg:W.heap[g]?=some (.cells X 92)
 hk:W.heap[k]?=some (.cells cs 5)
 ne:g≠k
 le:w.heap.size≤k
theorem EncS.below {w W W':World} {g k:Nat} {X cs:Array Value} (h:EncS w W g k X cs) (hb:Below W.heap.size W W'):EncS w W' g k X cs :=
 ⟨bch h.hb hb,(hb.block _ (lt_of_block h.hg)).trans h.hg,(hb.block _ (lt_of_block h.hk)).trans h.hk,h.ne,h.le⟩
theorem cells_set {w:World} {b k:Nat} {cs:Array Value} {v:Value} {t:TypeId} {fr:Nat × Nat} (h:w.heap[b]?=some (.cells cs t fr)):(w.setCell ⟨b,k,none⟩ v).heap[b]?=some (.cells (cs.setIfInBounds k v) t fr):=by
 have hlt:=lt_of_block h
 have h':w.heap[b]=.cells cs t fr:=by simpa [Array.getElem?_eq_getElem hlt] using h
 show (w.heap.modify b _)[b]?=_
 rw [Array.getElem?_eq_getElem (by simpa using hlt),Array.getElem_modify_self,h']
 rfl
theorem EncS.set {w W:World} {g k:Nat} {X cs:Array Value} (h:EncS w W g k X cs) (i:Nat) (v:Value):EncS w (W.setCell ⟨k,i,none⟩ v) g k X (cs.setIfInBounds i v) :=
 ⟨h.hb.setCell h.le _,(Below.heap_setCell _ _ _ _ h.ne).trans h.hg,cells_set h.hk,h.ne,h.le⟩
theorem Tryz.info5:(Tryz.prog.info? 5).map (fun i=>(i.zero,i.size,i.bytes))=some (some (.int .u8 0),1,1):=by kernel_rfl
theorem cell_of {w:World} {k i:Nat} {cs:Array Value} {t:TypeId} {v:Value} (h:w.heap[k]?=some (.cells cs t)) (hv:cs[i]?=some v):w.cell? ⟨k,i,none⟩=some v:=by simp [World.cell?,h,hv]
theorem enc_start {w w1 w2:World} {X cs:Array Value} (hb1:Below (w.alloc (.cells X 92)).heap.size (w.alloc (.cells X 92)) w1) (hb2:Below w1.heap.size w1 w2):EncS w (w2.alloc (.cells cs 5)) w.heap.size w2.heap.size X cs:=by
 have h:=bch hb1 hb2
 have hs:=h.size
 simp only [World.size_alloc] at hs
 have hq:=bch h (bnew w2 (.cells cs 5))
 exact⟨(bnew w _).trans (hq.mono (by simp)),(hq.block _ (by simp)).trans (heap_alloc_last w _),heap_alloc_last _ _,by omega,by omega⟩
theorem made16:madeCells #[Value.int .u8 0] 16=#[.int .u8 0,.int .u8 0,.int .u8 0,.int .u8 0,.int .u8 0,.int .u8 0,.int .u8 0,.int .u8 0,.int .u8 0,.int .u8 0,.int .u8 0,.int .u8 0,.int .u8 0,.int .u8 0,.int .u8 0,.int .u8 0]:=by kernel_rfl
theorem made8:madeCells #[Value.int .u8 0] 8=#[.int .u8 0,.int .u8 0,.int .u8 0,.int .u8 0,.int .u8 0,.int .u8 0,.int .u8 0,.int .u8 0]:=by kernel_rfl
theorem fixed_is (op r o i:Int) (w:World) (hr:sr (ix op)=r) (ho:of (ix op)=o) (hi:im (ix op)=i):Calls Tryz.prog 116 #[.int .i64 op] w fun e w'=>e=.returned (.tuple #[.int .i64 r,.int .i64 o,.int .i64 i])∧Below w.heap.size w w':=by
 subst hr;subst ho;subst hi
 exact fixed_any op w
theorem encode_no (op:Int) (reg:Bool) (dst src off imm f R:Int) (w:World) (hw:Wid w) (hf:frm (ix op)=f) (hc:chkF f reg dst src off imm=R) (hR:(R != 0)=true) :
  Calls Tryz.prog 89 #[.agg #[.int .i64 op,.bool reg,.int .i64 dst,.int .i64 src,.int .i64 off,.int .i64 imm]] w fun e w'=>e=.returned (.tuple #[.slice none 0 0,.int .i64 R])∧Below w.heap.size w w':=by
 have HC:=Lib.hid (fun w hw=>check_is op reg dst src off imm f R w hw hf hc)
 have HW:=Lib.hid hw
 clear hf hc hw
 go_enter Tryz.func89,Tryz.ntmps89
 go_wp2_with (first|(go_at_call 114;((with_reducible refine (HC.out _ (wid_below HW.out (bnew _ _))).mono ?_);rintro e w1 ⟨rfl,hb1⟩)))
 exact bodyPost_ret (v:=.tuple #[.slice none 0 0,.int .i64 R]) (by simp [results,Tryz.results89,go_sem]) rfl ⟨rfl,bch (bnew _ _) hb1⟩
theorem encode_8 (op:Int) (reg:Bool) (dst src off imm f:Int) (w:World) (hw:Wid w) (hf:frm (ix op)=f) (hc:chkF f reg dst src off imm=0) (hs:slo f=1) (v0 r o i:Int) (hV:cdV (ix op) reg=v0) (hK:cdB (ix op) reg=true) (hr:sr (ix op)=r) (ho:of (ix op)=o) (hi:im (ix op)=i)
  (v1:Int) (hs0:0≤src+r) (hs1:src+r≤15)  (h1:bits .or .i64 ((src+r)*16) dst=v1) (h1m:v1 % 256=v1) (hq0:-100000≤off+o) (hq1:off+o≤100000) (hp0:-9223372036854775808≤imm+i) (hp1:imm+i≤9223372036854775807)
  (v2 v3 v4 v5 v6 v7:Int) (h2:(IntKind.i16.wrap (off+o)) % 256=v2) (h3:(IntKind.i16.wrap (off+o)) / 256 % 256=v3) (h4:(wrap32 (imm+i)) % 256=v4) (h5:(wrap32 (imm+i)) / 256 % 256=v5) (h6:(wrap32 (imm+i)) / 256 / 256 % 256=v6) (h7:(wrap32 (imm+i)) / 256 / 256 / 256 % 256=v7) :
  Calls Tryz.prog 89 #[.agg #[.int .i64 op,.bool reg,.int .i64 dst,.int .i64 src,.int .i64 off,.int .i64 imm]] w fun e w'=>∃ k,w.heap.size≤k∧e=.returned (.tuple #[.slice (some ⟨k,0,none⟩) 8 8,.int .i64 0])∧w'.heap[k]?=some (.cells #[.int .u8 v0,.int .u8 v1,.int .u8 v2,.int .u8 v3,.int .u8 v4,.int .u8 v5,.int .u8 v6,.int .u8 v7] 5)∧Below w.heap.size w w':=by
 obtain⟨i0,hi0,hz0,hz1,hz2⟩:=info_parts Tryz.info5
 have HC:=Lib.hid (fun w hw=>check_is op reg dst src off imm f 0 w hw hf hc)
 have HS:=Lib.hid (fun w=>slots_at op f 1 w hf hs)
 have HW:=Lib.hid hw
 have HV:=Lib.hid hV
 have HK:=Lib.hid hK
 have HR:=Lib.hid hr
 have HO:=Lib.hid ho
 have HI:=Lib.hid hi
 have H2:=Lib.hid h2
 have H3:=Lib.hid h3
 have H4:=Lib.hid h4
 have H5:=Lib.hid h5
 have H6:=Lib.hid h6
 have H7:=Lib.hid h7
 clear hf hc hs hw hV hK hr ho hi h2 h3 h4 h5 h6 h7
 go_enter Tryz.func89,Tryz.ntmps89
 go_upto_region 5 with (first|(go_at_call 114;((with_reducible refine (HC.out _ (wid_below HW.out (bnew _ _))).mono ?_);rintro e w1 ⟨rfl,hb1⟩;have hg1:=(hb1.block _ (by simp)).trans (heap_alloc_last w _);have c0:=cell_of (i:=0) hg1 rfl))|(go_at_call 107;((with_reducible refine (HS.out _).mono ?_);rintro e w2 ⟨rfl,hb2⟩))|(at_make;refine wpList_make_row _ rfl _ _ 23 rfl 5 i0 (.int .u8 0) Tryz.underlying23 hi0 hz0 hz1 rfl .i64 .i64 8 rfl rfl (by rw [hz2];omega) (by omega) ?_))
 have E:=enc_start (cs:=madeCells #[Value.int .u8 0] 8) hb1 hb2
 rw [made8] at E ⊢
 obtain⟨g,hg⟩:∃ g,g=w.heap.size:=⟨_,rfl⟩
 obtain⟨k,hk⟩:∃ k,k=w2.heap.size:=⟨_,rfl⟩
 rw [← hg,← hk] at E ⊢
 generalize w2.alloc (.cells _ 5)=W at E ⊢
 clear hb1 hb2 hg1 c0 hg hk hi0 hz0 hz1 hz2 HC HS HW
 obtain⟨a0,a1,a2,a3,a4,a5⟩:=cells6 E.hg
 go_upto_region 6 with (first|(go_at_call 115;((with_reducible refine (code_at op reg v0 true _ HV.out HK.out).mono ?_);rintro e w3 ⟨rfl,hb3⟩;replace E:=E.below hb3;clear a0 a1 a2 a3 a4 a5;obtain⟨a0,a1,a2,a3,a4,a5⟩:=cells6 E.hg;have c0:=cell_of (i:=0) E.hk rfl;have f0:=frozen_all E.hk 0)))
 replace E:=E.set 0 (.int .u8 v0)
 generalize w3.setCell _ _=W at E ⊢
 clear a0 a1 a2 a3 a4 a5 c0 f0 hb3
 obtain⟨a0,a1,a2,a3,a4,a5⟩:=cells6 E.hg
 go_upto_region 7 with (first|(go_at_call 116;((with_reducible refine (fixed_is op r o i _ HR.out HO.out HI.out).mono ?_);rintro e w4 ⟨rfl,hb4⟩;replace E:=E.below hb4;clear a0 a1 a2 a3 a4 a5;obtain⟨a0,a1,a2,a3,a4,a5⟩:=cells6 E.hg;have c1:=cell_of (i:=1) E.hk rfl;have f1:=frozen_all E.hk 1)))
 go_upto_region 8 with (fail)
 replace E:=E.set 1 (.int .u8 v1)
 generalize w4.setCell _ _=W at E ⊢
 clear a0 a1 a2 a3 a4 a5 c1 f1 hb4
 refine wp_region_still_tail 7 (by kernel_rfl) (by kernel_rfl) ?_
 simp only [List.take_succ_cons,List.take_zero,List.drop_succ_cons,List.drop_zero]
 change wpStill _ _ (World.drew _) _ _ _
 replace E:=E.below ((Below.refl W.heap.size W).drew)
 obtain⟨D,hD⟩:∃ D,D=W.drew:=⟨_,rfl⟩
 rw [← hD] at E ⊢
 have HD:=Lib.hid hD
 clear hD
 obtain⟨a0,a1,a2,a3,a4,a5⟩:=cells6 E.hg
 repeat still_step
 refine wpStill_nil ?_
 change wpList _ _ _ _ _ W.drew
 rw [← HD.out]
 clear HD a0 a1 a2 a3 a4 a5
 go_wp2_with (go_at_call 117;((with_reducible refine (put16_at k 2 _ _ v2 v3 _ _ E.hk (by simp) H2.out H3.out).mono ?_);rintro e w5 ⟨rfl,rfl⟩))
 replace E:=(E.set 2 (.int .u8 v2)).set 3 (.int .u8 v3)
 clear hq0 hq1
 generalize (D.setCell _ _).setCell _ _=W at E ⊢
 refine wp_region_still_tail 7 (by kernel_rfl) (by kernel_rfl) ?_
 simp only [List.take_succ_cons,List.take_zero,List.drop_succ_cons,List.drop_zero]
 change wpStill _ _ (World.drew _) _ _ _
 replace E:=E.below ((Below.refl W.heap.size W).drew)
 obtain⟨D,hD⟩:∃ D,D=W.drew:=⟨_,rfl⟩
 rw [← hD] at E ⊢
 have HD:=Lib.hid hD
 clear hD
 obtain⟨a0,a1,a2,a3,a4,a5⟩:=cells6 E.hg
 repeat still_step
 refine wpStill_nil ?_
 change wpList _ _ _ _ _ W.drew
 rw [← HD.out]
 clear HD a0 a1 a2 a3 a4 a5
 go_wp2_with (go_at_call 118;((with_reducible refine (put32_at k 4 _ _ v4 v5 v6 v7 _ _ E.hk (by simp) H4.out H5.out H6.out H7.out).mono ?_);rintro e w6 ⟨rfl,rfl⟩))
 replace E:=(((E.set 4 (.int .u8 v4)).set 5 (.int .u8 v5)).set 6 (.int .u8 v6)).set 7 (.int .u8 v7)
 exact bodyPost_ret (v:=.tuple #[.slice (some ⟨k,0,none⟩) 8 8,.int .i64 0]) (by simp [results,Tryz.results89,go_sem]) rfl ⟨k,E.le,rfl,by have hh:=E.hk;simp only [List.setIfInBounds_toArray,List.set_cons_zero,List.set_cons_succ] at hh;exact hh,E.hb⟩
theorem encode_16 (op:Int) (reg:Bool) (dst src off imm f:Int) (w:World) (hw:Wid w) (hf:frm (ix op)=f) (hc:chkF f reg dst src off imm=0) (hs:slo f=2) (v0 r o i:Int) (hV:cdV (ix op) reg=v0) (hK:cdB (ix op) reg=true) (hr:sr (ix op)=r) (ho:of (ix op)=o) (hi:im (ix op)=i)
  (v1:Int) (hs0:0≤src+r) (hs1:src+r≤15)  (h1:bits .or .i64 ((src+r)*16) dst=v1) (h1m:v1 % 256=v1) (hq0:-100000≤off+o) (hq1:off+o≤100000) (hp0:-9223372036854775808≤imm+i) (hp1:imm+i≤9223372036854775807) (hx0:-9223372036854775808≤imm) (hx1:imm≤9223372036854775807)
  (v2 v3 v4 v5 v6 v7 v12 v13 v14 v15:Int) (h2:(IntKind.i16.wrap (off+o)) % 256=v2) (h3:(IntKind.i16.wrap (off+o)) / 256 % 256=v3) (h4:(wrap32 (imm+i)) % 256=v4) (h5:(wrap32 (imm+i)) / 256 % 256=v5) (h6:(wrap32 (imm+i)) / 256 / 256 % 256=v6) (h7:(wrap32 (imm+i)) / 256 / 256 / 256 % 256=v7) (h12:(imm / 4294967296) % 256=v12) (h13:(imm / 4294967296) / 256 % 256=v13) (h14:(imm / 4294967296) / 256 / 256 % 256=v14) (h15:(imm / 4294967296) / 256 / 256 / 256 % 256=v15) :
  Calls Tryz.prog 89 #[.agg #[.int .i64 op,.bool reg,.int .i64 dst,.int .i64 src,.int .i64 off,.int .i64 imm]] w fun e w'=>∃ k,w.heap.size≤k∧e=.returned (.tuple #[.slice (some ⟨k,0,none⟩) 16 16,.int .i64 0])∧w'.heap[k]?=some (.cells #[.int .u8 v0,.int .u8 v1,.int .u8 v2,.int .u8 v3,.int .u8 v4,.int .u8 v5,.int .u8 v6,.int .u8 v7,.int .u8 0,.int .u8 0,.int .u8 0,.int .u8 0,.int .u8 v12,.int .u8 v13,.int .u8 v14,.int .u8 v15] 5)∧Below w.heap.size w w':=by
 obtain⟨i0,hi0,hz0,hz1,hz2⟩:=info_parts Tryz.info5
 have HC:=Lib.hid (fun w hw=>check_is op reg dst src off imm f 0 w hw hf hc)
 have HS:=Lib.hid (fun w=>slots_at op f 2 w hf hs)
 have HW:=Lib.hid hw
 have HV:=Lib.hid hV
 have HK:=Lib.hid hK
 have HR:=Lib.hid hr
 have HO:=Lib.hid ho
 have HI:=Lib.hid hi
 have H2:=Lib.hid h2
 have H3:=Lib.hid h3
 have H4:=Lib.hid h4
 have H5:=Lib.hid h5
 have H6:=Lib.hid h6
 have H7:=Lib.hid h7
 have H12:=Lib.hid h12
 have H13:=Lib.hid h13
 have H14:=Lib.hid h14
 have H15:=Lib.hid h15
 clear hf hc hs hw hV hK hr ho hi h2 h3 h4 h5 h6 h7 h12 h13 h14 h15
 go_enter Tryz.func89,Tryz.ntmps89
 go_upto_region 5 with (first|(go_at_call 114;((with_reducible refine (HC.out _ (wid_below HW.out (bnew _ _))).mono ?_);rintro e w1 ⟨rfl,hb1⟩;have hg1:=(hb1.block _ (by simp)).trans (heap_alloc_last w _);have c0:=cell_of (i:=0) hg1 rfl))|(go_at_call 107;((with_reducible refine (HS.out _).mono ?_);rintro e w2 ⟨rfl,hb2⟩))|(at_make;refine wpList_make_row _ rfl _ _ 23 rfl 5 i0 (.int .u8 0) Tryz.underlying23 hi0 hz0 hz1 rfl .i64 .i64 16 rfl rfl (by rw [hz2];omega) (by omega) ?_))
 have E:=enc_start (cs:=madeCells #[Value.int .u8 0] 16) hb1 hb2
 rw [made16] at E ⊢
 obtain⟨g,hg⟩:∃ g,g=w.heap.size:=⟨_,rfl⟩
 obtain⟨k,hk⟩:∃ k,k=w2.heap.size:=⟨_,rfl⟩
 rw [← hg,← hk] at E ⊢
 generalize w2.alloc (.cells _ 5)=W at E ⊢
 clear hb1 hb2 hg1 c0 hg hk hi0 hz0 hz1 hz2 HC HS HW
 obtain⟨a0,a1,a2,a3,a4,a5⟩:=cells6 E.hg
 go_upto_region 6 with (first|(go_at_call 115;((with_reducible refine (code_at op reg v0 true _ HV.out HK.out).mono ?_);rintro e w3 ⟨rfl,hb3⟩;replace E:=E.below hb3;clear a0 a1 a2 a3 a4 a5;obtain⟨a0,a1,a2,a3,a4,a5⟩:=cells6 E.hg;have c0:=cell_of (i:=0) E.hk rfl;have f0:=frozen_all E.hk 0)))
 replace E:=E.set 0 (.int .u8 v0)
 generalize w3.setCell _ _=W at E ⊢
 clear a0 a1 a2 a3 a4 a5 c0 f0 hb3
 obtain⟨a0,a1,a2,a3,a4,a5⟩:=cells6 E.hg
 go_upto_region 7 with (first|(go_at_call 116;((with_reducible refine (fixed_is op r o i _ HR.out HO.out HI.out).mono ?_);rintro e w4 ⟨rfl,hb4⟩;replace E:=E.below hb4;clear a0 a1 a2 a3 a4 a5;obtain⟨a0,a1,a2,a3,a4,a5⟩:=cells6 E.hg;have c1:=cell_of (i:=1) E.hk rfl;have f1:=frozen_all E.hk 1)))
 go_upto_region 8 with (fail)
 replace E:=E.set 1 (.int .u8 v1)
 generalize w4.setCell _ _=W at E ⊢
 clear a0 a1 a2 a3 a4 a5 c1 f1 hb4
 refine wp_region_still_tail 7 (by kernel_rfl) (by kernel_rfl) ?_
 simp only [List.take_succ_cons,List.take_zero,List.drop_succ_cons,List.drop_zero]
 change wpStill _ _ (World.drew _) _ _ _
 replace E:=E.below ((Below.refl W.heap.size W).drew)
 obtain⟨D,hD⟩:∃ D,D=W.drew:=⟨_,rfl⟩
 rw [← hD] at E ⊢
 have HD:=Lib.hid hD
 clear hD
 obtain⟨a0,a1,a2,a3,a4,a5⟩:=cells6 E.hg
 repeat still_step
 refine wpStill_nil ?_
 change wpList _ _ _ _ _ W.drew
 rw [← HD.out]
 clear HD a0 a1 a2 a3 a4 a5
 go_wp2_with (go_at_call 117;((with_reducible refine (put16_at k 2 _ _ v2 v3 _ _ E.hk (by simp) H2.out H3.out).mono ?_);rintro e w5 ⟨rfl,rfl⟩))
 replace E:=(E.set 2 (.int .u8 v2)).set 3 (.int .u8 v3)
 clear hq0 hq1
 generalize (D.setCell _ _).setCell _ _=W at E ⊢
 refine wp_region_still_tail 7 (by kernel_rfl) (by kernel_rfl) ?_
 simp only [List.take_succ_cons,List.take_zero,List.drop_succ_cons,List.drop_zero]
 change wpStill _ _ (World.drew _) _ _ _
 replace E:=E.below ((Below.refl W.heap.size W).drew)
 obtain⟨D,hD⟩:∃ D,D=W.drew:=⟨_,rfl⟩
 rw [← hD] at E ⊢
 have HD:=Lib.hid hD
 clear hD
 obtain⟨a0,a1,a2,a3,a4,a5⟩:=cells6 E.hg
 repeat still_step
 refine wpStill_nil ?_
 change wpList _ _ _ _ _ W.drew
 rw [← HD.out]
 clear HD a0 a1 a2 a3 a4 a5
 go_wp2_with (go_at_call 118;((with_reducible refine (put32_at k 4 _ _ v4 v5 v6 v7 _ _ E.hk (by simp) H4.out H5.out H6.out H7.out).mono ?_);rintro e w6 ⟨rfl,rfl⟩))
 replace E:=(((E.set 4 (.int .u8 v4)).set 5 (.int .u8 v5)).set 6 (.int .u8 v6)).set 7 (.int .u8 v7)
 generalize (((D.setCell _ _).setCell _ _).setCell _ _).setCell _ _=W at E ⊢
 refine wp_region_still_tail 6 (by kernel_rfl) (by kernel_rfl) ?_
 simp only [List.take_succ_cons,List.take_zero,List.drop_succ_cons,List.drop_zero]
 change wpStill _ _ (World.drew _) _ _ _
 replace E:=E.below ((Below.refl W.heap.size W).drew)
 obtain⟨D,hD⟩:∃ D,D=W.drew:=⟨_,rfl⟩
 rw [← hD] at E ⊢
 have HD:=Lib.hid hD
 clear hD
 obtain⟨a0,a1,a2,a3,a4,a5⟩:=cells6 E.hg
 repeat still_step
 refine wpStill_nil ?_
 change wpList _ _ _ _ _ W.drew
 rw [← HD.out]
 clear HD a0 a1 a2 a3 a4 a5
 go_wp2_with (go_at_call 118;((with_reducible refine (put32_at k 12 _ _ v12 v13 v14 v15 _ _ E.hk (by simp) H12.out H13.out H14.out H15.out).mono ?_);rintro e w6 ⟨rfl,rfl⟩))
 replace E:=(((E.set 12 (.int .u8 v12)).set 13 (.int .u8 v13)).set 14 (.int .u8 v14)).set 15 (.int .u8 v15)
 exact bodyPost_ret (v:=.tuple #[.slice (some ⟨k,0,none⟩) 16 16,.int .i64 0]) (by simp [results,Tryz.results89,go_sem]) rfl ⟨k,E.le,rfl,by have hh:=E.hk;simp only [List.setIfInBounds_toArray,List.set_cons_zero,List.set_cons_succ] at hh;exact hh,E.hb⟩
end Go.Proofs.YtohkgdfkklfgmaaGreatDoor.L5
end
section
namespace Go.Proofs.YtohkgdfkklfgmaaGreatDoor.L5
open Go.RowKit L3 L1 L4
theorem wrap_i16 (n:Int):IntKind.i16.wrap n=(n+32768) % 65536-32768:=by simp [IntKind.wrap,IntKind.bits,IntKind.signed];omega
def encL (j:Nat) (f:Int) (reg:Bool) (dst src off imm:Int):List UInt8 :=
 UInt8.ofNat (cdV j reg % 256).toNat::UInt8.ofNat ((16*(src+sr j)+dst) % 256).toNat::(le 2 (off+of j)++(le 4 (imm+im j)++if slo f=2 then 0::0::0::0::le 4 (imm / 4294967296) else []))
theorem encL_length (j:Nat) (f:Int) (reg:Bool) (dst src off imm:Int):(encL j f reg dst src off imm).length=if slo f=2 then 16 else 8:=by
 unfold encL
 split <;> simp [le_length]
structure OkI (f:Int) (reg:Bool) (dst src off imm:Int):Prop where
 hop:f≠-1
 hreg:(!reg || f==0 || f==4)=true
 ud:uD f=true∨dst=0
 us:uS f reg=true∨src=0
 uo:uO f=true∨off=0
 ui:uI f reg=true∨imm=0
 gd:0≤dst∧dst≤10
 gs:0≤src∧src≤10
 ro:-32768≤off∧off≤32767
 ri:rng f imm=true
theorem chk_ok (f:Int) (reg:Bool) (dst src off imm:Int):chkF f reg dst src off imm=0↔OkI f reg dst src off imm:=by
 unfold chkF
 constructor
 ·intro h
  simp only [firstBad] at h
  repeat' (split at h)
  all_goals first|(exfalso;revert h;decide)|skip
  rename_i h1 h2 h3 h4 h5 h6 h7
  simp only [Bool.and_eq_true,Bool.or_eq_true,beq_iff_eq,isG,decide_eq_true_eq] at h3 h4 h5 h6
  refine⟨by simpa using h1,h2,h3.1,h3.2,h4.1,h4.2,h5.1,h5.2,?_,h7⟩
  unfold sx at h6
  simp at h6
  omega
 ·intro h
  have h1:(f != -1)=true:=by simpa using h.hop
  have h3:((uD f || dst==0) && (uS f reg || src==0))=true:=by simpa using ⟨h.ud,h.us⟩
  have h4:((uO f || off==0) && (uI f reg || imm==0))=true:=by simpa using ⟨h.uo,h.ui⟩
  have h5:(isG dst && isG src)=true:=by simpa [isG] using ⟨h.gd,h.gs⟩
  have h6:(sx 16 off==off)=true:=by
   have:=h.ro
   unfold sx
   simp
   omega
  simp [firstBad,h1,h.hreg,h3,h4,h5,h6,h.ri]
end Go.Proofs.YtohkgdfkklfgmaaGreatDoor.L5
end
section
set_option maxHeartbeats 1000000
namespace Go.Proofs.YtohkgdfkklfgmaaGreatDoor.L5
open Go.RowKit L3 L1 L4
theorem tab1:∀ j,j<86→0≤sr j∧sr j≤1∧0≤of j∧of j≤64∧0≤im j∧im j≤64:=by decide +kernel
theorem tab2:∀ j,j<86→∀ r:Bool,(uS (fm j) r=true→sr j=0)∧(uO (fm j)=true→of j=0)∧(uI (fm j) r=true→im j=0):=by decide +kernel
theorem tab3:∀ j,j<86→∀ r:Bool,0≤cdV j r∧cdV j r≤255:=by decide +kernel
theorem tab4:∀ j,j<86→(slo (fm j)=1∨slo (fm j)=2)∧(slo (fm j)=2→of j=0∧im j=0∧uI (fm j) true=true∧uI (fm j) false=true):=by decide +kernel
theorem frm_lt {j:Nat} (h:frm j≠-1):j<86:=by
 by_cases hj:j<86
 ·exact hj
 ·exact absurd (by unfold frm;rw [if_neg hj]) h
theorem frm_fm {j:Nat} (h:j<86):frm j=fm j:=by unfold frm;rw [if_pos h]
def byC (l:List UInt8):Array Value:=(l.map fun c=>Value.int .u8 (c.toNat:Int)).toArray
theorem or_16 (a b:Int) (ha:0≤a) (ha2:a≤15) (hb:0≤b) (hb2:b≤15):bits .or .i64 (a*16) b=16*a+b:=by
 have h:∀ a:Fin 16,∀ b:Fin 16,bits .or .i64 (((a.val:Nat):Int)*16) ((b.val:Nat):Int)=16*((a.val:Nat):Int)+((b.val:Nat):Int):=by decide +kernel
 have:=h ⟨a.toNat,by omega⟩ ⟨b.toNat,by omega⟩
 simpa [Int.toNat_of_nonneg ha,Int.toNat_of_nonneg hb] using this
theorem wrap32_is (n:Int):wrap32 n=(n+2147483648) % 4294967296-2147483648:=by
 unfold wrap32
 omega
theorem le2_16 (z:Int):le 2 (IntKind.i16.wrap z)=le 2 z:=le_mod (by rw [wrap_i16];omega)
theorem le4_32 (z:Int):le 4 (wrap32 z)=le 4 z:=le_mod (by rw [wrap32_is];omega)
theorem le2_eq (z:Int):le 2 z=[UInt8.ofNat (z % 256).toNat,UInt8.ofNat (z / 256 % 256).toNat]:=rfl
theorem le4_eq (z:Int):le 4 z=[UInt8.ofNat (z % 256).toNat,UInt8.ofNat (z / 256 % 256).toNat,UInt8.ofNat (z / 256 / 256 % 256).toNat,UInt8.ofNat (z / 256 / 256 / 256 % 256).toNat]:=rfl
theorem encode_at (op:Int) (reg:Bool) (dst src off imm f:Int) (l:List UInt8) (n:Nat) (w:World) (hw:Wid w) (hf:frm (ix op)=f) (hc:OkI f reg dst src off imm) (i0:-9223372036854775808≤imm) (i1:imm≤9223372036854775807) (hl:encL (ix op) f reg dst src off imm=l) (hn:l.length=n) :
  Calls Tryz.prog 89 #[.agg #[.int .i64 op,.bool reg,.int .i64 dst,.int .i64 src,.int .i64 off,.int .i64 imm]] w fun e w'=>∃ k,w.heap.size≤k∧e=.returned (.tuple #[.slice (some ⟨k,0,none⟩) n n,.int .i64 0])∧w'.heap[k]?=some (.cells (byC l) 5)∧Below w.heap.size w w':=by
 subst hl hn
 have hj:ix op<86:=frm_lt (by rw [hf];exact hc.hop)
 have hfm:fm (ix op)=f:=(frm_fm hj).symm.trans hf
 have hchk:=(chk_ok f reg dst src off imm).2 hc
 have t1:=tab1 _ hj
 have t2:=tab2 _ hj reg
 have t3:=tab3 _ hj reg
 have t4:=tab4 _ hj
 rw [hfm] at t2 t4
 have hK:cdB (ix op) reg=true:=by
  unfold cdB
  rw [hfm]
  simpa [hj,isR,Bool.or_assoc] using hc.hreg
 have gd:=hc.gd
 have gs:=hc.gs
 have ro:=hc.ro
 have hor:=or_16 (src+sr (ix op)) dst (by omega) (by omega) (by omega) (by omega)
 have m0:cdV (ix op) reg % 256=cdV (ix op) reg:=by omega
 have m1:(16*(src+sr (ix op))+dst) % 256=16*(src+sr (ix op))+dst:=by omega
 have him:-9223372036854775808≤imm+im (ix op)∧imm+im (ix op)≤9223372036854775807:=by
  rcases hc.ui with h|h
  ·have:=t2.2.2 h
   omega
  ·omega
 rcases t4.1 with hs|hs
 ·refine (encode_8 op reg dst src off imm f w hw hf hchk hs _ _ _ _ rfl hK rfl rfl rfl _ (by omega) (by omega) hor (by omega) (by omega) (by omega) him.1 him.2 _ _ _ _ _ _ rfl rfl rfl rfl rfl rfl).mono fun e w' h=>?_
  obtain⟨k,hk,he,hh,hb⟩:=h
  refine⟨k,hk,?_,?_,hb⟩
  ·rw [encL_length,if_neg (by omega)];exact he
  ·rw [hh]
   unfold encL byC
   rw [if_neg (by omega),← le2_16,← le4_32,le2_eq,le4_eq]
   simp only [List.append_nil,List.cons_append,List.nil_append,List.map_cons,List.map_nil,byte_nat]
   rw [m0,m1]
 ·refine (encode_16 op reg dst src off imm f w hw hf hchk hs _ _ _ _ rfl hK rfl rfl rfl _ (by omega) (by omega) hor (by omega) (by omega) (by omega) him.1 him.2 i0 i1 _ _ _ _ _ _ _ _ _ _ rfl rfl rfl rfl rfl rfl rfl rfl rfl rfl).mono fun e w' h=>?_
  obtain⟨k,hk,he,hh,hb⟩:=h
  refine⟨k,hk,?_,?_,hb⟩
  ·rw [encL_length,if_pos hs];exact he
  ·rw [hh]
   unfold encL byC
   rw [if_pos hs,← le2_16,← le4_32 (imm+_),le2_eq,le4_eq,le4_eq]
   simp only [List.cons_append,List.nil_append,List.map_cons,List.map_nil,byte_nat]
   rw [m0,m1]
   rfl
end Go.Proofs.YtohkgdfkklfgmaaGreatDoor.L5
end
