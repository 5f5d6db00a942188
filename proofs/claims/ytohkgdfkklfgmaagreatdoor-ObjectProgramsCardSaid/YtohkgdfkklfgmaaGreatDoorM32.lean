/- Lemmas and walks of L5Rput, L5Renc, L5Renca, L5Inv, L5Rjoin: what each theorem states; conditions stand in each theorem. -/
import Derived.Test.YtohkgdfkklfgmaaGreatDoorM20
import Derived.Test.YtohkgdfkklfgmaaGreatDoorM31
import Derived.Test.YtohkgdfkklfgmaaGreatDoorL4Facts
import Derived.Deep.Slices
import Derived.Deep.Fields
import Derived.ChangeSame
section
set_option maxRecDepth 100000
set_option maxHeartbeats 2000000
namespace Go.Proofs.YtohkgdfkklfgmaaGreatDoor.L5
open Go.RowKit L3 L1 L4
theorem le_snoc:∀ (j:Nat) (z:Int),le (j+1) z=le j z++[UInt8.ofNat (z / 256 ^ j % 256).toNat]
 | 0,z=>by simp [le]
 | j+1,z=>by
  have e:z / 256 ^ (j+1)=z / 256 / 256 ^ j:=by rw [Int.pow_succ',Int.ediv_ediv_of_nonneg (by decide)]
  rw [le,le_snoc j (z / 256),le,List.cons_append,e]
theorem rput_at (base m:Nat) (l:List UInt8) (v:Value) (z:Int) (n:Nat) (w:World) (hown:w.ownsRow base 5 1 v m (byL l)) (hb:base≤w.heap.size) (h0:0≤z) (h1:z<18446744073709551616) (hn:n≤8) (hm:m≤10000000) :
  Calls Tryz.prog 104 #[v,.int .u64 z,.int .i64 (n:Int)] w fun e w'=>∃ v',e=.returned v'∧w'.ownsRow base 5 1 v' (m+n) (byL (l++le n z))∧Below base w w':=by
 obtain⟨i0,hi0,hz0,hz1,hz2⟩:=info_parts Tryz.info5
 obtain⟨va,vc,rfl⟩:=owns_slice' hown
 go_enter Tryz.func104,Tryz.ntmps104
 go_wp2
 go_loopw [0,1,7] (fun b x i wr=>∃ (j:Nat) (y:Int),j≤n∧i=.int .i64 (j:Int)∧x=.int .u64 y∧0≤y∧y<18446744073709551616∧Hid (y=z / 256 ^ j)∧wr.ownsRow base 5 1 b (m+j) (byL (l++le j z))∧Below base w wr) (fun _ _ i _=>n-(intOf i).toNat)
 case atStart=>exact⟨0,z,Nat.zero_le _,rfl,rfl,h0,h1,Lib.hid (by simp),by simpa [le] using hown,Below.refl _ _⟩
 case round =>
  obtain⟨j,y,hj,rfl,rfl,hy0,hy1,hY,hown,hB⟩:=hrel
  by_cases hlt:j<n
  ·have hlt':(j:Int)<(n:Int):=by omega
   have hsz:=hB.size
   go_wp2_with (at_builtin;refine wpList_append_own _ rfl _ _ 23 rfl base 5 i0 (.int .u8 0) 1 1 Tryz.underlying23 hi0 hz0 hz1 hz2 rfl (by decide) _ (m+j) _ rfl (hown.alloc _) ⟨wr.heap.size,0,none⟩ 1 1 [.int .u8 (y % 256)] rfl rfl (cell_one_new _ _ _) (by simp [Value.oneCell']) (by unfold maxLen;omega) (by omega) (by simp;omega) ?_;intro v' w3 hown3 hgrow3 _)
   go_roundw
   case rel =>
    refine⟨j+1,y / 256,by omega,by go_num,rfl,by omega,by omega,Lib.hid ?_,?_,(hB.alloc (by omega) _).grown hgrow3 (by simp;omega) (own_base hown)⟩
    ·rw [hY.out,Int.ediv_ediv_of_nonneg (Int.pow_nonneg (by decide)),← Int.pow_succ]
    ·rw [le_snoc,← List.append_assoc,byL_append,← hY.out]
     have e:byL [UInt8.ofNat (y % 256).toNat]=[.int .u8 (y % 256)]:=by simp only [byL,List.map_cons,List.map_nil,byte_nat]
     rw [e]
     exact hown3
   case measure=>simp [intOf];omega
  ·have hge:¬ (j:Int)<(n:Int):=by omega
   obtain rfl:j=n:=by omega
   go_wp2
   go_ret
   exact⟨_,rfl,hown,hB⟩
end Go.Proofs.YtohkgdfkklfgmaaGreatDoor.L5
end
section
set_option maxRecDepth 100000
set_option maxHeartbeats 4000000
namespace Go.Proofs.YtohkgdfkklfgmaaGreatDoor.L5
open Go.RowKit L3 L1 L4
theorem own_mono {w:World} {base base' e:TypeId} {size:Nat} {v:Value} {n:Nat} {xs:List Value} (h:w.ownsRow base e size v n xs) (hb:base'≤base):w.ownsRow base' e size v n xs:=by
 refine⟨h.1,?_⟩
 rcases h.2 with h|⟨g,cap,cur,hv,hg,r⟩
 ·exact .inl h
 ·exact .inr ⟨g,cap,cur,hv,Nat.le_trans hb hg,r⟩
theorem own_two (w:World) (base:Nat) (hb:base≤w.heap.size) (a b:UInt8):(w.alloc (.cells #[.int .u8 (a.toNat:Int),.int .u8 (b.toNat:Int)] 5)).ownsRow base 5 1 (.slice (some ⟨w.heap.size,0,none⟩) 2 2) 2 (byL [a,b]) :=
 ⟨by simp [byL],.inr ⟨w.heap.size,2,_,rfl,hb,heap_alloc_last w _,by omega,by unfold maxLen;omega,rfl,by simp [byL]⟩⟩
structure RenS (w W:World) (X:Array Value):Prop where
 hb:Below (w.heap.size+1) (w.alloc (.cells X 92)) W
theorem RenS.cell {w W:World} {X:Array Value} (h:RenS w W X):W.heap[w.heap.size]?=some (.cells X 92):=(h.hb.block _ (by omega)).trans (heap_alloc_last w _)
theorem RenS.start (w:World) (X:Array Value):RenS w (w.alloc (.cells X 92)) X:=⟨Below.refl _ _⟩
theorem RenS.size {w W:World} {X:Array Value} (h:RenS w W X):w.heap.size+1≤W.heap.size:=by have:=h.hb.size;simpa using this
theorem RenS.low {w W W':World} {X:Array Value} (h:RenS w W X) (hb:Below (w.heap.size+1) W W'):RenS w W' X:=⟨h.hb.trans hb⟩
theorem RenS.below {w W W':World} {X:Array Value} (h:RenS w W X) (hb:Below W.heap.size W W'):RenS w W' X:=h.low (hb.mono h.size)
theorem RenS.fin {w W:World} {X:Array Value} (h:RenS w W X):Below w.heap.size w W:=(bnew w _).trans (h.hb.mono (by omega))
theorem le2_u64 (z:Int):le 2 (IntKind.u64.wrap z)=le 2 z:=le_mod (by rw [IntKind.wrap_u64];omega)
theorem le4_u64 (a b:Int):le 4 (IntKind.u64.wrap (IntKind.u64.wrap a+IntKind.u64.wrap b))=le 4 (b+a):=le_mod (by rw [IntKind.wrap_u64,IntKind.wrap_u64,IntKind.wrap_u64];omega)
theorem le4_hi (z:Int):le 4 (IntKind.u64.wrap z / 4294967296)=le 4 (z / 4294967296):=le_mod (by rw [IntKind.wrap_u64];omega)
theorem le4_zero:le 4 0=[0,0,0,0]:=rfl
theorem rput2 (base m:Nat) (l:List UInt8) (v:Value) (z:Int) (w:World) (hown:w.ownsRow base 5 1 v m (byL l)) (hb:base≤w.heap.size) (h0:0≤z) (h1:z<18446744073709551616) (hm:m≤10000000) :
  Calls Tryz.prog 104 #[v,.int .u64 z,.int .i64 2] w fun e w'=>∃ v',e=.returned v'∧w'.ownsRow base 5 1 v' (m+2) (byL (l++le 2 z))∧Below base w w':=rput_at base m l v z 2 w hown hb h0 h1 (by omega) hm
theorem rput4 (base m:Nat) (l:List UInt8) (v:Value) (z:Int) (w:World) (hown:w.ownsRow base 5 1 v m (byL l)) (hb:base≤w.heap.size) (h0:0≤z) (h1:z<18446744073709551616) (hm:m≤10000000) :
  Calls Tryz.prog 104 #[v,.int .u64 z,.int .i64 4] w fun e w'=>∃ v',e=.returned v'∧w'.ownsRow base 5 1 v' (m+4) (byL (l++le 4 z))∧Below base w w':=rput_at base m l v z 4 w hown hb h0 h1 (by omega) hm
theorem w64_byte (b:UInt8):wrap64 (b.toNat:Int)=(b.toNat:Int):=by
 have:=b.toNat_lt
 unfold wrap64
 omega
theorem mod_byte (b:UInt8):(b.toNat:Int) % 256=(b.toNat:Int):=by
 have:=b.toNat_lt
 omega
theorem u64_b (z:Int):0≤IntKind.u64.wrap z∧IntKind.u64.wrap z<18446744073709551616:=by rw [IntKind.wrap_u64];omega
theorem u64_h (z:Int):0≤IntKind.u64.wrap z / 4294967296∧IntKind.u64.wrap z / 4294967296<18446744073709551616:=by rw [IntKind.wrap_u64];omega
theorem renc_1 (op:Int) (reg:Bool) (dst src off imm f:Int) (w:World) (hf:frm (ix op)=f) (hs:slo f=1) (r o i:Int) (k0:Bool) (a b:UInt8) (hV:cdV (ix op) reg=(a.toNat:Int)) (hK:cdB (ix op) reg=k0) (hr:sr (ix op)=r) (ho:of (ix op)=o) (hi:im (ix op)=i)
  (hbb:16*(r+src)+dst=(b.toNat:Int)) (hs0:0≤r+src) (hs1:r+src≤15) (_:-100000≤o+off) (_:o+off≤100000) :
  Calls Tryz.prog 84 #[.agg #[.int .i64 op,.bool reg,.int .i64 dst,.int .i64 src,.int .i64 off,.int .i64 imm]] w fun e w'=>∃ v,e=.returned v∧w'.ownsRow w.heap.size 5 1 v 8 (byL ([a,b]++le 2 (off+o)++le 4 (imm+i)))∧Below w.heap.size w w':=by
 have HC:=Lib.hid (fun w=>rcode_at op reg _ k0 w hV hK)
 have HX:=Lib.hid (fun w=>rfixed_at op r o i w hr ho hi)
 have HS:=Lib.hid (fun w=>rslots_at op f 1 w hf hs)
 have S:=RenS.start w #[.int .i64 op,.bool reg,.int .i64 dst,.int .i64 src,.int .i64 off,.int .i64 imm]
 have hw1:=w64_byte b
 have hm1:=mod_byte b
 have hu0:=(u64_b imm).1
 have hu1:=(u64_b imm).2
 clear hf hs hV hK hr ho hi
 go_enter Tryz.func84,Tryz.ntmps84
 obtain⟨x0,x1,x2,x3,x4,x5⟩:=cells6 S.cell
 go_upto_region 4 with (first|(go_at_call 102;((with_reducible refine (HC.out _).mono ?_);rintro e w1 ⟨rfl,hb1⟩;replace S:=S.below hb1;clear x0 x1 x2 x3 x4 x5;obtain⟨x0,x1,x2,x3,x4,x5⟩:=cells6 S.cell))|(go_at_call 103;((with_reducible refine (HX.out _).mono ?_);rintro e w2 ⟨rfl,hb2⟩;replace S:=S.below hb2;clear x0 x1 x2 x3 x4 x5;obtain⟨x0,x1,x2,x3,x4,x5⟩:=cells6 S.cell)))
 have hown:=own_two w2 (w.heap.size+1) S.size a b
 replace S:=S.below (bnew w2 (.cells #[.int .u8 (a.toNat:Int),.int .u8 (b.toNat:Int)] 5))
 clear x0 x1 x2 x3 x4 x5 hw1 hm1 hbb
 obtain⟨x0,x1,x2,x3,x4,x5⟩:=cells6 S.cell
 generalize w2.alloc _=W at S hown x0 x1 x2 x3 x4 x5 ⊢
 go_wp2_with (first|(go_at_call 104;((with_reducible refine (rput2 _ _ _ _ _ _ hown S.size (u64_b _).1 (u64_b _).2 (by omega)).mono ?_);rintro e w3 ⟨v3,rfl,hown3,hb3⟩;replace S:=S.low hb3;clear x0 x1 x2 x3 x4 x5;obtain⟨x0,x1,x2,x3,x4,x5⟩:=cells6 S.cell))|(go_at_call 104;((with_reducible refine (rput4 _ _ _ _ _ _ hown3 S.size (u64_b _).1 (u64_b _).2 (by omega)).mono ?_);rintro e w4 ⟨v4,rfl,hown4,hb4⟩;replace S:=S.low hb4;clear x0 x1 x2 x3 x4 x5;obtain⟨x0,x1,x2,x3,x4,x5⟩:=cells6 S.cell))|(go_at_call 81;((with_reducible refine (HS.out _).mono ?_);rintro e w5 ⟨rfl,rfl⟩)))
 go_ret
 refine⟨_,rfl,?_,S.fin⟩
 have hh:=own_mono hown4 (Nat.le_succ w.heap.size)
 rw [le2_u64,le4_u64,Int.add_comm o off] at hh
 exact hh
theorem renc_2 (op:Int) (reg:Bool) (dst src off imm f:Int) (w:World) (hf:frm (ix op)=f) (hs:slo f=2) (r o i:Int) (k0:Bool) (a b:UInt8) (hV:cdV (ix op) reg=(a.toNat:Int)) (hK:cdB (ix op) reg=k0) (hr:sr (ix op)=r) (ho:of (ix op)=o) (hi:im (ix op)=i)
  (hbb:16*(r+src)+dst=(b.toNat:Int)) (hs0:0≤r+src) (hs1:r+src≤15) (_:-100000≤o+off) (_:o+off≤100000) :
  Calls Tryz.prog 84 #[.agg #[.int .i64 op,.bool reg,.int .i64 dst,.int .i64 src,.int .i64 off,.int .i64 imm]] w fun e w'=>∃ v,e=.returned v∧w'.ownsRow w.heap.size 5 1 v 16 (byL ([a,b]++le 2 (off+o)++le 4 (imm+i)++le 4 0++le 4 (imm / 4294967296)))∧Below w.heap.size w w':=by
 have HC:=Lib.hid (fun w=>rcode_at op reg _ k0 w hV hK)
 have HX:=Lib.hid (fun w=>rfixed_at op r o i w hr ho hi)
 have HS:=Lib.hid (fun w=>rslots_at op f 2 w hf hs)
 have S:=RenS.start w #[.int .i64 op,.bool reg,.int .i64 dst,.int .i64 src,.int .i64 off,.int .i64 imm]
 have hw1:=w64_byte b
 have hm1:=mod_byte b
 have hu0:=(u64_b imm).1
 have hu1:=(u64_b imm).2
 clear hf hs hV hK hr ho hi
 go_enter Tryz.func84,Tryz.ntmps84
 obtain⟨x0,x1,x2,x3,x4,x5⟩:=cells6 S.cell
 go_upto_region 4 with (first|(go_at_call 102;((with_reducible refine (HC.out _).mono ?_);rintro e w1 ⟨rfl,hb1⟩;replace S:=S.below hb1;clear x0 x1 x2 x3 x4 x5;obtain⟨x0,x1,x2,x3,x4,x5⟩:=cells6 S.cell))|(go_at_call 103;((with_reducible refine (HX.out _).mono ?_);rintro e w2 ⟨rfl,hb2⟩;replace S:=S.below hb2;clear x0 x1 x2 x3 x4 x5;obtain⟨x0,x1,x2,x3,x4,x5⟩:=cells6 S.cell)))
 have hown:=own_two w2 (w.heap.size+1) S.size a b
 replace S:=S.below (bnew w2 (.cells #[.int .u8 (a.toNat:Int),.int .u8 (b.toNat:Int)] 5))
 clear x0 x1 x2 x3 x4 x5 hw1 hm1 hbb
 obtain⟨x0,x1,x2,x3,x4,x5⟩:=cells6 S.cell
 generalize w2.alloc _=W at S hown x0 x1 x2 x3 x4 x5 ⊢
 go_wp2_with (first|(go_at_call 104;((with_reducible refine (rput2 _ _ _ _ _ _ hown S.size (u64_b _).1 (u64_b _).2 (by omega)).mono ?_);rintro e w3 ⟨v3,rfl,hown3,hb3⟩;replace S:=S.low hb3;clear x0 x1 x2 x3 x4 x5;obtain⟨x0,x1,x2,x3,x4,x5⟩:=cells6 S.cell))|(go_at_call 104;((with_reducible refine (rput4 _ _ _ _ _ _ hown3 S.size (u64_b _).1 (u64_b _).2 (by omega)).mono ?_);rintro e w4 ⟨v4,rfl,hown4,hb4⟩;replace S:=S.low hb4;clear x0 x1 x2 x3 x4 x5;obtain⟨x0,x1,x2,x3,x4,x5⟩:=cells6 S.cell))|(go_at_call 81;((with_reducible refine (HS.out _).mono ?_);rintro e w5 ⟨rfl,rfl⟩))|(go_at_call 104;((with_reducible refine (rput4 _ _ _ _ _ _ hown4 S.size (by decide) (by decide) (by omega)).mono ?_);rintro e w6 ⟨v6,rfl,hown6,hb6⟩;replace S:=S.low hb6;clear x0 x1 x2 x3 x4 x5;obtain⟨x0,x1,x2,x3,x4,x5⟩:=cells6 S.cell))|(go_at_call 104;((with_reducible refine (rput4 _ _ _ _ _ _ hown6 S.size (u64_h _).1 (u64_h _).2 (by omega)).mono ?_);rintro e w7 ⟨v7,rfl,hown7,hb7⟩;replace S:=S.low hb7;clear x0 x1 x2 x3 x4 x5;obtain⟨x0,x1,x2,x3,x4,x5⟩:=cells6 S.cell)))
 go_ret
 refine⟨_,rfl,?_,S.fin⟩
 have hh:=own_mono hown7 (Nat.le_succ w.heap.size)
 rw [le2_u64,le4_u64,Int.add_comm o off,le4_hi imm] at hh
 exact hh
end Go.Proofs.YtohkgdfkklfgmaaGreatDoor.L5
end
section
namespace Go.Proofs.YtohkgdfkklfgmaaGreatDoor.L5
open Go.RowKit L3 L1 L4
theorem renc_ok (x:Ix) (w:World) (h0:x.err=0) :
  Calls Tryz.prog 84 #[.agg #[.int .i64 x.op,.bool x.reg,.int .i64 x.dst,.int .i64 x.src,.int .i64 x.off,.int .i64 x.imm]] w fun e w'=>∃ v,e=.returned v∧w'.ownsRow w.heap.size 5 1 v x.bytes.length (byL x.bytes)∧Below w.heap.size w w':=by
 have hc:=(chk_ok _ _ _ _ _ _).1 h0
 have hj:ix x.op<86:=frm_lt hc.hop
 have hfm:fm (ix x.op)=x.f:=(frm_fm hj).symm
 have t1:=tab1 _ hj
 have t3:=tab3 _ hj x.reg
 have t4:=tab4 _ hj
 rw [hfm] at t4
 have gd:=hc.gd
 have gs:=hc.gs
 have ro:=hc.ro
 have ha:cdV (ix x.op) x.reg=((UInt8.ofNat (cdV (ix x.op) x.reg % 256).toNat).toNat:Int):=by rw [byte_nat];omega
 have hb:16*(sr (ix x.op)+x.src)+x.dst=((UInt8.ofNat ((16*(x.src+sr (ix x.op))+x.dst) % 256).toNat).toNat:Int):=by rw [byte_nat];omega
 rcases t4.1 with hs|hs
 ·have hl:x.bytes=[UInt8.ofNat (cdV (ix x.op) x.reg % 256).toNat,UInt8.ofNat ((16*(x.src+sr (ix x.op))+x.dst) % 256).toNat]++le 2 (x.off+of (ix x.op))++le 4 (x.imm+im (ix x.op)):=by
   unfold Ix.bytes encL
   rw [if_neg (by omega)]
   simp
  have hn:x.bytes.length=8:=by unfold Ix.bytes;rw [encL_length,if_neg (by omega)]
  rw [hn,hl]
  exact renc_1 x.op x.reg x.dst x.src x.off x.imm x.f w rfl hs _ _ _ _ _ _ ha rfl rfl rfl rfl hb (by omega) (by omega) (by omega) (by omega)
 ·have hl:x.bytes=[UInt8.ofNat (cdV (ix x.op) x.reg % 256).toNat,UInt8.ofNat ((16*(x.src+sr (ix x.op))+x.dst) % 256).toNat]++le 2 (x.off+of (ix x.op))++le 4 (x.imm+im (ix x.op))++le 4 0++le 4 (x.imm / 4294967296):=by
   unfold Ix.bytes encL
   rw [if_pos hs]
   simp [le4_zero]
  have hn:x.bytes.length=16:=by unfold Ix.bytes;rw [encL_length,if_pos hs]
  rw [hn,hl]
  exact renc_2 x.op x.reg x.dst x.src x.off x.imm x.f w rfl hs _ _ _ _ _ _ ha rfl rfl rfl rfl hb (by omega) (by omega) (by omega) (by omega)
end Go.Proofs.YtohkgdfkklfgmaaGreatDoor.L5
end
section
set_option maxRecDepth 100000
set_option maxHeartbeats 4000000
namespace Go.Proofs.YtohkgdfkklfgmaaGreatDoor.L5
open Go.RowKit L3 L1 L4
theorem bytes_slots (x:Ix) (h0:x.err=0):∃ n:Nat,slo x.f=(n:Int)∧x.bytes.length=8*n∧1≤n∧n≤2:=by
 have hc:=(chk_ok _ _ _ _ _ _).1 h0
 have hj:ix x.op<86:=frm_lt hc.hop
 have hfm:fm (ix x.op)=x.f:=(frm_fm hj).symm
 have t4:=tab4 _ hj
 rw [hfm] at t4
 have hn:x.bytes.length=if slo x.f=2 then 16 else 8:=encL_length _ _ _ _ _ _ _
 rcases t4.1 with h|h
 ·exact⟨1,h,by rw [hn,if_neg (by omega)],by omega,by omega⟩
 ·exact⟨2,h,by rw [hn,if_pos h],by omega,by omega⟩
theorem joinB_snoc (p:List Ix) (x:Ix):joinB (p++[x])=joinB p++x.bytes:=by simp [joinB]
theorem own_src {w:World} {base:Nat} {v:Value} {n:Nat} {l:List UInt8} (h:w.ownsRow base 5 1 v n (byL l)) (hl:0<l.length) :
  ∃ (ad:Addr) (c:Nat),v=.slice (some ad) l.length c∧∀ j u,(byL l)[j]?=some u→w.cell? (ad.add j)=some u:=by
 obtain⟨a,c,rfl,-,-,h3⟩:=own_bytes h
 rcases h3 with rfl|⟨k,o,rfl,hB⟩
 ·simp at hl
 ·exact⟨_,_,rfl,byL_src hB⟩
theorem rjoin_none (a:Option Addr) (cap:Nat) (w:World):Calls Tryz.prog 46 #[.slice a 0 cap] w fun e w'=>∃ v,e=.returned v∧BsAt w' v []∧Below w.heap.size w w':=by
 go_enter Tryz.func46,Tryz.ntmps46
 go_wp2
 refine wp_loop_rounds 1 ?_
 rw [rounds_succ]
 go_wp2
 go_ret
 exact⟨_,rfl,⟨none,0,rfl,Nat.le_refl _,by unfold maxLen;omega,.inl rfl⟩,Below.refl _ _⟩
theorem rjoin_some (k o n cap:Nat) (xs:List Ix) (w:World) (hn:xs.length=n) (hm:n≤100000) (hi:Inss w k o xs) (h0:∀ x∈xs,x.err=0) :
  Calls Tryz.prog 46 #[.slice (some ⟨k,o,none⟩) n cap] w fun e w'=>∃ v,e=.returned v∧BsAt w' v (joinB xs)∧Below w.heap.size w w':=by
 obtain⟨i0,hi0,hz0,hz1,hz2⟩:=info_parts Tryz.info5
 have HI:=Lib.hid hi
 have HG:=Lib.hid h0
 have HN:=Lib.hid hn
 clear hi h0 hn
 go_enter Tryz.func46,Tryz.ntmps46
 go_wp2
 go_loopw [3,4] (fun b i wr=>∃ (j:Nat) (m:Nat) (l:List UInt8),j≤n∧i=.int .i64 (j:Int)∧wr.ownsRow w.heap.size 5 1 b m (byL l)∧m≤16*j∧Hid (l=joinB (xs.take j))∧Below w.heap.size w wr) (fun _ i _=>n-(intOf i).toNat)
 case atStart=>exact⟨0,0,[],Nat.zero_le _,rfl,World.ownsRow_nil _ _ _ _,by omega,Lib.hid (by simp [joinB]),Below.refl _ _⟩
 case round =>
  obtain⟨j,m,l,hj,rfl,hown,hm16,hL,hB⟩:=hrel
  by_cases hlt:j<n
  ·have hjx:j<xs.length:=by rw [HN.out];exact hlt
   obtain⟨x,hx⟩:∃ x,xs[j]=x:=⟨_,rfl⟩
   have hI:=(HI.out.up hB) j hjx
   rw [hx] at hI
   have a0:=hI 0 _ rfl
   have a1:=hI 1 _ rfl
   have a2:=hI 2 _ rfl
   have a3:=hI 3 _ rfl
   have a4:=hI 4 _ rfl
   have a5:=hI 5 _ rfl
   rw [Nat.add_zero] at a0
   have hlt':(j:Int)<(n:Int):=by omega
   have hg:x.err=0:=by rw [← hx];exact HG.out _ (List.getElem_mem _)
   have HX:=Lib.hid hx
   have HE:=Lib.hid (fun w=>renc_ok x w hg)
   obtain⟨sl,-,hbl,hs1,hs2⟩:=bytes_slots x hg
   have hpos:0<x.bytes.length:=by omega
   have hb16:=bytes_length x
   have hsz:=hB.size
   clear hI hx hg hbl hs1 hs2
   go_wp2_with (first|(go_at_call 84;((with_reducible refine (HE.out _).mono ?_);rintro e w2 ⟨v4,rfl,h4,b4⟩;have hown2:=own_below hown b4;obtain⟨ad,c4,rfl,hsrc⟩:=own_src h4 hpos;have hs4:=b4.size))|(at_builtin;refine wpList_append_own _ rfl _ _ 23 rfl w.heap.size 5 i0 (.int .u8 0) 1 1 Tryz.underlying23 hi0 hz0 hz1 hz2 rfl (by decide) _ m _ rfl hown2 ad x.bytes.length c4 (byL x.bytes) rfl (by rw [byL_len];omega) hsrc (byL_one _) (by unfold maxLen;omega) (by omega) (by omega) ?_;intro v' w3 hown3 hgrow3 _))
   go_roundw
   case rel =>
    have hT:xs.take (j+1)=xs.take j++[x]:=by rw [List.take_succ_eq_append_getElem hjx,HX.out]
    refine⟨j+1,m+x.bytes.length,l++x.bytes,by omega,by go_num,by rw [byL_append];exact hown3,by omega,Lib.hid ?_,(bch hB b4).grown hgrow3 (by omega) (own_base hown)⟩
    rw [hT,hL.out,joinB_snoc]
   case measure=>simp [intOf];omega
  ·have hge:¬ (j:Int)<(n:Int):=by omega
   have hjn:j=n:=by omega
   have HJ:=Lib.hid hjn
   clear hjn
   go_wp2
   have hT:xs.take j=xs:=List.take_of_length_le (by rw [HN.out,HJ.out];exact Nat.le_refl _)
   have hLL:l=joinB xs:=by rw [hL.out,hT]
   rw [hLL] at hown
   go_ret
   exact⟨_,rfl,own_bytes hown,hB⟩
theorem rjoin_at (v:Value) (xs:List Ix) (w:World) (hm:xs.length≤100000) (hv:InAt w v xs) (h0:∀ x∈xs,x.err=0):Calls Tryz.prog 46 #[v] w fun e w'=>∃ v,e=.returned v∧BsAt w' v (joinB xs)∧Below w.heap.size w w':=by
 obtain⟨a,cap,rfl,h⟩:=hv
 rcases h with rfl|⟨k,o,rfl,h⟩
 ·exact rjoin_none a cap w
 ·exact rjoin_some k o _ cap xs w rfl hm h h0
end Go.Proofs.YtohkgdfkklfgmaaGreatDoor.L5
end
