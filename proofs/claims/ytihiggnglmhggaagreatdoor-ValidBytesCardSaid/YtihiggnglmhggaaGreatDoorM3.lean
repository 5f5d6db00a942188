/- Lemmas and walks of L1Base, L2Base, L2Rformat, L2Names, L2Valid, L2Rep, L5Put: what each theorem states; conditions stand in each theorem. -/
import Derived.Deep.RegionHeld3
import Derived.Lib.ItoaMem
import Derived.Test.YtihiggnglmhggaaGreatDoorM9
import Derived.Lib.EndianBits
set_option maxHeartbeats 2000000
set_option maxRecDepth 100000
section
namespace Go.Proofs.YtihiggnglmhggaaGreatDoor
theorem zA (l:List Value) (i:Nat) (a:Value):l.toArray.setIfInBounds i a=(l.set i a).toArray:=List.setIfInBounds_toArray ..
theorem zB (a:Value) (l:List Value) (b:Value):(a::l).set 0 b=b::l:=rfl
theorem zC (a:Value) (l:List Value) (n:Nat) (b:Value):(a::l).set (n+1) b=a::l.set n b:=rfl
theorem zz:(∀ (l:List Value) (p:List Deferred) (d:Nat) (v:Value),Act.put ⟨l.toArray,p⟩ (some d) v=⟨(l.set d v).toArray,p⟩)∧(∀ (a:Act) (v:Value),a.put none v=a)∧(∀ (a:Value) (l:List Value) (b:Value),(a::l).set 0 b=b::l)∧(∀ (a:Value) (l:List Value) (n:Nat) (b:Value),(a::l).set (n+1) b=a::l.set n b) :=
 ⟨fun l _ _ _=>by simp [Act.put],fun _ _=>rfl,fun _ _ _=>rfl,fun _ _ _ _=>rfl⟩
section
variable {P:Program} {ops:Array Oper} {Q:Exit→Act→World→Prop} {md:Region.Mode} {S:World→Prop} {fuel:Nat} {listed:Array Bool} {a:Act} {w:World} {ty:TypeId} {po:String} {af:Array Edge} {g:Option (Nat × Bool)}
theorem zTn (i d:Nat) (x:Op) (hi:ops[i]?=some ⟨some d,x,ty,po,af,g⟩) (hS:S w)
  (h:wpAnyH P md ops Q S fuel (listed.setIfInBounds i true) (a.put (some d) undef) w) (hQ:∀ c a w,Q (.panic c) (a.put (some d) undef) w→Q (.panic c) a w:=by exact fun _ _ _ h=>h) (hw:Region.wanted ⟨some d,x,ty,po,af,g⟩ (yielded ops a.tmps)=false:=by rfl) (hs:Region.noSelect ops=true:=by kernel_rfl) (hf:Region.free md ops listed i=true:=by kernel_rfl) (hr:(Region.ready md ops listed).contains i=true:=by kernel_rfl):wpAnyH P md ops Q S (fuel+1) listed a w :=
 wpAnyH_take hi hs hf hr hQ (.inr ⟨hw,rfl⟩) hS h
section
variable (i d:Nat) (x:Op) (v:Value) (hi:ops[i]?=some ⟨some d,x,ty,po,af,g⟩) (hS:S w) (h:wpAnyH P md ops Q S fuel (listed.setIfInBounds i true) (a.put (some d) v) w)
include i d x v hi hS h
theorem zT0 (he:∀ w,S w→(execOp a.eval ⟨some d,x,ty,po,af,g⟩).run P w=.ok (.value v) w:=by exact fun _ _=>by rfl) (hQ:∀ c a w,Q (.panic c) (a.put (some d) v) w→Q (.panic c) a w:=by exact fun _ _ _ h=>h) (hw:Region.wanted ⟨some d,x,ty,po,af,g⟩ (yielded ops a.tmps)=true:=by rfl) (hs:Region.noSelect ops=true:=by kernel_rfl) (hf:Region.free md ops listed i=true:=by kernel_rfl) (hr:(Region.ready md ops listed).contains i=true:=by kernel_rfl):wpAnyH P md ops Q S (fuel+1) listed a w :=
 wpAnyH_take hi hs hf hr hQ (.inl ⟨hw,he⟩) hS h
theorem zT2 (he:∀ w,S w→(execOp a.eval ⟨some d,x,ty,po,af,g⟩).run P w=.ok (.value v) w:=by intro wS hS;subst hS;go_simp) (hQ:∀ c a w,Q (.panic c) (a.put (some d) v) w→Q (.panic c) a w:=by exact fun _ _ _ h=>h) (hw:Region.wanted ⟨some d,x,ty,po,af,g⟩ (yielded ops a.tmps)=true:=by rfl) (hs:Region.noSelect ops=true:=by kernel_rfl) (hf:Region.free md ops listed i=true:=by kernel_rfl) (hr:(Region.ready md ops listed).contains i=true:=by kernel_rfl):wpAnyH P md ops Q S (fuel+1) listed a w :=
 wpAnyH_take hi hs hf hr hQ (.inl ⟨hw,he⟩) hS h
theorem zT3 (he:∀ w,S w→(execOp a.eval ⟨some d,x,ty,po,af,g⟩).run P w=.ok (.value v) w:=by intro wS hS;go_simp) (hQ:∀ c a w,Q (.panic c) (a.put (some d) v) w→Q (.panic c) a w:=by exact fun _ _ _ h=>h) (hw:Region.wanted ⟨some d,x,ty,po,af,g⟩ (yielded ops a.tmps)=true:=by rfl) (hs:Region.noSelect ops=true:=by kernel_rfl) (hf:Region.free md ops listed i=true:=by kernel_rfl) (hr:(Region.ready md ops listed).contains i=true:=by kernel_rfl):wpAnyH P md ops Q S (fuel+1) listed a w :=
 wpAnyH_take hi hs hf hr hQ (.inl ⟨hw,he⟩) hS h
end
theorem zT1 (i d:Nat) (x:Op) (v:Value) (hi:ops[i]?=some ⟨some d,x,ty,po,af,g⟩) (he:∀ w,S w→(execOp a.eval ⟨some d,x,ty,po,af,g⟩).run P w=.ok (.value v) w) (hS:S w)
  (h:wpAnyH P md ops Q S fuel (listed.setIfInBounds i true) (a.put (some d) v) w) (hQ:∀ c a w,Q (.panic c) (a.put (some d) v) w→Q (.panic c) a w:=by exact fun _ _ _ h=>h) (hw:Region.wanted ⟨some d,x,ty,po,af,g⟩ (yielded ops a.tmps)=true:=by rfl) (hs:Region.noSelect ops=true:=by kernel_rfl) (hf:Region.free md ops listed i=true:=by kernel_rfl) (hr:(Region.ready md ops listed).contains i=true:=by kernel_rfl):wpAnyH P md ops Q S (fuel+1) listed a w :=
 wpAnyH_take hi hs hf hr hQ (.inl ⟨hw,he⟩) hS h
end
end Go.Proofs.YtihiggnglmhggaaGreatDoor
namespace Go.Proofs.YtihiggnglmhggaaGreatDoor.L1
open Go.RowKit
def Wid (w:World):Prop:=∃ t fr,w.heap[0]?=some (.cells #[.int .i64 8,.int .i64 16,.int .i64 32,.int .i64 64] t fr)
def isW (b:Int):Bool:=b==8 || b==16 || b==32 || b==64
theorem isWidth_yes (b:Int) (w:World) (hw:Wid w) (h:b=8∨b=16∨b=32∨b=64) :
  Calls Tryz.prog 166 #[.int .i64 b] w fun e w'=>e=.returned (.bool true)∧w=w':=by
 obtain⟨t,fr,hg⟩:=hw
 have i0:∀ w,(Instr.index 238 (.agg #[.int .i64 8,.int .i64 16,.int .i64 32,.int .i64 64]) (.int .i64 0)).run Tryz.prog w=.ok (.int .i64 8) w:=fun _=>by kernel_rfl
 have i1:∀ w,(Instr.index 238 (.agg #[.int .i64 8,.int .i64 16,.int .i64 32,.int .i64 64]) (.int .i64 1)).run Tryz.prog w=.ok (.int .i64 16) w:=fun _=>by kernel_rfl
 have i2:∀ w,(Instr.index 238 (.agg #[.int .i64 8,.int .i64 16,.int .i64 32,.int .i64 64]) (.int .i64 2)).run Tryz.prog w=.ok (.int .i64 32) w:=fun _=>by kernel_rfl
 have i3:∀ w,(Instr.index 238 (.agg #[.int .i64 8,.int .i64 16,.int .i64 32,.int .i64 64]) (.int .i64 3)).run Tryz.prog w=.ok (.int .i64 64) w:=fun _=>by kernel_rfl
 rcases h with rfl|rfl|rfl|rfl
 all_goals
  go_enter Tryz.func166,Tryz.ntmps166
  go_wp2_with (refine wpList_load_row rfl 238 _ rfl 0 rfl t _ fr _ hg Tryz.underlying238 rfl (by kernel_rfl) ?_)
  refine wp_loop_rounds 5 ?_
  repeat (rw [rounds_succ];go_wp2)
  go_ret
  exact⟨rfl,rfl⟩
theorem ret_int {k:IntKind} {a b:Int} (h:a=b):Ending.returned (.int k a)=.returned (.int k b):=by rw [h]
theorem ret_bool {a b:Bool} (h:a=b):Ending.returned (.bool a)=.returned (.bool b):=by rw [h]
theorem width_any (b:Int) (w:World) :
  Calls Tryz.prog 117 #[.int .i64 b] w fun e w'=>e=.returned (.bool (isW b))∧w=w':=by
 go_enter Tryz.func117,Tryz.ntmps117
 go_wp2
 all_goals
  go_ret
  exact⟨ret_bool (by simp [isW, *]),rfl⟩
theorem width_is (b:Int) (w:World) (c:Bool) (h:isW b=c) :
  Calls Tryz.prog 117 #[.int .i64 b] w fun e w'=>e=.returned (.bool c)∧w=w':=by
 rw [← h];exact width_any b w
def gr (neg:Bool) (b:Int):Int:=if neg then 2 ^ (b-1).toNat else 2 ^ b.toNat-1
def sx (b x:Int):Int :=
 if b=8 then (x+128) % 256-128 else if b=16 then (x+32768) % 65536-32768 else if b=32 then (x+2147483648) % 4294967296-2147483648 else (x+9223372036854775808) % 18446744073709551616-9223372036854775808
theorem extend_yes (x b:Int) (w:World) (h0:0≤x) (h1:x<18446744073709551616) (hw:Wid w) (h:b=8∨b=16∨b=32∨b=64) :
  Calls Tryz.prog 167 #[.int .u64 x,.int .i64 b] w fun e w'=>e=.returned (.int .i64 (sx b x))∧w=w':=by
 rcases h with rfl|rfl|rfl|rfl
 all_goals
  go_enter Tryz.func167,Tryz.ntmps167
  go_wp2_with (go_at_call 166;refine (isWidth_yes _ _ hw (by decide)).mono ?_;rintro e w' ⟨rfl,rfl⟩)
  go_ret
  refine⟨ret_int ?_,rfl⟩
  simp only [sx,wrap64,IntKind.wrap_u64]
  first|omega|(simp;omega)|(simp;done)
theorem sx_mod (b x:Int):sx b (x % 18446744073709551616)=sx b x:=by
 unfold sx
 repeat' split
 all_goals omega
theorem fits_yes (x b:Int) (w:World) (hw:Wid w) (h:b=8∨b=16∨b=32∨b=64) :
  Calls Tryz.prog 134 #[.int .i64 x,.int .i64 b] w fun e w'=>e=.returned (.bool (sx b x==x))∧w=w':=by
 have h0:0≤IntKind.u64.wrap x:=by rw [IntKind.wrap_u64];omega
 have h1:IntKind.u64.wrap x<18446744073709551616:=by rw [IntKind.wrap_u64];omega
 go_enter Tryz.func134,Tryz.ntmps134
 go_wp2_with (first|(go_at_call 166;refine (isWidth_yes _ _ hw h).mono ?_;rintro e w' ⟨rfl,rfl⟩)|(go_at_call 167;refine (extend_yes _ _ _ h0 h1 hw h).mono ?_;rintro e w' ⟨rfl,rfl⟩))
 go_ret
 refine⟨ret_bool ?_,rfl⟩
 show (sx b (IntKind.u64.wrap x)==x)=_
 rw [IntKind.wrap_u64,sx_mod]
theorem power_any (n:Nat) (w:World) (hn:n≤63) :
  Calls Tryz.prog 118 #[.int .i64 n] w fun e w'=>e=.returned (.int .u64 ((2:Int) ^ n))∧w=w':=by
 go_enter Tryz.func118,Tryz.ntmps118
 go_wp2
 go_loop [3,4] (fun x i=>∃ k:Nat,k≤n∧i=.int .i64 k∧x=.int .u64 ((2:Int) ^ k)) (fun _ i=>n-(intOf i).toNat)
 case atStart=>exact⟨0,Nat.zero_le _,rfl,rfl⟩
 case round =>
  obtain⟨k,hk,rfl,rfl⟩:=hrel
  by_cases hlt:k<n
  ·have HS:=Lib.hid (Int.pow_succ 2 k)
   have h1:(2:Int) ^ k≤4611686018427387904:=by
    have:2 ^ k≤2 ^ 62:=Nat.pow_le_pow_right (by decide) (by omega)
    have h2:((2 ^ k:Nat):Int)≤((2 ^ 62:Nat):Int):=by exact_mod_cast this
    simpa using h2
   have h0:0≤(2:Int) ^ k:=Int.pow_nonneg (by decide)
   go_wp2
   go_round
   case rel=>exact⟨k+1,by omega,by go_num,by rw [HS.out];try go_num⟩
   case measure=>simp [intOf];omega
  ·have:k=n:=by omega
   subst this
   go_wp2
   go_ret
   exact⟨rfl,rfl⟩
theorem power_at (b:Int) (n:Nat) (p:Int) (w:World) (hb:b=n) (hn:n≤63) (hp:p=(2:Int) ^ n) :
  Calls Tryz.prog 118 #[.int .i64 b] w fun e w'=>e=.returned (.int .u64 p)∧w=w':=by
 subst hb;subst hp;exact power_any n w hn
theorem rextend_8 (x:Int) (w:World) (h0:0≤x) (h1:x<18446744073709551616) :
  Calls Tryz.prog 74 #[.int .u64 x,.int .i64 8] w fun e w'=>e=.returned (.int .i64 (sx 8 x))∧w=w':=by
 go_enter Tryz.func74,Tryz.ntmps74
 go_wp2_with (first|(go_at_call 117;refine (width_is _ _ true (by decide)).mono ?_;rintro e w' ⟨rfl,rfl⟩)|((with_reducible go_at_call 118);((with_reducible refine (power_at 8 8 256 _ rfl (by decide) rfl).mono ?_);rintro e w' ⟨rfl,rfl⟩))|(go_at_call 118;((with_reducible refine (power_at 7 7 128 _ rfl (by decide) rfl).mono ?_);rintro e w' ⟨rfl,rfl⟩)))
 all_goals
  go_ret
  refine⟨ret_int ?_,rfl⟩
  simp only [sx]
  first|omega|(simp;omega)
theorem rextend_32 (x:Int) (w:World) (h0:0≤x) (h1:x<18446744073709551616) :
  Calls Tryz.prog 74 #[.int .u64 x,.int .i64 32] w fun e w'=>e=.returned (.int .i64 (sx 32 x))∧w=w':=by
 go_enter Tryz.func74,Tryz.ntmps74
 go_wp2_with (first|(go_at_call 117;refine (width_is _ _ true (by decide)).mono ?_;rintro e w' ⟨rfl,rfl⟩)|((with_reducible go_at_call 118);((with_reducible refine (power_at 32 32 4294967296 _ rfl (by decide) rfl).mono ?_);rintro e w' ⟨rfl,rfl⟩))|(go_at_call 118;((with_reducible refine (power_at 31 31 2147483648 _ rfl (by decide) rfl).mono ?_);rintro e w' ⟨rfl,rfl⟩)))
 all_goals
  go_ret
  refine⟨ret_int ?_,rfl⟩
  simp only [sx]
  first|omega|(simp;omega)
def dg (r:Int):Int:=if 48≤r∧r≤57 then r-48 else if 97≤r∧r≤102 then r-87 else if 65≤r∧r≤70 then r-55 else 18446744073709551615
end Go.Proofs.YtihiggnglmhggaaGreatDoor.L1
end
section
namespace Go.Proofs.YtihiggnglmhggaaGreatDoor.L2
open Go.RowKit
theorem ret_int {k:IntKind} {a b:Int} (h:a=b):Ending.returned (.int k a)=.returned (.int k b):=by rw [h]
theorem ret_bool {a b:Bool} (h:a=b):Ending.returned (.bool a)=.returned (.bool b):=by rw [h]
theorem bch {w a b:World} (h:Below w.heap.size w a) (k:Below a.heap.size a b):Below w.heap.size w b:=h.trans (k.mono h.size)
def dgt (r:Int):Bool:=decide (48≤r) && decide (r≤57)
def wch (r:Int):Bool:=(decide (65≤r) && decide (r≤90)) || (decide (97≤r) && decide (r≤122)) || dgt r || r==95 || r==46
theorem isDigit_any (r:Int) (w:World):Calls Tryz.prog 233 #[.int .i32 r] w fun e w'=>e=.returned (.bool (dgt r))∧w=w':=by
 go_enter Tryz.func233,Tryz.ntmps233
 go_wp2
 all_goals
  go_ret
  exact⟨ret_bool (by rw [Bool.eq_iff_iff];simp [dgt];try omega),rfl⟩
theorem isDigit_at (r:Int) (b:Bool) (w:World) (h:dgt r=b):Calls Tryz.prog 233 #[.int .i32 r] w fun e w'=>e=.returned (.bool b)∧w=w':=by
 subst h;exact isDigit_any r w
theorem isWord_any (r:Int) (w:World):Calls Tryz.prog 238 #[.int .i32 r] w fun e w'=>e=.returned (.bool (wch r))∧w=w':=by
 obtain⟨d,hd⟩:∃ d,dgt r=d:=⟨_,rfl⟩
 have HD:=Lib.hid hd
 clear hd
 cases d
 all_goals
  go_enter Tryz.func238,Tryz.ntmps238
  go_wp2_with (go_at_call 233;((with_reducible refine (isDigit_at r _ _ HD.out).mono ?_);rintro e w' ⟨rfl,rfl⟩))
  all_goals
   go_ret
   exact⟨ret_bool (by have:=HD.out;rw [Bool.eq_iff_iff];simp only [wch,this];simp;try omega),rfl⟩
theorem isWord_at (r:Int) (b:Bool) (w:World) (h:wch r=b):Calls Tryz.prog 238 #[.int .i32 r] w fun e w'=>e=.returned (.bool b)∧w=w':=by
 subst h;exact isWord_any r w
theorem in_any (c:Int) (w:World):Calls Tryz.prog 145 #[.int .u8 c] w fun e w'=>e=.returned (.bool (wch c))∧w=w':=by
 go_enter Tryz.func145,Tryz.ntmps145
 go_wp2
 all_goals
  go_ret
  exact⟨ret_bool (by rw [Bool.eq_iff_iff];simp [wch,dgt];try omega),rfl⟩
theorem in_at (c:Int) (b:Bool) (w:World) (h:wch c=b):Calls Tryz.prog 145 #[.int .u8 c] w fun e w'=>e=.returned (.bool b)∧w=w':=by
 subst h;exact in_any c w
def wn:List UInt8→Nat
 | []=>0
 | c::r=>if wch (c.toNat:Int) then wn r+1 else 0
theorem drop_at (t:ByteArray) (pos:Nat) (h:pos<t.size):t.data.toList.drop pos=t[pos]::t.data.toList.drop (pos+1):=by
 rw [List.drop_eq_getElem_cons (by simpa using h)];rfl
theorem wch_high {r:Int} (h:128≤r):wch r=false:=by
 have h1:¬ r≤90:=by omega
 have h2:¬ r≤122:=by omega
 have h3:¬ r≤57:=by omega
 have h4:¬ r=95:=by omega
 have h5:¬ r=46:=by omega
 simp [wch,dgt,h1,h2,h3,h4,h5]
theorem wch_decode (t:ByteArray) (pos:Nat) (h:pos<t.size):wch (Utf8.decode t pos).1=wch ((t[pos]'h).toNat:Int):=by
 by_cases ha:(t[pos]'h).toNat<128
 ·rw [decode_ascii t pos h ha]
 ·have:=decode_high t pos h (by omega)
  rw [wch_high (by omega),wch_high (by omega)]
theorem decode_one (t:ByteArray) (pos:Nat) (h:pos<t.size) (hd:wch ((t[pos]'h).toNat:Int)=true):(Utf8.decode t pos).2=1:=by
 by_cases ha:(t[pos]'h).toNat<128
 ·rw [decode_ascii t pos h ha]
 ·rw [wch_high (by omega)] at hd
  cases hd
theorem word_any (s:ByteArray) (w:World):Calls Tryz.prog 235 #[.string s] w fun e w'=>e=.returned (.int .i64 (wn s.data.toList))∧Below w.heap.size w w':=by
 go_enter Tryz.func235,Tryz.ntmps235
 go_wp2
 go_loopw [] (fun wr=>∃ pos:Nat,pos≤s.size∧wr.heap[w.heap.size]?=some (.stringIter s pos)∧Below w.heap.size w wr∧Hid (pos+wn (s.data.toList.drop pos)=wn s.data.toList)) (fun wr=>s.size-wr.iterPos w.heap.size)
 case atStart=>exact⟨0,Nat.zero_le _,heap_alloc_new _ _,(Below.refl _ _).alloc (Nat.le_refl _) _,Lib.hid (by simp)⟩
 case round =>
  obtain⟨pos,hp,hit,hbel,hR⟩:=hrel
  by_cases hlt:pos<s.size
  ·obtain⟨W1,hW1⟩:∃ W1,W1=wr.iterAt w.heap.size s (pos+(Utf8.decode s pos).2):=⟨_,rfl⟩
   have hnx:∀ ty,(Instr.next (.pointer (some ⟨w.heap.size,0,none⟩)) true ty).run Tryz.prog wr=.ok (.tuple #[.bool true,.int .i64 pos,.int .i32 (Utf8.decode s pos).1]) W1:=fun ty=>hW1 ▸ Lib.run_next_any_at wr _ s pos ty hit hlt
   have hi1:W1.heap[w.heap.size]?=some (.stringIter s (pos+(Utf8.decode s pos).2)):=by rw [hW1];exact Lib.iterAt_heap _ _ _ _ _ hit
   have hbel1:Below w.heap.size w W1:=by rw [hW1];exact Lib.below_iterAt hbel (Nat.le_refl _) _ _
   have HI:=Lib.hid hi1
   clear hW1 hi1
   have HD:=Lib.hid (wch_decode s pos hlt)
   have HE:=Lib.hid (drop_at s pos hlt)
   have HT:=Lib.hid hit
   clear hit
   cases hc:wch ((s[pos]'hlt).toNat:Int) with
   | true =>
    have HC:=Lib.hid hc
    clear hc
    go_wp2_with (go_at_call 238;((with_reducible refine (isWord_at _ true _ (HD.out.trans HC.out)).mono ?_);rintro e w' ⟨rfl,rfl⟩))
    go_roundw
    case rel =>
     refine⟨pos+1,by omega,?_,hbel1,Lib.hid ?_⟩
     ·have:=HI.out
      rw [decode_one s pos hlt HC.out] at this
      exact this
     ·have:=hR.out
      rw [HE.out] at this
      simp only [wn,HC.out,if_true] at this
      omega
    case measure =>
     have:=HI.out
     rw [decode_one s pos hlt HC.out] at this
     rw [iterPos_of HT.out,iterPos_of this]
     omega
   | false =>
    have HC:=Lib.hid hc
    clear hc
    go_wp2_with (go_at_call 238;((with_reducible refine (isWord_at _ false _ (HD.out.trans HC.out)).mono ?_);rintro e w' ⟨rfl,rfl⟩))
    go_ret
    refine⟨ret_int ?_,hbel1⟩
    have:=hR.out
    rw [HE.out] at this
    simp only [wn,HC.out] at this
    simp only [Bool.false_eq_true,if_false] at this
    omega
  ·have hnx:∀ ty,(Instr.next (.pointer (some ⟨w.heap.size,0,none⟩)) true ty).run Tryz.prog wr=.ok (.tuple #[.bool false]) wr:=fun ty=>Lib.run_next_end_at wr _ s pos ty hit hlt
   go_wp2
   go_ret
   refine⟨ret_int ?_,hbel⟩
   have:=hR.out
   rw [List.drop_eq_nil_of_le (by simp;omega)] at this
   simp only [wn] at this
   omega
theorem word_at (s:ByteArray) (n:Int) (w:World) (h:(wn s.data.toList:Int)=n):Calls Tryz.prog 235 #[.string s] w fun e w'=>e=.returned (.int .i64 n)∧Below w.heap.size w w':=by
 subst h;exact word_any s w
theorem rword_any (s:ByteArray) (w:World) (hs:s.size≤9223372036854775807):Calls Tryz.prog 105 #[.string s] w fun e w'=>e=.returned (.int .i64 (wn s.data.toList))∧w=w':=by
 go_enter Tryz.func105,Tryz.ntmps105
 go_wp2
 go_loop [3] (fun i=>∃ pos:Nat,i=.int .i64 pos∧pos≤s.size∧Hid (pos+wn (s.data.toList.drop pos)=wn s.data.toList)) (fun i=>s.size-(intOf i).toNat)
 case atStart=>exact⟨0,rfl,Nat.zero_le _,Lib.hid (by simp)⟩
 case round =>
  obtain⟨pos,rfl,hp,hR⟩:=hrel
  by_cases hlt:pos<s.size
  ·have HE:=Lib.hid (drop_at s pos hlt)
   cases hc:wch ((s[pos]'hlt).toNat:Int) with
   | true =>
    have HC:=Lib.hid hc
    clear hc
    go_wp2_with (go_at_call 145;((with_reducible refine (in_at _ true _ HC.out).mono ?_);rintro e w' ⟨rfl,rfl⟩))
    go_round
    case rel =>
     refine⟨pos+1,by go_num,by omega,Lib.hid ?_⟩
     have:=hR.out
     rw [HE.out] at this
     simp only [wn,HC.out,if_true] at this
     omega
    case measure=>simp [intOf];omega
   | false =>
    have HC:=Lib.hid hc
    clear hc
    go_wp2_with (go_at_call 145;((with_reducible refine (in_at _ false _ HC.out).mono ?_);rintro e w' ⟨rfl,rfl⟩))
    go_ret
    refine⟨ret_int ?_,rfl⟩
    have:=hR.out
    rw [HE.out] at this
    simp only [wn,HC.out] at this
    simp only [Bool.false_eq_true,if_false] at this
    omega
  ·go_wp2
   go_ret
   refine⟨ret_int ?_,rfl⟩
   have:=hR.out
   rw [List.drop_eq_nil_of_le (by simp;omega)] at this
   simp only [wn] at this
   omega
theorem rword_at (s:ByteArray) (n:Int) (w:World) (hs:s.size≤9223372036854775807) (h:(wn s.data.toList:Int)=n):Calls Tryz.prog 105 #[.string s] w fun e w'=>e=.returned (.int .i64 n)∧w=w':=by
 subst h;exact rword_any s w hs
def fl (r:Nat) (t:List UInt8):List UInt8:=if r=0∧t≠[] then t else Lib.decDigits r++t
def slen:Value→Nat
 | .string t=>if t.size=0 then 1 else 0
 | _=>0
theorem fl_len (r:Nat) (t:List UInt8):t.length≤(fl r t).length:=by
 unfold fl
 split
 ·exact Nat.le_refl _
 ·rw [List.length_append];omega
theorem dec_len:∀ (n u:Nat),u<10 ^ (n+1)→(Lib.decDigits u).length≤n+1
 | 0,u,h=>by
  rw [Lib.decDigits,dif_pos (by simpa using h)]
  exact Nat.le_refl _
 | n+1,u,h=>by
  rw [Lib.decDigits]
  split
  ·simp
  ·have hd:u / 10<10 ^ (n+1):=by
    have e:10 ^ (n+1+1)=10 ^ (n+1)*10:=Nat.pow_succ 10 (n+1)
    omega
   have:=dec_len n (u / 10) hd
   rw [List.length_append]
   simp
   omega
theorem fl_step (r:Nat) (t:List UInt8) (c:UInt8) (hr:r≠0∨t=[]) (hc:c=UInt8.ofNat (48+r % 10)):fl (r / 10) (c::t)=fl r t:=by
 subst hc
 have h1:fl r t=Lib.decDigits r++t:=by
  unfold fl
  rw [if_neg]
  rintro ⟨a,b⟩
  rcases hr with h|h
  ·exact h a
  ·exact b h
 rw [h1]
 unfold fl
 by_cases h10:r<10
 ·rw [if_pos ⟨by omega,by simp⟩,Lib.decDigits,dif_pos h10,Nat.mod_eq_of_lt h10]
  rfl
 ·rw [if_neg (by intro h;have:=h.1;omega)]
  rw [Lib.decDigits.eq_1 r,dif_neg h10,List.append_assoc]
  rfl
theorem fl_nil (u:Nat):fl u []=Lib.decDigits u:=by
 unfold fl;rw [if_neg (by simp),List.append_nil]
theorem dec_slice (d:Nat) (hd:d<10) (w:World) :
  (Instr.slice 9 (.string ⟨#[48,49,50,51,52,53,54,55,56,57]⟩) (some (.int .u64 (d:Int))) (some (.int .u64 ((d:Int)+1))) none).run Tryz.prog w=.ok (.string ⟨#[UInt8.ofNat (48+d)]⟩) w:=by
 rcases (show d=0∨d=1∨d=2∨d=3∨d=4∨d=5∨d=6∨d=7∨d=8∨d=9 by omega) with rfl|rfl|rfl|rfl|rfl|rfl|rfl|rfl|rfl|rfl <;> kernel_rfl
theorem size_list (t:ByteArray):t.size=t.data.toList.length:=by rw [Array.length_toList];rfl
theorem app_list (c:UInt8) (t:ByteArray):((⟨#[c]⟩:ByteArray)++t).data.toList=c::t.data.toList:=by simp
theorem app_eq (c:UInt8) (t:ByteArray):((⟨#[c]⟩:ByteArray)++t)=⟨(c::t.data.toList).toArray⟩:=by
 have h:=app_list c t
 cases hh:((⟨#[c]⟩:ByteArray)++t) with
 | mk a =>
  rw [hh] at h
  simp only at h
  rw [← h]
theorem rformat_any (x:Int) (w:World) (h0:-9223372036854775808≤x) (h1:x≤9223372036854775807) :
  Calls Tryz.prog 172 #[.int .i64 x] w fun e w'=>e=.returned (.string ⟨(Lib.itoa x).toArray⟩)∧w=w':=by
 obtain⟨u,hu⟩:∃ u:Nat,u=x.natAbs:=⟨_,rfl⟩
 have hub:u≤9223372036854775808:=by omega
 by_cases hneg:x<0
 ·have HI:Hid (Lib.itoa x=45::Lib.decDigits u):=Lib.hid (by rw [Lib.itoa,if_pos hneg,hu])
  have HW:Hid (IntKind.u64.wrap (-IntKind.u64.wrap x)=(u:Int)):=Lib.hid (by rw [IntKind.wrap_u64,IntKind.wrap_u64];omega)
  clear hu
  go_enter Tryz.func172,Tryz.ntmps172
  go_wp2
  go_loop [4,5] (fun r s=>∃ (k:Nat) (t:ByteArray),k≤u∧r=.int .u64 k∧s=.string t∧Hid (fl k t.data.toList=Lib.decDigits u)) (fun r s=>(intOf r).toNat+slen s)
  case atStart=>exact⟨u,⟨#[]⟩,Nat.le_refl _,by rw [HW.out],rfl,Lib.hid (fl_nil u)⟩
  case round =>
   obtain⟨k,t,hk,rfl,rfl,hF⟩:=hrel
   have htl:t.size≤20:=by
    have h1:=fl_len k t.data.toList
    rw [hF.out] at h1
    have h2:=dec_len 19 u (by omega)
    rw [size_list]
    omega
   by_cases hk0:0<k
   ·obtain⟨c,hc⟩:∃ c:UInt8,c=UInt8.ofNat (48+k % 10):=⟨_,rfl⟩
    have hsl:∀ w,(Instr.slice 9 (.string ⟨#[48,49,50,51,52,53,54,55,56,57]⟩) (some (.int .u64 ((k:Int) % 10))) (some (.int .u64 ((k:Int) % 10+1))) none).run Tryz.prog w=.ok (.string ⟨#[c]⟩) w:=fun w=>by
     have:=dec_slice (k % 10) (by omega) w
     rw [← hc] at this
     rwa [Int.natCast_emod] at this
    have HC:=Lib.hid hc
    clear hc
    have hmx:((1:Nat)+t.size)≤maxLen:=by unfold maxLen;omega
    go_wp2
    go_round
    case rel=>exact⟨k / 10,_,by omega,by go_num,rfl,Lib.hid (by rw [app_list,fl_step k _ _ (Or.inl (by omega)) HC.out];exact hF.out)⟩
    case measure =>
     simp only [intOf,slen]
     have:((⟨#[c]⟩:ByteArray)++t).size≠0:=by rw [size_list,app_list];simp
     rw [if_neg this]
     omega
   ·have hk00:k=0:=by omega
    subst hk00
    by_cases ht0:t.data.toList=[]
    ·have e1:t.toList=[]:=by rw [Lib.toList_data];exact ht0
     have e2:t.toList.isEmpty=true:=by rw [e1];rfl
     have HT:=Lib.hid ht0
     clear ht0
     go_wp2
     go_round
     case rel=>exact⟨0,_,by omega,rfl,rfl,Lib.hid (by rw [show (ByteArray.extract ⟨#[48,49,50,51,52,53,54,55,56,57]⟩ 0 1)=⟨#[48]⟩ from rfl,app_list,show (0:Nat)=0 / 10 from rfl,fl_step 0 _ 48 (Or.inr HT.out) rfl];exact hF.out)⟩
     case measure =>
      simp only [intOf,slen]
      have h1:(ByteArray.extract ⟨#[48,49,50,51,52,53,54,55,56,57]⟩ 0 1++t).size≠0:=by
       rw [show (ByteArray.extract ⟨#[48,49,50,51,52,53,54,55,56,57]⟩ 0 1)=⟨#[48]⟩ from rfl,size_list,app_list];simp
      have h2:t.size=0:=by rw [size_list,HT.out];rfl
      rw [if_neg h1,if_pos h2]
      omega
    ·have e2:t.toList.isEmpty=false:=by rw [Lib.toList_data];simpa using ht0
     have hF':t.data.toList=Lib.decDigits u:=by
      have:=hF.out
      unfold fl at this
      rwa [if_pos ⟨rfl,ht0⟩] at this
     have HG:=Lib.hid hF'
     clear hF' ht0
     go_wp2
     go_ret
     refine⟨?_,rfl⟩
     show Ending.returned (Value.string (⟨#[45]⟩++t))=_
     rw [HI.out,app_eq,HG.out]
 ·have HI:Hid (Lib.itoa x=Lib.decDigits u):=Lib.hid (by rw [Lib.itoa,if_neg hneg,hu];congr 1;omega)
  have HW:Hid (x=(u:Int)):=Lib.hid (by omega)
  clear hu
  go_enter Tryz.func172,Tryz.ntmps172
  go_wp2
  go_loop [4,5] (fun r s=>∃ (k:Nat) (t:ByteArray),k≤u∧r=.int .u64 k∧s=.string t∧Hid (fl k t.data.toList=Lib.decDigits u)) (fun r s=>(intOf r).toNat+slen s)
  case atStart=>exact⟨u,⟨#[]⟩,Nat.le_refl _,by rw [← HW.out],rfl,Lib.hid (fl_nil u)⟩
  case round =>
   obtain⟨k,t,hk,rfl,rfl,hF⟩:=hrel
   have htl:t.size≤20:=by
    have h1:=fl_len k t.data.toList
    rw [hF.out] at h1
    have h2:=dec_len 19 u (by omega)
    rw [size_list]
    omega
   by_cases hk0:0<k
   ·obtain⟨c,hc⟩:∃ c:UInt8,c=UInt8.ofNat (48+k % 10):=⟨_,rfl⟩
    have hsl:∀ w,(Instr.slice 9 (.string ⟨#[48,49,50,51,52,53,54,55,56,57]⟩) (some (.int .u64 ((k:Int) % 10))) (some (.int .u64 ((k:Int) % 10+1))) none).run Tryz.prog w=.ok (.string ⟨#[c]⟩) w:=fun w=>by
     have:=dec_slice (k % 10) (by omega) w
     rw [← hc] at this
     rwa [Int.natCast_emod] at this
    have HC:=Lib.hid hc
    clear hc
    have hmx:((1:Nat)+t.size)≤maxLen:=by unfold maxLen;omega
    go_wp2
    go_round
    case rel=>exact⟨k / 10,_,by omega,by go_num,rfl,Lib.hid (by rw [app_list,fl_step k _ _ (Or.inl (by omega)) HC.out];exact hF.out)⟩
    case measure =>
     simp only [intOf,slen]
     have:((⟨#[c]⟩:ByteArray)++t).size≠0:=by rw [size_list,app_list];simp
     rw [if_neg this]
     omega
   ·have hk00:k=0:=by omega
    subst hk00
    by_cases ht0:t.data.toList=[]
    ·have e1:t.toList=[]:=by rw [Lib.toList_data];exact ht0
     have e2:t.toList.isEmpty=true:=by rw [e1];rfl
     have HT:=Lib.hid ht0
     clear ht0
     go_wp2
     go_round
     case rel=>exact⟨0,_,by omega,rfl,rfl,Lib.hid (by rw [show (ByteArray.extract ⟨#[48,49,50,51,52,53,54,55,56,57]⟩ 0 1)=⟨#[48]⟩ from rfl,app_list,show (0:Nat)=0 / 10 from rfl,fl_step 0 _ 48 (Or.inr HT.out) rfl];exact hF.out)⟩
     case measure =>
      simp only [intOf,slen]
      have h1:(ByteArray.extract ⟨#[48,49,50,51,52,53,54,55,56,57]⟩ 0 1++t).size≠0:=by
       rw [show (ByteArray.extract ⟨#[48,49,50,51,52,53,54,55,56,57]⟩ 0 1)=⟨#[48]⟩ from rfl,size_list,app_list];simp
      have h2:t.size=0:=by rw [size_list,HT.out];rfl
      rw [if_neg h1,if_pos h2]
      omega
    ·have e2:t.toList.isEmpty=false:=by rw [Lib.toList_data];simpa using ht0
     have hF':t.data.toList=Lib.decDigits u:=by
      have:=hF.out
      unfold fl at this
      rwa [if_pos ⟨rfl,ht0⟩] at this
     have HG:=Lib.hid hF'
     clear hF' ht0
     go_wp2
     go_ret
     refine⟨?_,rfl⟩
     show Ending.returned (Value.string t)=_
     rw [HI.out,← HG.out]
def regL:List ByteArray:=[⟨#[114,48]⟩,⟨#[114,49]⟩,⟨#[114,50]⟩,⟨#[114,51]⟩,⟨#[114,52]⟩,⟨#[114,53]⟩,⟨#[114,54]⟩,⟨#[114,55]⟩,⟨#[114,56]⟩,⟨#[114,57]⟩,⟨#[114,49,48]⟩]
def regS (k:Nat):ByteArray:=regL.getD k ⟨#[]⟩
abbrev regC:Array Value:=#[.string ⟨#[114,48]⟩,.string ⟨#[114,49]⟩,.string ⟨#[114,50]⟩,.string ⟨#[114,51]⟩,.string ⟨#[114,52]⟩,.string ⟨#[114,53]⟩,.string ⟨#[114,54]⟩,.string ⟨#[114,55]⟩,.string ⟨#[114,56]⟩,.string ⟨#[114,57]⟩,.string ⟨#[114,49,48]⟩]
def Regs (w:World):Prop:=∃ t fr,w.heap[2]?=some (.cells regC t fr)
theorem reg_index (k:Nat) (hk:k<11) (w:World):(Instr.index 268 (.agg regC) (.int .i64 (k:Int))).run Tryz.prog w=.ok (.string (regS k)) w:=by
 rcases (show k=0∨k=1∨k=2∨k=3∨k=4∨k=5∨k=6∨k=7∨k=8∨k=9∨k=10 by omega) with rfl|rfl|rfl|rfl|rfl|rfl|rfl|rfl|rfl|rfl|rfl <;> kernel_rfl
theorem txt_ne {a b:ByteArray} (h:¬ a=b):(a.toList==b.toList)=false:=by
 rw [Lib.toList_data,Lib.toList_data,beq_eq_false_iff_ne]
 intro e
 apply h
 cases a;cases b
 simp only [ByteArray.mk.injEq]
 exact Array.toList_inj.1 e
theorem txt_eq {a b:ByteArray} (h:a=b):(a.toList==b.toList)=true:=by
 rw [h];exact beq_self_eq_true _
def rgFrom:Nat→Nat→ByteArray→Nat × Bool
 | 0,_,_=>(0,false)
 | n+1,k,s=>if regS k=s then (k,true) else rgFrom n (k+1) s
def rg (s:ByteArray):Nat × Bool:=rgFrom 11 0 s
theorem register_any (s:ByteArray) (w:World) (hw:Regs w):Calls Tryz.prog 234 #[.string s] w fun e w'=>e=.returned (.tuple #[.int .i64 ((rg s).1:Int),.bool (rg s).2])∧w=w':=by
 obtain⟨t,fr,hg⟩:=hw
 obtain⟨C,hC⟩:∃ C,C=regC:=⟨_,rfl⟩
 rw [← hC] at hg
 have HC:=Lib.hid hC
 clear hC
 go_enter Tryz.func234,Tryz.ntmps234
 go_wp2_with (refine wpList_load_row rfl 268 _ rfl 2 rfl t _ fr _ hg Tryz.underlying268 rfl (by rw [HC.out];kernel_rfl) ?_)
 go_loop [7] (fun i=>∃ k:Nat,i=.int .i64 k∧k≤11∧Hid (rgFrom (11-k) k s=rg s)) (fun i=>11-(intOf i).toNat)
 case atStart=>exact⟨0,rfl,Nat.zero_le _,Lib.hid rfl⟩
 case round =>
  obtain⟨k,rfl,hk,hR⟩:=hrel
  by_cases hlt:k<11
  ·have hix:∀ w,(Instr.index 268 (.agg C) (.int .i64 (k:Int))).run Tryz.prog w=.ok (.string (regS k)) w:=fun w=>by rw [HC.out];exact reg_index k hlt w
   have hsub:11-k=(11-(k+1))+1:=by omega
   by_cases he:regS k=s
   ·have HR:Hid (rg s=(k,true)):=Lib.hid (by rw [← hR.out,hsub,rgFrom,if_pos he])
    go_wp2
    go_ret2
    exact⟨by rw [HR.out] <;> rfl,rfl⟩
   ·have HR:Hid (rgFrom (11-(k+1)) (k+1) s=rg s):=Lib.hid (by rw [← hR.out,hsub,rgFrom,if_neg he])
    have he2:=txt_ne he
    go_wp2
    go_round
    case rel=>exact⟨k+1,by go_num,by omega,HR⟩
    case measure=>simp [intOf];omega
  ·have HR:Hid (rg s=(0,false)):=Lib.hid (by rw [← hR.out,show 11-k=0 by omega];rfl)
   go_wp2
   go_ret2
   exact⟨by rw [HR.out] <;> rfl,rfl⟩
theorem register_at (s:ByteArray) (n:Int) (b:Bool) (w:World) (hw:Regs w) (h1:((rg s).1:Int)=n) (h2:(rg s).2=b):Calls Tryz.prog 234 #[.string s] w fun e w'=>e=.returned (.tuple #[.int .i64 n,.bool b])∧w=w':=by
 subst h1;subst h2;exact register_any s w hw
def nmS (n:Int):ByteArray:=if 0≤n∧n<11 then regS n.toNat else ⟨#[]⟩
theorem itoa_len (n:Nat) (hn:n<10 ^ 11):(Lib.itoa n).length≤11:=by
 have:Lib.itoa n=Lib.decDigits n:=by rw [Lib.itoa,if_neg (by omega)];rfl
 rw [this]
 exact dec_len 10 n hn
theorem regS_itoa (k:Nat) (hk:k<11):(⟨(114::Lib.itoa k).toArray⟩:ByteArray)=regS k:=by
 have:Lib.itoa k=Lib.decDigits k:=by rw [Lib.itoa,if_neg (by omega)];rfl
 rw [this]
 by_cases h:k<10
 ·rw [Lib.decDigits_one h]
  rcases (show k=0∨k=1∨k=2∨k=3∨k=4∨k=5∨k=6∨k=7∨k=8∨k=9 by omega) with rfl|rfl|rfl|rfl|rfl|rfl|rfl|rfl|rfl|rfl <;> rfl
 ·obtain rfl:k=10:=by omega
  rw [Lib.decDigits_two (by omega) (by omega)]
  rfl
theorem rformat_at (x:Int) (t:ByteArray) (w:World) (h0:-9223372036854775808≤x) (h1:x≤9223372036854775807) (h:t=⟨(Lib.itoa x).toArray⟩) :
  Calls Tryz.prog 172 #[.int .i64 x] w fun e w'=>e=.returned (.string t)∧w=w':=by
 subst h;exact rformat_any x w h0 h1
theorem rname_any (n:Int) (w:World):Calls Tryz.prog 144 #[.int .i64 n] w fun e w'=>e=.returned (.string (nmS n))∧w=w':=by
 by_cases h0:n<0
 ·have HN:Hid (nmS n=⟨#[]⟩):=Lib.hid (by rw [nmS,if_neg (by omega)])
  go_enter Tryz.func144,Tryz.ntmps144
  go_wp2
  go_ret
  exact⟨by rw [HN.out] <;> rfl,rfl⟩
 ·by_cases h1:n<11
  ·obtain⟨k,rfl⟩:∃ k:Nat,n=k:=⟨n.toNat,by omega⟩
   obtain⟨t,ht⟩:∃ t:ByteArray,t=⟨(Lib.itoa k).toArray⟩:=⟨_,rfl⟩
   have HN:Hid ((⟨#[114]⟩:ByteArray)++t=nmS k):=Lib.hid (by
    rw [nmS,if_pos (by omega),app_eq,ht]
    exact regS_itoa k (by omega))
   have hl:t.size≤11:=by
    rw [size_list,ht]
    exact itoa_len k (by omega)
   have HT:=Lib.hid ht
   have hmx:((1:Nat)+t.size)≤maxLen:=by unfold maxLen;omega
   have hmx2:((1:Nat)+t.size)≤9223372036854775807:=by omega
   clear h0 ht hl
   go_enter Tryz.func144,Tryz.ntmps144
   go_wp2_with (go_at_call 172;((with_reducible refine (rformat_at _ t _ (by omega) (by omega) HT.out).mono ?_);rintro e w' ⟨rfl,rfl⟩))
   go_ret
   exact⟨by rw [HN.out] <;> rfl,rfl⟩
  ·have HN:Hid (nmS n=⟨#[]⟩):=Lib.hid (by rw [nmS,if_neg (by omega)])
   go_enter Tryz.func144,Tryz.ntmps144
   go_wp2
   go_ret
   exact⟨by rw [HN.out] <;> rfl,rfl⟩
theorem rname_at (n:Int) (t:ByteArray) (w:World) (h:nmS n=t):Calls Tryz.prog 144 #[.int .i64 n] w fun e w'=>e=.returned (.string t)∧w=w':=by
 subst h;exact rname_any n w
theorem rregister_any (s:ByteArray) (w:World):Calls Tryz.prog 104 #[.string s] w fun e w'=>e=.returned (.tuple #[.int .i64 ((rg s).1:Int),.bool (rg s).2])∧w=w':=by
 go_enter Tryz.func104,Tryz.ntmps104
 go_wp2
 go_loop [4] (fun i=>∃ k:Nat,i=.int .i64 k∧k≤11∧Hid (rgFrom (11-k) k s=rg s)) (fun i=>11-(intOf i).toNat)
 case atStart=>exact⟨0,rfl,Nat.zero_le _,Lib.hid rfl⟩
 case round =>
  obtain⟨k,rfl,hk,hR⟩:=hrel
  by_cases hlt:k<11
  ·have hsub:11-k=(11-(k+1))+1:=by omega
   have hle:k≤10:=by omega
   have HN:Hid (nmS k=regS k):=Lib.hid (by rw [nmS,if_pos (by omega)];rfl)
   by_cases he:s=regS k
   ·have HR:Hid (rg s=(k,true)):=Lib.hid (by rw [← hR.out,hsub,rgFrom,if_pos he.symm])
    have he2:=txt_eq he
    clear he
    go_wp2_with (go_at_call 144;((with_reducible refine (rname_at _ _ _ HN.out).mono ?_);rintro e w' ⟨rfl,rfl⟩))
    go_ret2
    exact⟨by rw [HR.out] <;> rfl,rfl⟩
   ·have HR:Hid (rgFrom (11-(k+1)) (k+1) s=rg s):=Lib.hid (by rw [← hR.out,hsub,rgFrom,if_neg (fun h=>he h.symm)])
    have he2:=txt_ne he
    go_wp2_with (go_at_call 144;((with_reducible refine (rname_at _ _ _ HN.out).mono ?_);rintro e w' ⟨rfl,rfl⟩))
    go_round
    case rel=>exact⟨k+1,by go_num,by omega,HR⟩
    case measure=>simp [intOf];omega
  ·have HR:Hid (rg s=(0,false)):=Lib.hid (by rw [← hR.out,show 11-k=0 by omega];rfl)
   go_wp2
   go_ret2
   exact⟨by rw [HR.out] <;> rfl,rfl⟩
theorem rregister_at (s:ByteArray) (n:Int) (b:Bool) (w:World) (h1:((rg s).1:Int)=n) (h2:(rg s).2=b):Calls Tryz.prog 104 #[.string s] w fun e w'=>e=.returned (.tuple #[.int .i64 n,.bool b])∧w=w':=by
 subst h1;subst h2;exact rregister_any s w
end Go.Proofs.YtihiggnglmhggaaGreatDoor.L2
end
section
namespace Go.Proofs.YtihiggnglmhggaaGreatDoor.L2
open Go.RowKit Go.Sort
theorem Regs.lt {w:World} (h:Regs w):2<w.heap.size:=by
 obtain⟨t,fr,hg⟩:=h
 exact lt_of_block hg
theorem Regs.below {w w':World} (h:Regs w) (hb:Below w.heap.size w w'):Regs w':=by
 have hlt:=h.lt
 obtain⟨t,fr,hg⟩:=h
 exact⟨t,fr,(hb.block 2 hlt).trans hg⟩
def d0:List UInt8→Bool
 | []=>false
 | c::_=>dgt (c.toNat:Int)
def vd (s:ByteArray):Bool:=decide (1≤s.size) && decide (s.size≤32) && !d0 s.data.toList && !(rg s).2 && decide (wn s.data.toList=s.size)
theorem first_at (s:ByteArray) (h:0<s.size):d0 s.data.toList=dgt ((s[0]'h).toNat:Int):=by
 have:=drop_at s 0 h
 rw [List.drop_zero] at this
 rw [this]
 rfl
theorem wrap_byte (c:UInt8):wrap32 (c.toNat:Int)=c.toNat:=by
 have:=c.toNat_lt
 unfold wrap32
 omega
theorem valid_any (s:ByteArray) (w:World) (ht:Regs w):Calls Tryz.prog 225 #[.string s] w fun e w'=>e=.returned (.bool (vd s))∧Below w.heap.size w w':=by
 by_cases h0:s.size=0
 ·have HV:Hid (vd s=false):=Lib.hid (by simp [vd,h0])
  go_enter Tryz.func225,Tryz.ntmps225
  go_wp2
  go_ret
  exact⟨by rw [HV.out] <;> rfl,Below.refl _ _⟩
 ·have hp:0<s.size:=by omega
  by_cases h1:32<s.size
  ·have HV:Hid (vd s=false):=Lib.hid (by
    rw [vd,show decide (s.size≤32)=false from by simp;omega];simp)
   go_enter Tryz.func225,Tryz.ntmps225
   go_wp2
   go_ret
   exact⟨by rw [HV.out] <;> rfl,Below.refl _ _⟩
  ·have e1:decide (1≤s.size)=true:=by simp;omega
   have e2:decide (s.size≤32)=true:=by simp;omega
   have HF:=Lib.hid (first_at s hp)
   have f1:((s.size:Int)==0)=false:=by rw [beq_eq_false_iff_ne];omega
   have f2:decide ((32:Int)<(s.size:Int))=false:=by rw [decide_eq_false_iff_not];omega
   cases hd:dgt ((s[0]'hp).toNat:Int) with
   | true =>
    have HD:Hid (dgt (wrap32 ((s[0]'hp).toNat:Int))=true):=Lib.hid (by rw [wrap_byte];exact hd)
    have HV:Hid (vd s=false):=Lib.hid (by rw [vd,HF.out,hd];simp)
    clear hd e1 e2
    go_enter Tryz.func225,Tryz.ntmps225
    go_wp2_with (go_at_call 233;((with_reducible refine (isDigit_at _ true _ HD.out).mono ?_);rintro e w' ⟨rfl,rfl⟩))
    go_ret
    exact⟨by rw [HV.out] <;> rfl,Below.refl _ _⟩
   | false =>
    have HD:Hid (dgt (wrap32 ((s[0]'hp).toNat:Int))=false):=Lib.hid (by rw [wrap_byte];exact hd)
    obtain⟨n,hn⟩:∃ n:Int,((rg s).1:Int)=n:=⟨_,rfl⟩
    have HG:=Lib.hid hn
    cases hr:(rg s).2 with
    | true =>
     have HR:=Lib.hid hr
     have HV:Hid (vd s=false):=Lib.hid (by rw [vd,hr];simp)
     clear hd hn hr e1 e2
     go_enter Tryz.func225,Tryz.ntmps225
     go_wp2_with (first|(go_at_call 233;((with_reducible refine (isDigit_at _ false _ HD.out).mono ?_);rintro e w' ⟨rfl,rfl⟩))|(go_at_call 234;((with_reducible refine (register_at s n true _ ht HG.out HR.out).mono ?_);rintro e w' ⟨rfl,rfl⟩)))
     go_ret
     exact⟨by rw [HV.out] <;> rfl,Below.refl _ _⟩
    | false =>
     have HR:=Lib.hid hr
     obtain⟨m,hm⟩:∃ m:Nat,m=wn s.data.toList:=⟨_,rfl⟩
     have HM:Hid ((wn s.data.toList:Int)=(m:Int)):=Lib.hid (by rw [hm])
     have HV:Hid (vd s=decide (m=s.size)):=Lib.hid (by rw [vd,hr,HF.out,hd,e1,e2,hm];simp)
     clear hd hn hr hm e1 e2
     by_cases hms:m=s.size
     ·have HV2:Hid (vd s=true):=Lib.hid (by rw [HV.out];simpa using hms)
      go_enter Tryz.func225,Tryz.ntmps225
      go_wp2_with (first|(go_at_call 233;((with_reducible refine (isDigit_at _ false _ HD.out).mono ?_);rintro e w' ⟨rfl,rfl⟩))|(go_at_call 234;((with_reducible refine (register_at s n false _ ht HG.out HR.out).mono ?_);rintro e w' ⟨rfl,rfl⟩))|(go_at_call 235;((with_reducible refine (word_at s m _ HM.out).mono ?_);rintro e w1 ⟨rfl,hb1⟩)))
      go_ret
      exact⟨by rw [HV2.out] <;> rfl,hb1⟩
     ·have HV2:Hid (vd s=false):=Lib.hid (by rw [HV.out];simpa using hms)
      have hne:((m:Int)==(s.size:Int))=false:=by rw [beq_eq_false_iff_ne];omega
      go_enter Tryz.func225,Tryz.ntmps225
      go_wp2_with (first|(go_at_call 233;((with_reducible refine (isDigit_at _ false _ HD.out).mono ?_);rintro e w' ⟨rfl,rfl⟩))|(go_at_call 234;((with_reducible refine (register_at s n false _ ht HG.out HR.out).mono ?_);rintro e w' ⟨rfl,rfl⟩))|(go_at_call 235;((with_reducible refine (word_at s m _ HM.out).mono ?_);rintro e w1 ⟨rfl,hb1⟩)))
      go_ret
      exact⟨by rw [HV2.out] <;> rfl,hb1⟩
theorem valid_at (s:ByteArray) (b:Bool) (w:World) (ht:Regs w) (h:vd s=b):Calls Tryz.prog 225 #[.string s] w fun e w'=>e=.returned (.bool b)∧Below w.heap.size w w':=by
 subst h;exact valid_any s w ht
theorem rvalid_any (s:ByteArray) (w:World) (hs:s.size≤9223372036854775807):Calls Tryz.prog 60 #[.string s] w fun e w'=>e=.returned (.bool (vd s))∧w=w':=by
 obtain⟨n,hn⟩:∃ n:Int,((rg s).1:Int)=n:=⟨_,rfl⟩
 obtain⟨r,hr⟩:∃ r:Bool,(rg s).2=r:=⟨_,rfl⟩
 obtain⟨m,hm⟩:∃ m:Nat,m=wn s.data.toList:=⟨_,rfl⟩
 have HG:=Lib.hid hn
 have HR:=Lib.hid hr
 have HM:Hid ((wn s.data.toList:Int)=(m:Int)):=Lib.hid (by rw [hm])
 by_cases h0:s.size=0
 ·have HV:Hid (vd s=false):=Lib.hid (by simp [vd,h0])
  have f1:decide ((1:Int)≤(s.size:Int))=false:=by rw [decide_eq_false_iff_not];omega
  clear hn hr hm
  go_enter Tryz.func60,Tryz.ntmps60
  go_wp2_with (go_at_call 104;((with_reducible refine (rregister_at s n r _ HG.out HR.out).mono ?_);rintro e w' ⟨rfl,rfl⟩))
  go_ret
  exact⟨by rw [HV.out] <;> rfl,rfl⟩
 ·have hp:0<s.size:=by omega
  have f1:decide ((1:Int)≤(s.size:Int))=true:=by rw [decide_eq_true_iff];omega
  have e1:decide (1≤s.size)=true:=by rw [decide_eq_true_iff];omega
  by_cases h1:32<s.size
  ·have HV:Hid (vd s=false):=Lib.hid (by
    rw [vd,show decide (s.size≤32)=false from by simp;omega];simp)
   have f2:decide ((s.size:Int)≤(32:Int))=false:=by rw [decide_eq_false_iff_not];omega
   clear hn hr hm
   go_enter Tryz.func60,Tryz.ntmps60
   go_wp2_with (go_at_call 104;((with_reducible refine (rregister_at s n r _ HG.out HR.out).mono ?_);rintro e w' ⟨rfl,rfl⟩))
   go_ret
   exact⟨by rw [HV.out] <;> rfl,rfl⟩
  ·have f2:decide ((s.size:Int)≤(32:Int))=true:=by rw [decide_eq_true_iff];omega
   have e2:decide (s.size≤32)=true:=by rw [decide_eq_true_iff];omega
   by_cases hms:m=s.size
   ·obtain⟨a,ha⟩:∃ a:Bool,decide ((48:Int)≤((s[0]'hp).toNat:Int))=a:=⟨_,rfl⟩
    obtain⟨b,hb⟩:∃ b:Bool,decide (((s[0]'hp).toNat:Int)≤57)=b:=⟨_,rfl⟩
    have HV:Hid (vd s=(!(a && b) && !r)):=Lib.hid (by rw [vd,hr,first_at s hp,dgt,ha,hb,e1,e2,← hm,hms];simp)
    have f3:((m:Int)==(s.size:Int))=true:=by rw [beq_iff_eq,hms]
    clear hn hr hm e1 e2 hms
    cases a <;> cases b <;> cases r
    all_goals
     go_enter Tryz.func60,Tryz.ntmps60
     go_wp2_with (first|(go_at_call 104;((with_reducible refine (rregister_at s n _ _ HG.out HR.out).mono ?_);rintro e w' ⟨rfl,rfl⟩))|(go_at_call 105;((with_reducible refine (rword_at s m _ hs HM.out).mono ?_);rintro e w' ⟨rfl,rfl⟩)))
     go_ret
     exact⟨by rw [HV.out] <;> rfl,rfl⟩
   ·have HV:Hid (vd s=false):=Lib.hid (by rw [vd,← hm,show decide (m=s.size)=false from by simpa using hms];simp)
    have f3:((m:Int)==(s.size:Int))=false:=by rw [beq_eq_false_iff_ne];omega
    clear hn hr hm e1 e2
    go_enter Tryz.func60,Tryz.ntmps60
    go_wp2_with (first|(go_at_call 104;((with_reducible refine (rregister_at s n _ _ HG.out HR.out).mono ?_);rintro e w' ⟨rfl,rfl⟩))|(go_at_call 105;((with_reducible refine (rword_at s m _ hs HM.out).mono ?_);rintro e w' ⟨rfl,rfl⟩)))
    go_ret
    exact⟨by rw [HV.out] <;> rfl,rfl⟩
theorem rvalid_at (s:ByteArray) (b:Bool) (w:World) (hs:s.size≤9223372036854775807) (h:vd s=b):Calls Tryz.prog 60 #[.string s] w fun e w'=>e=.returned (.bool b)∧w=w':=by
 subst h;exact rvalid_any s w hs
end Go.Proofs.YtihiggnglmhggaaGreatDoor.L2
end
section
namespace Go.Proofs.YtihiggnglmhggaaGreatDoor.L2
open Go.RowKit Go.Maps
theorem bool_inv {H:Type} {P:Program} {e:TypeId} (he:P.underlying e=some .bool) {v:Value} {z:DataW H × List MemPlace} (h:plainElem P e v=some z):∃ x,v=.bool x∧z=(.lit (.bool x),[]):=by
 unfold plainElem at h
 rw [he] at h
 cases v <;> simp at h
 exact⟨_,rfl,h.symm⟩
theorem wpList_look_bool {H:Type} {P:Program} (w:World) {ops:Array Oper} {rest:List Oper} {o:Oper} {a:Act} {Q:Exit→Act→World→Prop}
  (hg:o.guard=none) (m x:Operand) (t:TypeId) (hop:o.op=Op.lookup t m x false)
  (k e:TypeId) (K:Keyed P k) (ht:P.underlying t=some (.map k e)) (he:P.underlying e=some .bool) (hz:(zeroValue e).run P w=.ok (.bool false) w) (b n:Nat) (D:DataW H)
  (hm:a.eval m=.map (some b)) (hown:w.ownsMap P k (plainElem P e) b n D) (key:Value) (kl:Lit) (hx:a.eval x=key) (hkey:keyOf P k key=some kl)
  (c:Bool) (hat:D.atKey kl (.lit (.bool false))=.lit (.bool c))
  (hK:wpList P ops Q rest (a.put o.dst (.bool c)) w) :
  wpList P ops Q (o::rest) a w:=by
 refine wpList_plain hg fun K' hK'=>?_
 obtain⟨v,ps,hrun,hv⟩:=hown.lookup K ht hz (plainElem_bool he false) hkey
 rw [hat] at hv
 obtain⟨y,rfl,hy⟩:=bool_inv he hv
 simp only [Prod.mk.injEq,DataW.lit.injEq,Lit.bool.injEq] at hy
 obtain⟨rfl,_⟩:=hy
 unfold Oper.wp
 simp [execOp,hop,hm,hx,hrun,Result.andThen]
 exact hK' _ _ hK
section
variable {H:Type} (u z:DataW H) (k:Lit)
theorem fold_out:∀ (acc:List Lit) (m:DataW H),¬ k∈acc→(acc.foldl (fun m x=>m.put x u) m).atKey k z=m.atKey k z
 | [],_,_=>rfl
 | x::r,m,h=>by
  rw [List.foldl_cons,fold_out r _ (fun h'=>h (by simp [h'])),atKey_put_other (fun e=>h (by simp [e]))]
theorem fold_in:∀ (acc:List Lit) (m:DataW H),IsMap m→(∀ x∈acc,WideAt.IsKeyLit x)→k∈acc→(acc.foldl (fun m x=>m.put x u) m).atKey k z=u
 | x::r,m,hm,ha,h=>by
  rw [List.foldl_cons]
  by_cases hr:k∈r
  ·exact fold_in r _ (hm.put x u) (fun y hy=>ha y (by simp [hy])) hr
  ·obtain rfl:k=x:=by
    rcases List.mem_cons.1 h with h|h
    ·exact h
    ·exact absurd h hr
   rw [fold_out _ _ _ r _ hr,atKey_put_same hm (ha k (by simp))]
end
def txt (s:ByteArray):Lit:=.string s.data.toList
theorem txt_inj {a b:ByteArray} (h:txt a=txt b):a=b:=by
 cases a;cases b
 simp only [txt,Lit.string.injEq] at h
 rw [Array.toList_inj.1 h]
def on (l:List ByteArray) (x:ByteArray):Bool:=l.any fun s=>decide (s=x)
theorem on_mem (l:List ByteArray) (x:ByteArray):on l x=true↔x∈l:=by simp [on]
def rpFrom:Nat→Nat→List ByteArray→Int
 | 0,_,_=>-1
 | n+1,k,ss=>if on (ss.take k) (ss.getD k ByteArray.empty) then (k:Int) else rpFrom n (k+1) ss
def rp (ss:List ByteArray):Int:=rpFrom ss.length 0 ss
def TextsAt (w:World) (v:Value) (ss:List ByteArray):Prop :=
 (∃ b off cap,v=.slice (some ⟨b,off,none⟩) ss.length cap∧b<w.heap.size∧∀ j,j<ss.length→w.cell? ⟨b,off+j,none⟩=some (.string (ss.getD j ByteArray.empty)))∨(ss=[]∧∃ a cap,v=.slice a 0 cap)
theorem law9:Keyed Tryz.prog 9:=string_keyed Tryz.underlying9
theorem rrep_some (b off cap n:Nat) (ss:List ByteArray) (w:World) (hn:n=ss.length) (hn2:n≤1000)
  (hc:∀ j,j<n→w.cell? ⟨b,off+j,none⟩=some (.string (ss.getD j ByteArray.empty))) :
  Calls Tryz.prog 62 #[.slice (some ⟨b,off,none⟩) n cap] w fun e w'=>e=.returned (.int .i64 (rp ss))∧∃ m,w'=w.drewN m:=by
 have HC:=Lib.hid hc
 have HN:=Lib.hid hn
 clear hc hn
 go_enter Tryz.func62,Tryz.ntmps62
 go_wp2
 go_loopw [3] (fun i wr=>∃ k m:Nat,k≤n∧i=.int .i64 k∧wr=w.drewN m∧Hid (rpFrom (n-k) k ss=rp ss)) (fun i _=>n-(intOf i).toNat)
 case atStart=>exact⟨0,0,Nat.zero_le _,rfl,rfl,Lib.hid (by rw [HN.out];rfl)⟩
 case round =>
  obtain⟨k,m,hk,rfl,rfl,hR⟩:=hrel
  by_cases hlt:k<n
  ·have hsub:n-k=(n-(k+1))+1:=by omega
   obtain⟨x,hx⟩:∃ x,x=ss.getD k ByteArray.empty:=⟨_,rfl⟩
   have hcx:w.cell? ⟨b,off+k,none⟩=some (.string x):=hx ▸ HC.out k hlt
   have HX:=Lib.hid hx
   clear hx
   go_wp2
   go_loopw [4] (fun i wr=>∃ j m:Nat,j≤k∧i=.int .i64 j∧wr=w.drewN m∧Hid (¬ x∈ss.take j)) (fun i _=>k-(intOf i).toNat)
   case atStart=>exact⟨0,m,Nat.zero_le _,rfl,rfl,Lib.hid (by simp)⟩
   case round =>
    obtain⟨j,m',hj,rfl,rfl,hO⟩:=hrel
    by_cases hjk:j<k
    ·obtain⟨y,hy⟩:∃ y,y=ss.getD j ByteArray.empty:=⟨_,rfl⟩
     have hcy:w.cell? ⟨b,off+j,none⟩=some (.string y):=hy ▸ HC.out j (by omega)
     have hjl:j<ss.length:=by rw [← HN.out];omega
     have htake:ss.take (j+1)=ss.take j++[y]:=by
      rw [List.take_add_one,hy]
      simp [List.getD,List.getElem?_eq_getElem hjl]
     have HT:=Lib.hid htake
     clear hy htake
     by_cases he:x=y
     ·have hin:x∈ss.take k:=(List.take_subset_take_left _ (by omega:j+1≤k)) (by rw [HT.out,he];simp)
      have HR:Hid (rp ss=k):=Lib.hid (by rw [← hR.out,hsub,rpFrom,if_pos ((on_mem _ _).2 (by rw [← HX.out];exact hin))])
      have he2:=txt_eq he
      clear he hin
      go_wp2
      go_quiet (fail)
      go_wp2
      go_ret
      exact⟨by rw [HR.out] <;> rfl,m'+nq,World.drewN_drewN w m' nq⟩
     ·have HO:Hid (¬ x∈ss.take (j+1)):=Lib.hid (by
       rw [HT.out]
       intro h
       rcases List.mem_append.1 h with h|h
       ·exact hO.out h
       ·exact he (by simpa using h))
      have he2:=txt_ne he
      clear he
      go_wp2
      go_quiet (fail)
      go_wp2
      go_roundw
      case rel=>exact⟨j+1,m'+nq,by omega,by go_num,rfl,HO⟩
      case measure=>simp [intOf];omega
    ·have HR:Hid (rpFrom (n-(k+1)) (k+1) ss=rp ss):=Lib.hid (by
      rw [← hR.out,hsub,rpFrom,if_neg]
      intro h
      have h:=(on_mem _ _).1 h
      rw [← HX.out,show k=j by omega] at h
      exact hO.out h)
     go_wp2
     go_roundw
     case rel=>exact⟨k+1,m',by omega,by go_num,rfl,HR⟩
     case measure=>simp [intOf];omega
  ·have HR:Hid (rp ss=-1):=Lib.hid (by rw [← hR.out,show n-k=0 by omega];rfl)
   go_wp2
   go_ret
   exact⟨by rw [HR.out] <;> rfl,_,rfl⟩
theorem rrep_none (a:Option Addr) (cap:Nat) (w:World):Calls Tryz.prog 62 #[.slice a 0 cap] w fun e w'=>e=.returned (.int .i64 (-1))∧∃ m,w'=w.drewN m:=by
 go_enter Tryz.func62,Tryz.ntmps62
 go_wp2
 refine wp_loop_rounds 1 ?_
 rw [rounds_succ]
 go_wp2
 go_ret
 exact⟨rfl,0,rfl⟩
theorem rrep_any (v:Value) (ss:List ByteArray) (w:World) (hn:ss.length≤1000) (h:TextsAt w v ss) :
  Calls Tryz.prog 62 #[v] w fun e w'=>e=.returned (.int .i64 (rp ss))∧∃ m,w'=w.drewN m:=by
 rcases h with ⟨b,off,cap,rfl,hlt,hc⟩|⟨rfl,a,cap,rfl⟩
 ·exact rrep_some b off cap _ ss w rfl hn hc
 ·exact rrep_none a cap w
end Go.Proofs.YtihiggnglmhggaaGreatDoor.L2
end
section
namespace Go.Proofs.YtihiggnglmhggaaGreatDoor.L5
open Go.RowKit L3 L1
theorem put16_at (k o cap:Nat) (x a b:Int) (w:World) (cs:Array Value) (hk:w.heap[k]?=some (.cells cs 5)) (ho:o+2≤cs.size) (ha:x % 256=a) (hb:x / 256 % 256=b) :
  Calls Tryz.prog 138 #[.slice (some ⟨k,o,none⟩) 2 cap,.int .i16 x] w fun e w'=>e=.returned (.tuple #[])∧w'=(w.setCell ⟨k,o,none⟩ (.int .u8 a)).setCell ⟨k,o+1,none⟩ (.int .u8 b):=by
 have c0:w.cell? ⟨k,o,none⟩=some (cs.getD (o) undef):=by simp [World.cell?,hk,show o<cs.size by omega]
 have f0:w.frozen? ⟨k,o,none⟩=false:=by simp [World.frozen?,hk]
 generalize cs.getD (o) undef=u0 at c0
 have c1:w.cell? ⟨k,o+1,none⟩=some (cs.getD (o+1) undef):=by simp [World.cell?,hk,show o+1<cs.size by omega]
 have f1:w.frozen? ⟨k,o+1,none⟩=false:=by simp [World.frozen?,hk]
 generalize cs.getD (o+1) undef=u1 at c1
 have Ha:=Lib.hid ha
 have Hb:=Lib.hid hb
 clear hk ho ha hb
 go_enter Tryz.func138,Tryz.ntmps138
 go_wp2
 refine wp_loop_rounds 3 ?_
 repeat (rw [rounds_succ];go_wp2)
 go_end0
 exact⟨rfl,by rw [Ha.out,Hb.out]⟩
theorem put32_at (k o cap:Nat) (x a b c d:Int) (w:World) (cs:Array Value) (hk:w.heap[k]?=some (.cells cs 5)) (ho:o+4≤cs.size) (ha:x % 256=a) (hb:x / 256 % 256=b) (hc:x / 256 / 256 % 256=c) (hd:x / 256 / 256 / 256 % 256=d) :
  Calls Tryz.prog 139 #[.slice (some ⟨k,o,none⟩) 4 cap,.int .i32 x] w fun e w'=>e=.returned (.tuple #[])∧w'=(((w.setCell ⟨k,o,none⟩ (.int .u8 a)).setCell ⟨k,o+1,none⟩ (.int .u8 b)).setCell ⟨k,o+2,none⟩ (.int .u8 c)).setCell ⟨k,o+3,none⟩ (.int .u8 d):=by
 have c0:w.cell? ⟨k,o,none⟩=some (cs.getD (o) undef):=by simp [World.cell?,hk,show o<cs.size by omega]
 have f0:w.frozen? ⟨k,o,none⟩=false:=by simp [World.frozen?,hk]
 generalize cs.getD (o) undef=u0 at c0
 have c1:w.cell? ⟨k,o+1,none⟩=some (cs.getD (o+1) undef):=by simp [World.cell?,hk,show o+1<cs.size by omega]
 have f1:w.frozen? ⟨k,o+1,none⟩=false:=by simp [World.frozen?,hk]
 generalize cs.getD (o+1) undef=u1 at c1
 have c2:w.cell? ⟨k,o+2,none⟩=some (cs.getD (o+2) undef):=by simp [World.cell?,hk,show o+2<cs.size by omega]
 have f2:w.frozen? ⟨k,o+2,none⟩=false:=by simp [World.frozen?,hk]
 generalize cs.getD (o+2) undef=u2 at c2
 have c3:w.cell? ⟨k,o+3,none⟩=some (cs.getD (o+3) undef):=by simp [World.cell?,hk,show o+3<cs.size by omega]
 have f3:w.frozen? ⟨k,o+3,none⟩=false:=by simp [World.frozen?,hk]
 generalize cs.getD (o+3) undef=u3 at c3
 have Ha:=Lib.hid ha
 have Hb:=Lib.hid hb
 have Hc:=Lib.hid hc
 have Hd:=Lib.hid hd
 clear hk ho ha hb hc hd
 go_enter Tryz.func139,Tryz.ntmps139
 go_wp2
 refine wp_loop_rounds 5 ?_
 repeat (rw [rounds_succ];go_wp2)
 go_end0
 exact⟨rfl,by rw [Ha.out,Hb.out,Hc.out,Hd.out]⟩
theorem extend_is (x y b v:Int) (w:World) (hw:Wid w) (h:x=y) (h0:0≤y) (h1:y<18446744073709551616) (hb:b=8∨b=16∨b=32∨b=64) (hv:sx b y=v) :
  Calls Tryz.prog 167 #[.int .u64 x,.int .i64 b] w fun e w'=>e=.returned (.int .i64 v)∧w=w':=by
 subst h;subst hv
 exact extend_yes x b w h0 h1 hw hb
theorem or2 (a b:UInt8):bits .or .u64 (bits .or .u64 0 (a.toNat:Int)) ((b.toNat:Int)*256)=(a.toNat:Int)*1+(b.toNat:Int)*256:=by
 have ha:=a.toNat_lt
 have hb:=b.toNat_lt
 have e0:bits .or .u64 0 (a.toNat:Int)=(a.toNat:Int):=by rw [u64_or 0 _ (by omega) (by omega) (by omega) (by omega)];simp
 rw [e0,u64_or8 _ _ (by omega) (by omega) (by omega) (by omega) (by omega)]
 omega
theorem or4 (a b c d:UInt8):bits .or .u64 (bits .or .u64 (bits .or .u64 (bits .or .u64 0 (a.toNat:Int)) ((b.toNat:Int)*256)) ((c.toNat:Int)*65536)) ((d.toNat:Int)*16777216)=(a.toNat:Int)*1+(b.toNat:Int)*256+(c.toNat:Int)*65536+(d.toNat:Int)*16777216:=by
 have ha:=a.toNat_lt
 have hb:=b.toNat_lt
 have hc:=c.toNat_lt
 have hd:=d.toNat_lt
 have e2:bits .or .u64 ((a.toNat:Int)*1+(b.toNat:Int)*256) ((c.toNat:Int)*65536)=((a.toNat:Int)*1+(b.toNat:Int)*256)+(c.toNat:Int)*65536:=u64_or16 _ _ (by omega) (by omega) (by omega) (by omega) (by omega)
 rw [or2,e2]
 exact u64_or24 _ _ (by omega) (by omega) (by omega) (by omega) (by omega)
theorem get2_at (k o cap:Nat) (c0 c1:UInt8) (v:Int) (w:World) (hw:Wid w) (h0:w.cell? ⟨k,o,none⟩=some (.int .u8 (c0.toNat:Int))) (h1:w.cell? ⟨k,o+1,none⟩=some (.int .u8 (c1.toNat:Int))) (hv:sx 16 ((c0.toNat:Int)*1+(c1.toNat:Int)*256)=v) :
  Calls Tryz.prog 199 #[.slice (some ⟨k,o,none⟩) 2 cap] w fun e w'=>e=.returned (.int .i64 v)∧w=w':=by
 have HW:=Lib.hid hw
 have HV:=Lib.hid hv
 clear hw hv
 have b0:=c0.toNat_lt
 have b1:=c1.toNat_lt
 go_enter Tryz.func199,Tryz.ntmps199
 go_wp2
 refine wp_loop_rounds 3 ?_
 repeat (rw [rounds_succ];go_wp2_with (go_at_call 167;((with_reducible refine (extend_is _ _ 16 v _ HW.out (or2 c0 c1) (by omega) (by omega) (by decide) HV.out).mono ?_);rintro e w' ⟨rfl,rfl⟩)))
 go_ret
 exact⟨rfl,rfl⟩
theorem get4_at (k o cap:Nat) (c0 c1 c2 c3:UInt8) (v:Int) (w:World) (hw:Wid w) (h0:w.cell? ⟨k,o,none⟩=some (.int .u8 (c0.toNat:Int))) (h1:w.cell? ⟨k,o+1,none⟩=some (.int .u8 (c1.toNat:Int))) (h2:w.cell? ⟨k,o+2,none⟩=some (.int .u8 (c2.toNat:Int))) (h3:w.cell? ⟨k,o+3,none⟩=some (.int .u8 (c3.toNat:Int))) (hv:sx 32 ((c0.toNat:Int)*1+(c1.toNat:Int)*256+(c2.toNat:Int)*65536+(c3.toNat:Int)*16777216)=v) :
  Calls Tryz.prog 199 #[.slice (some ⟨k,o,none⟩) 4 cap] w fun e w'=>e=.returned (.int .i64 v)∧w=w':=by
 have HW:=Lib.hid hw
 have HV:=Lib.hid hv
 clear hw hv
 have b0:=c0.toNat_lt
 have b1:=c1.toNat_lt
 have b2:=c2.toNat_lt
 have b3:=c3.toNat_lt
 go_enter Tryz.func199,Tryz.ntmps199
 go_wp2
 refine wp_loop_rounds 5 ?_
 repeat (rw [rounds_succ];go_wp2_with (go_at_call 167;((with_reducible refine (extend_is _ _ 32 v _ HW.out (or4 c0 c1 c2 c3) (by omega) (by omega) (by decide) HV.out).mono ?_);rintro e w' ⟨rfl,rfl⟩)))
 go_ret
 exact⟨rfl,rfl⟩
end Go.Proofs.YtihiggnglmhggaaGreatDoor.L5
end
