/- Lemmas and walks of L1Base, L2Base, L1Add: what each theorem states; conditions stand in each theorem. -/
import Derived.Handy
import Derived.Lib.LaidTab
import Derived.Lib.Hide
import Derived.BigQuiet
import Derived.WalkSmall
import Derived.Deep.RegionHeld3
import Derived.OneCell
import Derived.Test.YtdgnjhhieemcaaaGreatDoorShelf
set_option maxHeartbeats 1000000
set_option maxRecDepth 100000
section
namespace Go.Proofs.YtdgnjhhieemcaaaGreatDoor
theorem zA (l:List Value) (i:Nat) (a:Value):l.toArray.setIfInBounds i a=(l.set i a).toArray:=List.setIfInBounds_toArray ..
theorem zB (a:Value) (l:List Value) (b:Value):(a::l).set 0 b=b::l:=rfl
theorem zC (a:Value) (l:List Value) (n:Nat) (b:Value):(a::l).set (n+1) b=a::l.set n b:=rfl
theorem zz:(∀ (l:List Value) (p:List Deferred) (d:Nat) (v:Value),Act.put ⟨l.toArray,p⟩ (some d) v=⟨(l.set d v).toArray,p⟩)∧(∀ (a:Act) (v:Value),a.put none v=a)∧(∀ (a:Value) (l:List Value) (b:Value),(a::l).set 0 b=b::l)∧(∀ (a:Value) (l:List Value) (n:Nat) (b:Value),(a::l).set (n+1) b=a::l.set n b) :=
 ⟨fun l _ _ _=>by simp [Act.put],fun _ _=>rfl,fun _ _ _=>rfl,fun _ _ _ _=>rfl⟩
section
variable {P:Program} {ops:Array Oper} {Q:Exit→Act→World→Prop} {md:Region.Mode} {S:World→Prop} {fuel:Nat} {listed:Array Bool} {a:Act} {w:World} {ty:TypeId} {po:String} {af:Array Edge} {g:Option (Nat × Bool)}
theorem zTn (i d:Nat) (x:Op) (hi:ops[i]?=some ⟨some d,x,ty,po,af,g⟩) (hS:S w)
  (h:wpAnyH P md ops Q S fuel (listed.setIfInBounds i true) (a.put (some d) undef) w) (hQ:∀ c a w,Q (.panic c) (a.put (some d) undef) w→Q (.panic c) a w:=by exact fun _ _ _ h=>h) (hw:Region.wanted ⟨some d,x,ty,po,af,g⟩ (yielded ops a.tmps)=false:=by rfl) (hs:Region.noSelect ops=true:=by kernel_rfl) (hf:Region.free md ops listed i=true:=by kernel_rfl) (hr:(Region.ready md ops listed).contains i=true:=by kernel_rfl):wpAnyH P md ops Q S (fuel+1) listed a w :=
 wpAnyH_take hi hs hf hr hQ (.inr ⟨hw,rfl⟩) hS h
section
variable (i d:Nat) (x:Op) (v:Value) (hi:ops[i]?=some ⟨some d,x,ty,po,af,g⟩) (hS:S w) (h:wpAnyH P md ops Q S fuel (listed.setIfInBounds i true) (a.put (some d) v) w)
include i d x v hi hS h
theorem zT0 (he:∀ w,S w→(execOp a.eval ⟨some d,x,ty,po,af,g⟩).run P w=.ok (.value v) w:=by exact fun _ _=>by rfl) (hQ:∀ c a w,Q (.panic c) (a.put (some d) v) w→Q (.panic c) a w:=by exact fun _ _ _ h=>h) (hw:Region.wanted ⟨some d,x,ty,po,af,g⟩ (yielded ops a.tmps)=true:=by rfl) (hs:Region.noSelect ops=true:=by kernel_rfl) (hf:Region.free md ops listed i=true:=by kernel_rfl) (hr:(Region.ready md ops listed).contains i=true:=by kernel_rfl):wpAnyH P md ops Q S (fuel+1) listed a w :=
 wpAnyH_take hi hs hf hr hQ (.inl ⟨hw,he⟩) hS h
theorem zT2 (he:∀ w,S w→(execOp a.eval ⟨some d,x,ty,po,af,g⟩).run P w=.ok (.value v) w:=by intro wS hS;subst hS;go_simp) (hQ:∀ c a w,Q (.panic c) (a.put (some d) v) w→Q (.panic c) a w:=by exact fun _ _ _ h=>h) (hw:Region.wanted ⟨some d,x,ty,po,af,g⟩ (yielded ops a.tmps)=true:=by rfl) (hs:Region.noSelect ops=true:=by kernel_rfl) (hf:Region.free md ops listed i=true:=by kernel_rfl) (hr:(Region.ready md ops listed).contains i=true:=by kernel_rfl):wpAnyH P md ops Q S (fuel+1) listed a w :=
 wpAnyH_take hi hs hf hr hQ (.inl ⟨hw,he⟩) hS h
theorem zT3 (he:∀ w,S w→(execOp a.eval ⟨some d,x,ty,po,af,g⟩).run P w=.ok (.value v) w:=by intro wS hS;go_simp) (hQ:∀ c a w,Q (.panic c) (a.put (some d) v) w→Q (.panic c) a w:=by exact fun _ _ _ h=>h) (hw:Region.wanted ⟨some d,x,ty,po,af,g⟩ (yielded ops a.tmps)=true:=by rfl) (hs:Region.noSelect ops=true:=by kernel_rfl) (hf:Region.free md ops listed i=true:=by kernel_rfl) (hr:(Region.ready md ops listed).contains i=true:=by kernel_rfl):wpAnyH P md ops Q S (fuel+1) listed a w :=
 wpAnyH_take hi hs hf hr hQ (.inl ⟨hw,he⟩) hS h
end
theorem zT1 (i d:Nat) (x:Op) (v:Value) (hi:ops[i]?=some ⟨some d,x,ty,po,af,g⟩) (he:∀ w,S w→(execOp a.eval ⟨some d,x,ty,po,af,g⟩).run P w=.ok (.value v) w) (hS:S w)
  (h:wpAnyH P md ops Q S fuel (listed.setIfInBounds i true) (a.put (some d) v) w) (hQ:∀ c a w,Q (.panic c) (a.put (some d) v) w→Q (.panic c) a w:=by exact fun _ _ _ h=>h) (hw:Region.wanted ⟨some d,x,ty,po,af,g⟩ (yielded ops a.tmps)=true:=by rfl) (hs:Region.noSelect ops=true:=by kernel_rfl) (hf:Region.free md ops listed i=true:=by kernel_rfl) (hr:(Region.ready md ops listed).contains i=true:=by kernel_rfl):wpAnyH P md ops Q S (fuel+1) listed a w :=
 wpAnyH_take hi hs hf hr hQ (.inl ⟨hw,he⟩) hS h
end
end Go.Proofs.YtdgnjhhieemcaaaGreatDoor
namespace Go.Proofs.YtdgnjhhieemcaaaGreatDoor.L1
open Go.RowKit
def Wid (w:World):Prop:=∃ t fr,w.heap[0]?=some (.cells #[.int .i64 8,.int .i64 16,.int .i64 32,.int .i64 64] t fr)
def isW (b:Int):Bool:=b==8 || b==16 || b==32 || b==64
theorem isWidth_yes (b:Int) (w:World) (hw:Wid w) (h:b=8∨b=16∨b=32∨b=64) :
  Calls Tryz.prog 230 #[.int .i64 b] w fun e w'=>e=.returned (.bool true)∧w=w':=by
 obtain⟨t,fr,hg⟩:=hw
 have i0:∀ w,(Instr.index 333 (.agg #[.int .i64 8,.int .i64 16,.int .i64 32,.int .i64 64]) (.int .i64 0)).run Tryz.prog w=.ok (.int .i64 8) w:=fun _=>by kernel_rfl
 have i1:∀ w,(Instr.index 333 (.agg #[.int .i64 8,.int .i64 16,.int .i64 32,.int .i64 64]) (.int .i64 1)).run Tryz.prog w=.ok (.int .i64 16) w:=fun _=>by kernel_rfl
 have i2:∀ w,(Instr.index 333 (.agg #[.int .i64 8,.int .i64 16,.int .i64 32,.int .i64 64]) (.int .i64 2)).run Tryz.prog w=.ok (.int .i64 32) w:=fun _=>by kernel_rfl
 have i3:∀ w,(Instr.index 333 (.agg #[.int .i64 8,.int .i64 16,.int .i64 32,.int .i64 64]) (.int .i64 3)).run Tryz.prog w=.ok (.int .i64 64) w:=fun _=>by kernel_rfl
 rcases h with rfl|rfl|rfl|rfl
 all_goals
  go_enter Tryz.func230,Tryz.ntmps230
  go_wp2_with (refine wpList_load_row rfl 333 _ rfl 0 rfl t _ fr _ hg Tryz.underlying333 rfl (by kernel_rfl) ?_)
  refine wp_loop_rounds 5 ?_
  repeat (rw [rounds_succ];go_wp2)
  go_ret
  exact⟨rfl,rfl⟩
theorem ret_int {k:IntKind} {a b:Int} (h:a=b):Ending.returned (.int k a)=.returned (.int k b):=by rw [h]
theorem ret_bool {a b:Bool} (h:a=b):Ending.returned (.bool a)=.returned (.bool b):=by rw [h]
theorem isWidth_no (b:Int) (w:World) (hw:Wid w) (h:isW b=false) :
  Calls Tryz.prog 230 #[.int .i64 b] w fun e w'=>e=.returned (.bool false)∧w=w':=by
 obtain⟨t,fr,hg⟩:=hw
 simp only [isW,Bool.or_eq_false_iff] at h
 obtain⟨⟨⟨h1,h2⟩,h3⟩,h4⟩:=h
 have i0:∀ w,(Instr.index 333 (.agg #[.int .i64 8,.int .i64 16,.int .i64 32,.int .i64 64]) (.int .i64 0)).run Tryz.prog w=.ok (.int .i64 8) w:=fun _=>by kernel_rfl
 have i1:∀ w,(Instr.index 333 (.agg #[.int .i64 8,.int .i64 16,.int .i64 32,.int .i64 64]) (.int .i64 1)).run Tryz.prog w=.ok (.int .i64 16) w:=fun _=>by kernel_rfl
 have i2:∀ w,(Instr.index 333 (.agg #[.int .i64 8,.int .i64 16,.int .i64 32,.int .i64 64]) (.int .i64 2)).run Tryz.prog w=.ok (.int .i64 32) w:=fun _=>by kernel_rfl
 have i3:∀ w,(Instr.index 333 (.agg #[.int .i64 8,.int .i64 16,.int .i64 32,.int .i64 64]) (.int .i64 3)).run Tryz.prog w=.ok (.int .i64 64) w:=fun _=>by kernel_rfl
 have g1:((8:Int)==b)=false:=by rw [BEq.comm];exact h1
 have g2:((16:Int)==b)=false:=by rw [BEq.comm];exact h2
 have g3:((32:Int)==b)=false:=by rw [BEq.comm];exact h3
 have g4:((64:Int)==b)=false:=by rw [BEq.comm];exact h4
 clear h1 h2 h3 h4
 go_enter Tryz.func230,Tryz.ntmps230
 go_wp2_with (refine wpList_load_row rfl 333 _ rfl 0 rfl t _ fr _ hg Tryz.underlying333 rfl (by kernel_rfl) ?_)
 refine wp_loop_rounds 5 ?_
 repeat (rw [rounds_succ];go_wp2)
 go_ret
 exact⟨rfl,rfl⟩
theorem isW_cases {b:Int} (h:isW b=true):b=8∨b=16∨b=32∨b=64:=by
 simp only [isW,Bool.or_eq_true,beq_iff_eq] at h
 omega
def gr (neg:Bool) (b:Int):Int:=if neg then 2 ^ (b-1).toNat else 2 ^ b.toNat-1
theorem greatest_any (neg:Bool) (b:Int) (w:World) (h:b=8∨b=16∨b=32∨b=64) :
  Calls Tryz.prog 276 #[.bool neg,.int .i64 b] w fun e w'=>e=.returned (.int .u64 (gr neg b))∧w=w':=by
 rcases h with rfl|rfl|rfl|rfl <;> cases neg
 all_goals
  go_enter Tryz.func276,Tryz.ntmps276
  go_wp2
  go_ret
  exact⟨rfl,rfl⟩
def sx (b x:Int):Int :=
 if b=8 then (x+128) % 256-128 else if b=16 then (x+32768) % 65536-32768 else if b=32 then (x+2147483648) % 4294967296-2147483648 else (x+9223372036854775808) % 18446744073709551616-9223372036854775808
theorem extend_yes (x b:Int) (w:World) (h0:0≤x) (h1:x<18446744073709551616) (hw:Wid w) (h:b=8∨b=16∨b=32∨b=64) :
  Calls Tryz.prog 231 #[.int .u64 x,.int .i64 b] w fun e w'=>e=.returned (.int .i64 (sx b x))∧w=w':=by
 rcases h with rfl|rfl|rfl|rfl
 all_goals
  go_enter Tryz.func231,Tryz.ntmps231
  go_wp2_with (go_at_call 230;refine (isWidth_yes _ _ hw (by decide)).mono ?_;rintro e w' ⟨rfl,rfl⟩)
  go_ret
  refine⟨ret_int ?_,rfl⟩
  simp only [sx,wrap64,IntKind.wrap_u64]
  first|omega|(simp;omega)|(simp;done)
theorem sx_mod (b x:Int):sx b (x % 18446744073709551616)=sx b x:=by
 unfold sx
 repeat' split
 all_goals omega
theorem fits_yes (x b:Int) (w:World) (hw:Wid w) (h:b=8∨b=16∨b=32∨b=64) :
  Calls Tryz.prog 197 #[.int .i64 x,.int .i64 b] w fun e w'=>e=.returned (.bool (sx b x==x))∧w=w':=by
 have h0:0≤IntKind.u64.wrap x:=by rw [IntKind.wrap_u64];omega
 have h1:IntKind.u64.wrap x<18446744073709551616:=by rw [IntKind.wrap_u64];omega
 go_enter Tryz.func197,Tryz.ntmps197
 go_wp2_with (first|(go_at_call 230;refine (isWidth_yes _ _ hw h).mono ?_;rintro e w' ⟨rfl,rfl⟩)|(go_at_call 231;refine (extend_yes _ _ _ h0 h1 hw h).mono ?_;rintro e w' ⟨rfl,rfl⟩))
 go_ret
 refine⟨ret_bool ?_,rfl⟩
 show (sx b (IntKind.u64.wrap x)==x)=_
 rw [IntKind.wrap_u64,sx_mod]
def dg (r:Int):Int:=if 48≤r∧r≤57 then r-48 else if 97≤r∧r≤102 then r-87 else if 65≤r∧r≤70 then r-55 else 18446744073709551615
theorem digit_any (r:Int) (w:World) (h0:0≤r) (h1:r≤2147483647) :
  Calls Tryz.prog 301 #[.int .i32 r] w fun e w'=>e=.returned (.int .u64 (dg r))∧w=w':=by
 rcases (show r<48∨(48≤r∧r≤57)∨(57<r∧r<65)∨(65≤r∧r≤70)∨(70<r∧r<97)∨(97≤r∧r≤102)∨102<r by omega) with h|⟨h,h'⟩|⟨h,h'⟩|⟨h,h'⟩|⟨h,h'⟩|⟨h,h'⟩|h
 all_goals
  go_enter Tryz.func301,Tryz.ntmps301
  go_wp2
  go_ret
  refine⟨ret_int ?_,rfl⟩
  unfold dg
  repeat' split
  all_goals first|omega|(simp;omega)
end Go.Proofs.YtdgnjhhieemcaaaGreatDoor.L1
end
section
namespace Go.Proofs.YtdgnjhhieemcaaaGreatDoor.L2
open Go.RowKit
theorem ret_int {k:IntKind} {a b:Int} (h:a=b):Ending.returned (.int k a)=.returned (.int k b):=by rw [h]
theorem ret_bool {a b:Bool} (h:a=b):Ending.returned (.bool a)=.returned (.bool b):=by rw [h]
theorem bch {w a b:World} (h:Below w.heap.size w a) (k:Below a.heap.size a b):Below w.heap.size w b:=h.trans (k.mono h.size)
def dgt (r:Int):Bool:=decide (48≤r) && decide (r≤57)
def wch (r:Int):Bool:=(decide (65≤r) && decide (r≤90)) || (decide (97≤r) && decide (r≤122)) || dgt r || r==95 || r==46
theorem isDigit_any (r:Int) (w:World):Calls Tryz.prog 251 #[.int .i32 r] w fun e w'=>e=.returned (.bool (dgt r))∧w=w':=by
 go_enter Tryz.func251,Tryz.ntmps251
 go_wp2
 all_goals
  go_ret
  exact⟨ret_bool (by rw [Bool.eq_iff_iff];simp [dgt];try omega),rfl⟩
theorem isDigit_at (r:Int) (b:Bool) (w:World) (h:dgt r=b):Calls Tryz.prog 251 #[.int .i32 r] w fun e w'=>e=.returned (.bool b)∧w=w':=by
 subst h;exact isDigit_any r w
theorem isWord_any (r:Int) (w:World):Calls Tryz.prog 254 #[.int .i32 r] w fun e w'=>e=.returned (.bool (wch r))∧w=w':=by
 obtain⟨d,hd⟩:∃ d,dgt r=d:=⟨_,rfl⟩
 have HD:=Lib.hid hd
 clear hd
 cases d
 all_goals
  go_enter Tryz.func254,Tryz.ntmps254
  go_wp2_with (go_at_call 251;((with_reducible refine (isDigit_at r _ _ HD.out).mono ?_);rintro e w' ⟨rfl,rfl⟩))
  all_goals
   go_ret
   exact⟨ret_bool (by have:=HD.out;rw [Bool.eq_iff_iff];simp only [wch,this];simp;try omega),rfl⟩
theorem isWord_at (r:Int) (b:Bool) (w:World) (h:wch r=b):Calls Tryz.prog 254 #[.int .i32 r] w fun e w'=>e=.returned (.bool b)∧w=w':=by
 subst h;exact isWord_any r w
def wn:List UInt8→Nat
 | []=>0
 | c::r=>if wch (c.toNat:Int) then wn r+1 else 0
theorem wn_le:∀ l:List UInt8,wn l≤l.length
 | []=>Nat.le_refl _
 | c::r=>by
  have:=wn_le r
  simp only [wn,List.length_cons]
  split <;> omega
theorem drop_at (t:ByteArray) (pos:Nat) (h:pos<t.size):t.data.toList.drop pos=t[pos]::t.data.toList.drop (pos+1):=by
 rw [List.drop_eq_getElem_cons (by simpa using h)];rfl
theorem wch_high {r:Int} (h:128≤r):wch r=false:=by
 have h1:¬ r≤90:=by omega
 have h2:¬ r≤122:=by omega
 have h3:¬ r≤57:=by omega
 have h4:¬ r=95:=by omega
 have h5:¬ r=46:=by omega
 simp [wch,dgt,h1,h2,h3,h4,h5]
theorem wch_decode (t:ByteArray) (pos:Nat) (h:pos<t.size):wch (Utf8.decode t pos).1=wch ((t[pos]'h).toNat:Int):=by
 by_cases ha:(t[pos]'h).toNat<128
 ·rw [decode_ascii t pos h ha]
 ·have:=decode_high t pos h (by omega)
  rw [wch_high (by omega),wch_high (by omega)]
theorem decode_one (t:ByteArray) (pos:Nat) (h:pos<t.size) (hd:wch ((t[pos]'h).toNat:Int)=true):(Utf8.decode t pos).2=1:=by
 by_cases ha:(t[pos]'h).toNat<128
 ·rw [decode_ascii t pos h ha]
 ·rw [wch_high (by omega)] at hd
  cases hd
theorem word_any (s:ByteArray) (w:World):Calls Tryz.prog 224 #[.string s] w fun e w'=>e=.returned (.int .i64 (wn s.data.toList))∧Below w.heap.size w w':=by
 go_enter Tryz.func224,Tryz.ntmps224
 go_wp2
 go_loopw [] (fun wr=>∃ pos:Nat,pos≤s.size∧wr.heap[w.heap.size]?=some (.stringIter s pos)∧Below w.heap.size w wr∧Hid (pos+wn (s.data.toList.drop pos)=wn s.data.toList)) (fun wr=>s.size-wr.iterPos w.heap.size)
 case atStart=>exact⟨0,Nat.zero_le _,heap_alloc_new _ _,(Below.refl _ _).alloc (Nat.le_refl _) _,Lib.hid (by simp)⟩
 case round =>
  obtain⟨pos,hp,hit,hbel,hR⟩:=hrel
  by_cases hlt:pos<s.size
  ·obtain⟨W1,hW1⟩:∃ W1,W1=wr.iterAt w.heap.size s (pos+(Utf8.decode s pos).2):=⟨_,rfl⟩
   have hnx:∀ ty,(Instr.next (.pointer (some ⟨w.heap.size,0,none⟩)) true ty).run Tryz.prog wr=.ok (.tuple #[.bool true,.int .i64 pos,.int .i32 (Utf8.decode s pos).1]) W1:=fun ty=>hW1 ▸ Lib.run_next_any_at wr _ s pos ty hit hlt
   have hi1:W1.heap[w.heap.size]?=some (.stringIter s (pos+(Utf8.decode s pos).2)):=by rw [hW1];exact Lib.iterAt_heap _ _ _ _ _ hit
   have hbel1:Below w.heap.size w W1:=by rw [hW1];exact Lib.below_iterAt hbel (Nat.le_refl _) _ _
   have HI:=Lib.hid hi1
   clear hW1 hi1
   have HD:=Lib.hid (wch_decode s pos hlt)
   have HE:=Lib.hid (drop_at s pos hlt)
   have HT:=Lib.hid hit
   clear hit
   cases hc:wch ((s[pos]'hlt).toNat:Int) with
   | true =>
    have HC:=Lib.hid hc
    clear hc
    go_wp2_with (go_at_call 254;((with_reducible refine (isWord_at _ true _ (HD.out.trans HC.out)).mono ?_);rintro e w' ⟨rfl,rfl⟩))
    go_roundw
    case rel =>
     refine⟨pos+1,by omega,?_,hbel1,Lib.hid ?_⟩
     ·have:=HI.out
      rw [decode_one s pos hlt HC.out] at this
      exact this
     ·have:=hR.out
      rw [HE.out] at this
      simp only [wn,HC.out,if_true] at this
      omega
    case measure =>
     have:=HI.out
     rw [decode_one s pos hlt HC.out] at this
     rw [iterPos_of HT.out,iterPos_of this]
     omega
   | false =>
    have HC:=Lib.hid hc
    clear hc
    go_wp2_with (go_at_call 254;((with_reducible refine (isWord_at _ false _ (HD.out.trans HC.out)).mono ?_);rintro e w' ⟨rfl,rfl⟩))
    go_ret
    refine⟨ret_int ?_,hbel1⟩
    have:=hR.out
    rw [HE.out] at this
    simp only [wn,HC.out] at this
    simp only [Bool.false_eq_true,if_false] at this
    omega
  ·have hnx:∀ ty,(Instr.next (.pointer (some ⟨w.heap.size,0,none⟩)) true ty).run Tryz.prog wr=.ok (.tuple #[.bool false]) wr:=fun ty=>Lib.run_next_end_at wr _ s pos ty hit hlt
   go_wp2
   go_ret
   refine⟨ret_int ?_,hbel⟩
   have:=hR.out
   rw [List.drop_eq_nil_of_le (by simp;omega)] at this
   simp only [wn] at this
   omega
theorem word_at (s:ByteArray) (n:Int) (w:World) (h:(wn s.data.toList:Int)=n):Calls Tryz.prog 224 #[.string s] w fun e w'=>e=.returned (.int .i64 n)∧Below w.heap.size w w':=by
 subst h;exact word_any s w
end Go.Proofs.YtdgnjhhieemcaaaGreatDoor.L2
end
section
namespace Go.Proofs.YtdgnjhhieemcaaaGreatDoor.L1
open Go.RowKit
theorem digit_at (r:Int) (d:Nat) (w:World) (h0:0≤r) (h1:r≤2147483647) (hd:dg r=d) :
  Calls Tryz.prog 301 #[.int .i32 r] w fun e w'=>e=.returned (.int .u64 (d:Int))∧w=w':=by
 rw [← hd];exact digit_any r w h0 h1
theorem add64_at (x y:Nat) (w:World):(callFunc 303 #[.int .u64 (x:Int),.int .u64 (y:Int),.int .u64 0]).run Tryz.prog w =
   .ok (.value (.tuple #[.int .u64 (((x+y) % 18446744073709551616:Nat):Int),.int .u64 (((x+y) / 18446744073709551616:Nat):Int)])) w:=by
 rw [run_callFunc_extern Tryz.func303 (by kernel_rfl) (by kernel_rfl) (by kernel_rfl) (e:=add64Entry) (by kernel_rfl),run_add64 (x:Int) y 0 (by omega) (by omega) (by omega) (by omega)]
 simp only [Result.andThen]
 congr 5 <;> omega
theorem add_no (v base d:Nat) (o:Bool) (r:Int) (k:Nat) (w:World) (h0:0≤r) (h1:r≤2147483647) (hd:dg r=d)
  (hc:w.heap[k]?=some (.cells #[.int .u64 (base:Int)] 94 (0,0))) (hdb:base≤d) :
  Calls Tryz.prog 300 #[.agg #[.int .u64 (v:Int),.bool o],.int .i32 r,.pointer (some ⟨k,0,none⟩)] w fun e w' =>
   e=.returned (.tuple #[.agg #[.int .u64 0,.bool false],.bool false])∧Below w.heap.size w w':=by
 have cK:=cell_of_one hc
 have fK:=free_of_one hc
 have lK:=lt_of_block hc
 have HD:=Lib.hid hd
 clear hd hc
 have hdb':decide ((base:Int)≤(d:Int))=true:=by simpa using hdb
 go_enter Tryz.func300,Tryz.ntmps300
 go_wp2_with (go_at_call 301;refine (digit_at _ d _ h0 h1 HD.out).mono ?_;rintro e w' ⟨rfl,rfl⟩)
 refine bodyPost_ret (v:=.tuple #[.agg #[.int .u64 0,.bool false],.bool false]) (by simp [results,Tryz.results300,go_sem]) rfl ⟨rfl,?_⟩
 exact ((Below.refl _ _).alloc (Nat.le_refl _) _).alloc (by simp) _
theorem mul_at (x y hi lo:Nat) (w:World) (hx:x<18446744073709551616) (hy:y<18446744073709551616) (e1:hi=x*y / 18446744073709551616) (e2:lo=x*y % 18446744073709551616) :
  Calls Tryz.prog 302 #[.int .u64 (x:Int),.int .u64 (y:Int)] w fun e w'=>e=.returned (.tuple #[.int .u64 (hi:Int),.int .u64 (lo:Int)])∧w=w':=by
 subst e1;subst e2
 exact (Tryz.bits_Mul64 x y hx hy w).mono fun _ _ h=>⟨h.1,h.2.symm⟩
theorem add_arith (v base d hi lo sm cy:Nat) (o:Bool) (e1:hi=v*base / 18446744073709551616) (e2:lo=v*base % 18446744073709551616)
  (e3:sm=(lo+d) % 18446744073709551616) (e4:cy=(lo+d) / 18446744073709551616) :
  sm=(v*base+d) % 18446744073709551616∧(o || !(hi==0) || !(cy==0))=(o || decide (18446744073709551616≤v*base+d)):=by
 generalize v*base=P at *
 refine⟨by omega,?_⟩
 rw [Bool.or_assoc]
 congr 1
 by_cases h:18446744073709551616≤P+d
 ·simp only [h,decide_true]
  by_cases h1:hi=0
  ·have:cy≠0:=by omega
   simp [this]
  ·simp [h1]
 ·have h1:hi=0:=by omega
  have h2:cy=0:=by omega
  simp [h,h1,h2]
theorem add_yes (v base d:Nat) (o:Bool) (r:Int) (k:Nat) (w:World) (hv:v<18446744073709551616) (hb0:base<100) (h0:0≤r) (h1:r≤2147483647) (hd:dg r=d)
  (hc:w.heap[k]?=some (.cells #[.int .u64 (base:Int)] 94 (0,0))) (hdb:d<base) :
  Calls Tryz.prog 300 #[.agg #[.int .u64 (v:Int),.bool o],.int .i32 r,.pointer (some ⟨k,0,none⟩)] w fun e w' =>
   e=.returned (.tuple #[.agg #[.int .u64 (((v*base+d) % 18446744073709551616:Nat):Int),.bool (o || decide (18446744073709551616≤v*base+d))],.bool true])∧Below w.heap.size w w':=by
 have cK:=cell_of_one hc
 have fK:=free_of_one hc
 have lK:=lt_of_block hc
 have HD:=Lib.hid hd
 clear hd hc
 obtain⟨hi,e1⟩:∃ hi,hi=v*base / 18446744073709551616:=⟨_,rfl⟩
 obtain⟨lo,e2⟩:∃ lo,lo=v*base % 18446744073709551616:=⟨_,rfl⟩
 obtain⟨sm,e3⟩:∃ sm,sm=(lo+d) % 18446744073709551616:=⟨_,rfl⟩
 obtain⟨cy,e4⟩:∃ cy,cy=(lo+d) / 18446744073709551616:=⟨_,rfl⟩
 have HA:=Lib.hid (add_arith v base d hi lo sm cy o e1 e2 e3 e4)
 have E1:=Lib.hid e1
 have E2:=Lib.hid e2
 have hadd:∀ w,(callFunc 303 #[.int .u64 (lo:Int),.int .u64 (d:Int),.int .u64 0]).run Tryz.prog w=.ok (.value (.tuple #[.int .u64 (sm:Int),.int .u64 (cy:Int)])) w:=by
  intro w;rw [e3,e4];exact add64_at lo d w
 clear e1 e2 e3 e4
 have hdb':decide ((base:Int)≤(d:Int))=false:=by simpa using hdb
 have hdb2:decide (base≤d)=false:=by simpa using hdb
 have hval:∀ X:Bool,(o || !(hi==0) || !(cy==0))=X→Ending.returned (.tuple #[.agg #[.int .u64 (sm:Int),.bool X],.bool true])=Ending.returned (.tuple #[.agg #[.int .u64 (((v*base+d) % 18446744073709551616:Nat):Int),.bool (o || decide (18446744073709551616≤v*base+d))],.bool true]):=by
  intro X hX;rw [← HA.out.2,← HA.out.1,hX]
 have HV:=Lib.hid hval
 clear hval
 rcases (show (∃ X,X=true∧(o || !(hi==0) || !(cy==0))=X∧o=true)∨(o=false∧hi≠0)∨(o=false∧hi=0) by cases o <;> simp;omega) with ⟨X,rfl,hX,rfl⟩|⟨rfl,hh⟩|⟨rfl,rfl⟩
 ·clear hX
  go_enter Tryz.func300,Tryz.ntmps300
  go_wp2_with (first|(go_at_call 301;refine (digit_at _ d _ h0 h1 HD.out).mono ?_;rintro e w' ⟨rfl,rfl⟩)|(go_at_call 302;refine (mul_at v base hi lo _ hv (by omega) E1.out E2.out).mono ?_;rintro e w' ⟨rfl,rfl⟩))
  refine bodyPost_ret (v:=.tuple #[.agg #[.int .u64 (sm:Int),.bool true],.bool true]) (by simp [results,Tryz.results300,go_sem]) rfl ⟨HV.out true (by simp),?_⟩
  exact ((Below.refl _ _).alloc (Nat.le_refl _) _).alloc (by simp) _
 ·have h2:((hi:Int)==0)=false:=by simpa using hh
  have h3:((hi:Int) != 0)=true:=by simpa using hh
  have HH:=Lib.hid hh
  clear hh
  go_enter Tryz.func300,Tryz.ntmps300
  go_wp2_with (first|(go_at_call 301;refine (digit_at _ d _ h0 h1 HD.out).mono ?_;rintro e w' ⟨rfl,rfl⟩)|(go_at_call 302;refine (mul_at v base hi lo _ hv (by omega) E1.out E2.out).mono ?_;rintro e w' ⟨rfl,rfl⟩))
  refine bodyPost_ret (v:=.tuple #[.agg #[.int .u64 (sm:Int),.bool true],.bool true]) (by simp [results,Tryz.results300,go_sem]) rfl ⟨HV.out true (by simp [HH.out]),?_⟩
  exact ((Below.refl _ _).alloc (Nat.le_refl _) _).alloc (by simp) _
 ·go_enter Tryz.func300,Tryz.ntmps300
  go_wp2_with (first|(go_at_call 301;refine (digit_at _ d _ h0 h1 HD.out).mono ?_;rintro e w' ⟨rfl,rfl⟩)|(go_at_call 302;refine (mul_at v base 0 lo _ hv (by omega) E1.out E2.out).mono ?_;rintro e w' ⟨rfl,rfl⟩))
  refine bodyPost_ret (v:=.tuple #[.agg #[.int .u64 (sm:Int),.bool ((cy:Int) != 0)],.bool true]) (by simp [results,Tryz.results300,go_sem]) rfl ⟨HV.out _ ?_,?_⟩
  ·by_cases hc:cy=0
   ·subst hc;rfl
   ·have hc':((cy:Int) != 0)=true:=by simpa using hc
    rw [hc']
    simp [hc]
  ·exact ((Below.refl _ _).alloc (Nat.le_refl _) _).alloc (by simp) _
end Go.Proofs.YtdgnjhhieemcaaaGreatDoor.L1
end
