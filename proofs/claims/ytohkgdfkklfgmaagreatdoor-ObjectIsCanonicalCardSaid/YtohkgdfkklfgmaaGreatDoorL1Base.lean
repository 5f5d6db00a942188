/- Contracts of the functions of layer 1 that leave memory alone, and of those of the reference: what each returns. No condition but that the numbers are of their kinds and that the table of widths reads as the program's text lays it. -/
import Derived.Test.YtohkgdfkklfgmaaGreatDoorProg
import Derived.Lib.Strings
import Derived.WalkKit
import Derived.Handy
import Derived.Laws.Rows
import Derived.Laws.Externs
import Derived.Lib.LaidTab
import Derived.Lib.Hide
import Derived.LoopN
import Derived.Outline
import Derived.Deep.QuietTactic
import Derived.BigQuiet
import Derived.WalkSmall
set_option maxHeartbeats 1000000
namespace Go.Proofs.YtohkgdfkklfgmaaGreatDoor
theorem zA (l:List Value) (i:Nat) (a:Value):l.toArray.setIfInBounds i a=(l.set i a).toArray:=List.setIfInBounds_toArray ..
theorem zB (a:Value) (l:List Value) (b:Value):(a::l).set 0 b=b::l:=rfl
theorem zC (a:Value) (l:List Value) (n:Nat) (b:Value):(a::l).set (n+1) b=a::l.set n b:=rfl
end Go.Proofs.YtohkgdfkklfgmaaGreatDoor
namespace Go.Proofs.YtohkgdfkklfgmaaGreatDoor.L1
open Go.RowKit
def Wid (w:World):Prop:=∃ t fr,w.heap[0]?=some (.cells #[.int .i64 8,.int .i64 16,.int .i64 32,.int .i64 64] t fr)
def isW (b:Int):Bool:=b==8 || b==16 || b==32 || b==64
theorem isWidth_yes (b:Int) (w:World) (hw:Wid w) (h:b=8∨b=16∨b=32∨b=64) :
  Calls Tryz.prog 147 #[.int .i64 b] w fun e w'=>e=.returned (.bool true)∧w=w':=by
 obtain⟨t,fr,hg⟩:=hw
 have i0:∀ w,(Instr.index 212 (.agg #[.int .i64 8,.int .i64 16,.int .i64 32,.int .i64 64]) (.int .i64 0)).run Tryz.prog w=.ok (.int .i64 8) w:=fun _=>by kernel_rfl
 have i1:∀ w,(Instr.index 212 (.agg #[.int .i64 8,.int .i64 16,.int .i64 32,.int .i64 64]) (.int .i64 1)).run Tryz.prog w=.ok (.int .i64 16) w:=fun _=>by kernel_rfl
 have i2:∀ w,(Instr.index 212 (.agg #[.int .i64 8,.int .i64 16,.int .i64 32,.int .i64 64]) (.int .i64 2)).run Tryz.prog w=.ok (.int .i64 32) w:=fun _=>by kernel_rfl
 have i3:∀ w,(Instr.index 212 (.agg #[.int .i64 8,.int .i64 16,.int .i64 32,.int .i64 64]) (.int .i64 3)).run Tryz.prog w=.ok (.int .i64 64) w:=fun _=>by kernel_rfl
 rcases h with rfl|rfl|rfl|rfl
 all_goals
  go_enter Tryz.func147,Tryz.ntmps147
  go_wp2_with (refine wpList_load_row rfl 212 _ rfl 0 rfl t _ fr _ hg Tryz.underlying212 rfl (by kernel_rfl) ?_)
  refine wp_loop_rounds 5 ?_
  repeat (rw [rounds_succ];go_wp2)
  go_ret
  exact⟨rfl,rfl⟩
theorem ret_int {k:IntKind} {a b:Int} (h:a=b):Ending.returned (.int k a)=.returned (.int k b):=by rw [h]
theorem ret_bool {a b:Bool} (h:a=b):Ending.returned (.bool a)=.returned (.bool b):=by rw [h]
theorem width_any (b:Int) (w:World) :
  Calls Tryz.prog 185 #[.int .i64 b] w fun e w'=>e=.returned (.bool (isW b))∧w=w':=by
 go_enter Tryz.func185,Tryz.ntmps185
 go_wp2
 all_goals
  go_ret
  exact⟨ret_bool (by simp [isW, *]),rfl⟩
theorem width_is (b:Int) (w:World) (c:Bool) (h:isW b=c) :
  Calls Tryz.prog 185 #[.int .i64 b] w fun e w'=>e=.returned (.bool c)∧w=w':=by
 rw [← h];exact width_any b w
def gr (neg:Bool) (b:Int):Int:=if neg then 2 ^ (b-1).toNat else 2 ^ b.toNat-1
def sx (b x:Int):Int :=
 if b=8 then (x+128) % 256-128 else if b=16 then (x+32768) % 65536-32768 else if b=32 then (x+2147483648) % 4294967296-2147483648 else (x+9223372036854775808) % 18446744073709551616-9223372036854775808
theorem extend_yes (x b:Int) (w:World) (h0:0≤x) (h1:x<18446744073709551616) (hw:Wid w) (h:b=8∨b=16∨b=32∨b=64) :
  Calls Tryz.prog 148 #[.int .u64 x,.int .i64 b] w fun e w'=>e=.returned (.int .i64 (sx b x))∧w=w':=by
 rcases h with rfl|rfl|rfl|rfl
 all_goals
  go_enter Tryz.func148,Tryz.ntmps148
  go_wp2_with (go_at_call 147;refine (isWidth_yes _ _ hw (by decide)).mono ?_;rintro e w' ⟨rfl,rfl⟩)
  go_ret
  refine⟨ret_int ?_,rfl⟩
  simp only [sx,wrap64,IntKind.wrap_u64]
  first|omega|(simp;omega)|(simp;done)
theorem sx_mod (b x:Int):sx b (x % 18446744073709551616)=sx b x:=by
 unfold sx
 repeat' split
 all_goals omega
theorem fits_yes (x b:Int) (w:World) (hw:Wid w) (h:b=8∨b=16∨b=32∨b=64) :
  Calls Tryz.prog 113 #[.int .i64 x,.int .i64 b] w fun e w'=>e=.returned (.bool (sx b x==x))∧w=w':=by
 have h0:0≤IntKind.u64.wrap x:=by rw [IntKind.wrap_u64];omega
 have h1:IntKind.u64.wrap x<18446744073709551616:=by rw [IntKind.wrap_u64];omega
 go_enter Tryz.func113,Tryz.ntmps113
 go_wp2_with (first|(go_at_call 147;refine (isWidth_yes _ _ hw h).mono ?_;rintro e w' ⟨rfl,rfl⟩)|(go_at_call 148;refine (extend_yes _ _ _ h0 h1 hw h).mono ?_;rintro e w' ⟨rfl,rfl⟩))
 go_ret
 refine⟨ret_bool ?_,rfl⟩
 show (sx b (IntKind.u64.wrap x)==x)=_
 rw [IntKind.wrap_u64,sx_mod]
theorem power_any (n:Nat) (w:World) (hn:n≤63) :
  Calls Tryz.prog 186 #[.int .i64 n] w fun e w'=>e=.returned (.int .u64 ((2:Int) ^ n))∧w=w':=by
 go_enter Tryz.func186,Tryz.ntmps186
 go_wp2
 go_loop [3,4] (fun x i=>∃ k:Nat,k≤n∧i=.int .i64 k∧x=.int .u64 ((2:Int) ^ k)) (fun _ i=>n-(intOf i).toNat)
 case atStart=>exact⟨0,Nat.zero_le _,rfl,rfl⟩
 case round =>
  obtain⟨k,hk,rfl,rfl⟩:=hrel
  by_cases hlt:k<n
  ·have HS:=Lib.hid (Int.pow_succ 2 k)
   have h1:(2:Int) ^ k≤4611686018427387904:=by
    have:2 ^ k≤2 ^ 62:=Nat.pow_le_pow_right (by decide) (by omega)
    have h2:((2 ^ k:Nat):Int)≤((2 ^ 62:Nat):Int):=by exact_mod_cast this
    simpa using h2
   have h0:0≤(2:Int) ^ k:=Int.pow_nonneg (by decide)
   go_wp2
   go_round
   case rel=>exact⟨k+1,by omega,by go_num,by rw [HS.out];try go_num⟩
   case measure=>simp [intOf];omega
  ·have:k=n:=by omega
   subst this
   go_wp2
   go_ret
   exact⟨rfl,rfl⟩
theorem power_at (b:Int) (n:Nat) (p:Int) (w:World) (hb:b=n) (hn:n≤63) (hp:p=(2:Int) ^ n) :
  Calls Tryz.prog 186 #[.int .i64 b] w fun e w'=>e=.returned (.int .u64 p)∧w=w':=by
 subst hb;subst hp;exact power_any n w hn
theorem rextend_32 (x:Int) (w:World) (h0:0≤x) (h1:x<18446744073709551616) :
  Calls Tryz.prog 163 #[.int .u64 x,.int .i64 32] w fun e w'=>e=.returned (.int .i64 (sx 32 x))∧w=w':=by
 go_enter Tryz.func163,Tryz.ntmps163
 go_wp2_with (first|(go_at_call 185;refine (width_is _ _ true (by decide)).mono ?_;rintro e w' ⟨rfl,rfl⟩)|((with_reducible go_at_call 186);((with_reducible refine (power_at 32 32 4294967296 _ rfl (by decide) rfl).mono ?_);rintro e w' ⟨rfl,rfl⟩))|(go_at_call 186;((with_reducible refine (power_at 31 31 2147483648 _ rfl (by decide) rfl).mono ?_);rintro e w' ⟨rfl,rfl⟩)))
 all_goals
  go_ret
  refine⟨ret_int ?_,rfl⟩
  simp only [sx]
  first|omega|(simp;omega)
def dg (r:Int):Int:=if 48≤r∧r≤57 then r-48 else if 97≤r∧r≤102 then r-87 else if 65≤r∧r≤70 then r-55 else 18446744073709551615
end Go.Proofs.YtohkgdfkklfgmaaGreatDoor.L1
