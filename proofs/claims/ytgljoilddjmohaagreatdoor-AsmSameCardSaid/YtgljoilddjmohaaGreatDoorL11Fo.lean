/- What num.Format returns, and the tables that the texts are written with. Condition: the tables read as the program's text lays them. -/
import Derived.Test.YtgljoilddjmohaaGreatDoorM2
import Derived.Test.YtgljoilddjmohaaGreatDoorM8
import Derived.Test.YtgljoilddjmohaaGreatDoorShelg
namespace Go.Proofs.YtgljoilddjmohaaGreatDoor.L11
open Go.RowKit Go.Sort
structure Tb (w:World):Prop where
 two:L1.Wid w∧L2.Regs w
 tab:Lib.TabIs Tryz.prog w "internal/strconv.uint64pow10" .u64 Lib.pow10Tab
 big:5<w.heap.size
theorem gPow:Tryz.prog.globalNamed "internal/strconv.uint64pow10"=some 5:=by kernel_rfl
theorem Tb.below {w w':World} (h:Tb w) (hb:Below w.heap.size w w'):Tb w' :=
 ⟨⟨L4.wid_below h.two.1 hb,h.two.2.below hb⟩,var?_below hb gPow h.big h.tab,Nat.lt_of_lt_of_le h.big hb.size⟩
theorem Tb.new {w:World} (h:Tb w) (o:Obj):Tb (w.alloc o):=h.below ((Below.refl _ _).alloc (Nat.le_refl _) o)
theorem Tb.drew {w:World} (h:Tb w):Tb w.drew:=h.below (Below.refl _ _).drew
theorem below_grow {w:World} {k:Nat} {os:Array Obj}:Below w.heap.size w (grow (w.drewN k) os) :=
 ⟨rfl,rfl,rfl,by simp [grow],fun k' hk=>heap_grow_old (w.drewN k) os hk⟩
theorem format_at (n:Int) (h0:-9223372036854775808≤n) (h1:n≤9223372036854775807) (w:World) (ht:Tb w) :
  Calls Tryz.prog 103 #[.int .i64 n] w fun e w'=>e=.returned (.string ⟨(Lib.itoa n).toArray⟩)∧Below w.heap.size w w':=by
 go_enter Tryz.func103,Tryz.ntmps103
 go_wp2_with (go_at_call 162;refine (Tryz.strconv_FormatInt_10 n h0 h1 _ ht.tab).mono ?_;rintro e w' ⟨rfl,k,os,rfl⟩)
 go_ret
 exact⟨rfl,below_grow⟩
end Go.Proofs.YtgljoilddjmohaaGreatDoor.L11
