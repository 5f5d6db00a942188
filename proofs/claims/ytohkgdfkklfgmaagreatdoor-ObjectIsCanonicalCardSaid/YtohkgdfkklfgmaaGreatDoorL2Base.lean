/- Contracts of the functions of layer 2 that look at characters, the program's and the reference's: which characters are word characters, and how many of them a text begins with. No condition. -/
import Derived.Test.YtohkgdfkklfgmaaGreatDoorProg
import Derived.WalkKit
import Derived.Handy
import Derived.Laws.Rows
import Derived.Laws.Externs
import Derived.Laws.RangeString
import Derived.Laws.RangeAny
import Derived.Lib.LaidTab
import Derived.Lib.Hide
import Derived.Lib.Strings
import Derived.Lib.OthersKept
import Derived.LoopN
import Derived.OneCell
import Derived.Outline
import Derived.Deep.QuietTactic
import Derived.BigQuiet
import Derived.WalkSmall
set_option maxRecDepth 100000
set_option maxHeartbeats 1000000
namespace Go.Proofs.YtohkgdfkklfgmaaGreatDoor.L2
open Go.RowKit
theorem ret_int {k:IntKind} {a b:Int} (h:a=b):Ending.returned (.int k a)=.returned (.int k b):=by rw [h]
theorem ret_bool {a b:Bool} (h:a=b):Ending.returned (.bool a)=.returned (.bool b):=by rw [h]
theorem bch {w a b:World} (h:Below w.heap.size w a) (k:Below a.heap.size a b):Below w.heap.size w b:=h.trans (k.mono h.size)
def dgt (r:Int):Bool:=decide (48≤r) && decide (r≤57)
def wch (r:Int):Bool:=(decide (65≤r) && decide (r≤90)) || (decide (97≤r) && decide (r≤122)) || dgt r || r==95 || r==46
theorem isDigit_any (r:Int) (w:World):Calls Tryz.prog 175 #[.int .i32 r] w fun e w'=>e=.returned (.bool (dgt r))∧w=w':=by
 go_enter Tryz.func175,Tryz.ntmps175
 go_wp2
 all_goals
  go_ret
  exact⟨ret_bool (by rw [Bool.eq_iff_iff];simp [dgt];try omega),rfl⟩
theorem isDigit_at (r:Int) (b:Bool) (w:World) (h:dgt r=b):Calls Tryz.prog 175 #[.int .i32 r] w fun e w'=>e=.returned (.bool b)∧w=w':=by
 subst h;exact isDigit_any r w
theorem isWord_any (r:Int) (w:World):Calls Tryz.prog 187 #[.int .i32 r] w fun e w'=>e=.returned (.bool (wch r))∧w=w':=by
 obtain⟨d,hd⟩:∃ d,dgt r=d:=⟨_,rfl⟩
 have HD:=Lib.hid hd
 clear hd
 cases d
 all_goals
  go_enter Tryz.func187,Tryz.ntmps187
  go_wp2_with (go_at_call 175;((with_reducible refine (isDigit_at r _ _ HD.out).mono ?_);rintro e w' ⟨rfl,rfl⟩))
  all_goals
   go_ret
   exact⟨ret_bool (by have:=HD.out;rw [Bool.eq_iff_iff];simp only [wch,this];simp;try omega),rfl⟩
theorem isWord_at (r:Int) (b:Bool) (w:World) (h:wch r=b):Calls Tryz.prog 187 #[.int .i32 r] w fun e w'=>e=.returned (.bool b)∧w=w':=by
 subst h;exact isWord_any r w
theorem in_any (c:Int) (w:World):Calls Tryz.prog 94 #[.int .u8 c] w fun e w'=>e=.returned (.bool (wch c))∧w=w':=by
 go_enter Tryz.func94,Tryz.ntmps94
 go_wp2
 all_goals
  go_ret
  exact⟨ret_bool (by rw [Bool.eq_iff_iff];simp [wch,dgt];try omega),rfl⟩
theorem in_at (c:Int) (b:Bool) (w:World) (h:wch c=b):Calls Tryz.prog 94 #[.int .u8 c] w fun e w'=>e=.returned (.bool b)∧w=w':=by
 subst h;exact in_any c w
def wn:List UInt8→Nat
 | []=>0
 | c::r=>if wch (c.toNat:Int) then wn r+1 else 0
theorem drop_at (t:ByteArray) (pos:Nat) (h:pos<t.size):t.data.toList.drop pos=t[pos]::t.data.toList.drop (pos+1):=by
 rw [List.drop_eq_getElem_cons (by simpa using h)];rfl
theorem wch_high {r:Int} (h:128≤r):wch r=false:=by
 have h1:¬ r≤90:=by omega
 have h2:¬ r≤122:=by omega
 have h3:¬ r≤57:=by omega
 have h4:¬ r=95:=by omega
 have h5:¬ r=46:=by omega
 simp [wch,dgt,h1,h2,h3,h4,h5]
theorem wch_decode (t:ByteArray) (pos:Nat) (h:pos<t.size):wch (Utf8.decode t pos).1=wch ((t[pos]'h).toNat:Int):=by
 by_cases ha:(t[pos]'h).toNat<128
 ·rw [decode_ascii t pos h ha]
 ·have:=decode_high t pos h (by omega)
  rw [wch_high (by omega),wch_high (by omega)]
theorem decode_one (t:ByteArray) (pos:Nat) (h:pos<t.size) (hd:wch ((t[pos]'h).toNat:Int)=true):(Utf8.decode t pos).2=1:=by
 by_cases ha:(t[pos]'h).toNat<128
 ·rw [decode_ascii t pos h ha]
 ·rw [wch_high (by omega)] at hd
  cases hd
theorem word_any (s:ByteArray) (w:World):Calls Tryz.prog 177 #[.string s] w fun e w'=>e=.returned (.int .i64 (wn s.data.toList))∧Below w.heap.size w w':=by
 go_enter Tryz.func177,Tryz.ntmps177
 go_wp2
 go_loopw [] (fun wr=>∃ pos:Nat,pos≤s.size∧wr.heap[w.heap.size]?=some (.stringIter s pos)∧Below w.heap.size w wr∧Hid (pos+wn (s.data.toList.drop pos)=wn s.data.toList)) (fun wr=>s.size-wr.iterPos w.heap.size)
 case atStart=>exact⟨0,Nat.zero_le _,heap_alloc_new _ _,(Below.refl _ _).alloc (Nat.le_refl _) _,Lib.hid (by simp)⟩
 case round =>
  obtain⟨pos,hp,hit,hbel,hR⟩:=hrel
  by_cases hlt:pos<s.size
  ·obtain⟨W1,hW1⟩:∃ W1,W1=wr.iterAt w.heap.size s (pos+(Utf8.decode s pos).2):=⟨_,rfl⟩
   have hnx:∀ ty,(Instr.next (.pointer (some ⟨w.heap.size,0,none⟩)) true ty).run Tryz.prog wr=.ok (.tuple #[.bool true,.int .i64 pos,.int .i32 (Utf8.decode s pos).1]) W1:=fun ty=>hW1 ▸ Lib.run_next_any_at wr _ s pos ty hit hlt
   have hi1:W1.heap[w.heap.size]?=some (.stringIter s (pos+(Utf8.decode s pos).2)):=by rw [hW1];exact Lib.iterAt_heap _ _ _ _ _ hit
   have hbel1:Below w.heap.size w W1:=by rw [hW1];exact Lib.below_iterAt hbel (Nat.le_refl _) _ _
   have HI:=Lib.hid hi1
   clear hW1 hi1
   have HD:=Lib.hid (wch_decode s pos hlt)
   have HE:=Lib.hid (drop_at s pos hlt)
   have HT:=Lib.hid hit
   clear hit
   cases hc:wch ((s[pos]'hlt).toNat:Int) with
   | true =>
    have HC:=Lib.hid hc
    clear hc
    go_wp2_with (go_at_call 187;((with_reducible refine (isWord_at _ true _ (HD.out.trans HC.out)).mono ?_);rintro e w' ⟨rfl,rfl⟩))
    go_roundw
    case rel =>
     refine⟨pos+1,by omega,?_,hbel1,Lib.hid ?_⟩
     ·have:=HI.out
      rw [decode_one s pos hlt HC.out] at this
      exact this
     ·have:=hR.out
      rw [HE.out] at this
      simp only [wn,HC.out,if_true] at this
      omega
    case measure =>
     have:=HI.out
     rw [decode_one s pos hlt HC.out] at this
     rw [iterPos_of HT.out,iterPos_of this]
     omega
   | false =>
    have HC:=Lib.hid hc
    clear hc
    go_wp2_with (go_at_call 187;((with_reducible refine (isWord_at _ false _ (HD.out.trans HC.out)).mono ?_);rintro e w' ⟨rfl,rfl⟩))
    go_ret
    refine⟨ret_int ?_,hbel1⟩
    have:=hR.out
    rw [HE.out] at this
    simp only [wn,HC.out] at this
    simp only [Bool.false_eq_true,if_false] at this
    omega
  ·have hnx:∀ ty,(Instr.next (.pointer (some ⟨w.heap.size,0,none⟩)) true ty).run Tryz.prog wr=.ok (.tuple #[.bool false]) wr:=fun ty=>Lib.run_next_end_at wr _ s pos ty hit hlt
   go_wp2
   go_ret
   refine⟨ret_int ?_,hbel⟩
   have:=hR.out
   rw [List.drop_eq_nil_of_le (by simp;omega)] at this
   simp only [wn] at this
   omega
theorem word_at (s:ByteArray) (n:Int) (w:World) (h:(wn s.data.toList:Int)=n):Calls Tryz.prog 177 #[.string s] w fun e w'=>e=.returned (.int .i64 n)∧Below w.heap.size w w':=by
 subst h;exact word_any s w
theorem rword_any (s:ByteArray) (w:World) (hs:s.size≤9223372036854775807):Calls Tryz.prog 54 #[.string s] w fun e w'=>e=.returned (.int .i64 (wn s.data.toList))∧w=w':=by
 go_enter Tryz.func54,Tryz.ntmps54
 go_wp2
 go_loop [3] (fun i=>∃ pos:Nat,i=.int .i64 pos∧pos≤s.size∧Hid (pos+wn (s.data.toList.drop pos)=wn s.data.toList)) (fun i=>s.size-(intOf i).toNat)
 case atStart=>exact⟨0,rfl,Nat.zero_le _,Lib.hid (by simp)⟩
 case round =>
  obtain⟨pos,rfl,hp,hR⟩:=hrel
  by_cases hlt:pos<s.size
  ·have HE:=Lib.hid (drop_at s pos hlt)
   cases hc:wch ((s[pos]'hlt).toNat:Int) with
   | true =>
    have HC:=Lib.hid hc
    clear hc
    go_wp2_with (go_at_call 94;((with_reducible refine (in_at _ true _ HC.out).mono ?_);rintro e w' ⟨rfl,rfl⟩))
    go_round
    case rel =>
     refine⟨pos+1,by go_num,by omega,Lib.hid ?_⟩
     have:=hR.out
     rw [HE.out] at this
     simp only [wn,HC.out,if_true] at this
     omega
    case measure=>simp [intOf];omega
   | false =>
    have HC:=Lib.hid hc
    clear hc
    go_wp2_with (go_at_call 94;((with_reducible refine (in_at _ false _ HC.out).mono ?_);rintro e w' ⟨rfl,rfl⟩))
    go_ret
    refine⟨ret_int ?_,rfl⟩
    have:=hR.out
    rw [HE.out] at this
    simp only [wn,HC.out] at this
    simp only [Bool.false_eq_true,if_false] at this
    omega
  ·go_wp2
   go_ret
   refine⟨ret_int ?_,rfl⟩
   have:=hR.out
   rw [List.drop_eq_nil_of_le (by simp;omega)] at this
   simp only [wn] at this
   omega
theorem rword_at (s:ByteArray) (n:Int) (w:World) (hs:s.size≤9223372036854775807) (h:(wn s.data.toList:Int)=n):Calls Tryz.prog 54 #[.string s] w fun e w'=>e=.returned (.int .i64 n)∧w=w':=by
 subst h;exact rword_any s w hs
end Go.Proofs.YtohkgdfkklfgmaaGreatDoor.L2
