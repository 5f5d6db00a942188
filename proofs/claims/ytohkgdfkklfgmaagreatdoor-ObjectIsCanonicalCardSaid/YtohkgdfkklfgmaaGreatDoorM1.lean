/- Lemmas and walks of L1Add, L1Uns, L1Parse, L1Read, L1Rparse: what each theorem states; conditions stand in each theorem. -/
import Derived.Test.YtohkgdfkklfgmaaGreatDoorL1Base
import Derived.OneCell
import Derived.Lib.OthersKept
import Derived.Deep.DeepCutAuto
section
namespace Go.Proofs.YtohkgdfkklfgmaaGreatDoor.L1
open Go.RowKit
def dgn (c:UInt8):Nat:=(dg c.toNat).toNat
def rd (base:Nat):List UInt8→Nat→Bool→Option (Nat × Bool)
 | [],v,o=>some (v,o)
 | c::r,v,o=>if dgn c<base then rd base r ((v*base+dgn c) % 18446744073709551616) (o || decide (18446744073709551616≤v*base+dgn c)) else none
theorem dg_high {r:Int} (h:128≤r):dg r=18446744073709551615:=by
 unfold dg
 rw [if_neg (by omega),if_neg (by omega),if_neg (by omega)]
theorem dg_nonneg (r:Int):0≤dg r:=by unfold dg;repeat' split <;> omega
theorem dgn_eq (c:UInt8):dg c.toNat=(dgn c:Int):=by
 unfold dgn;have:=dg_nonneg c.toNat;omega
theorem decode_one (t:ByteArray) (pos base:Nat) (h:pos<t.size) (hb:base≤16) (hd:dgn t[pos]<base):(Utf8.decode t pos).2=1:=by
 by_cases ha:(t[pos]'h).toNat<128
 ·rw [decode_ascii t pos h ha]
 ·have h1:=dgn_eq t[pos]
  rw [dg_high (by omega)] at h1
  omega
theorem drop_at (t:ByteArray) (pos:Nat) (h:pos<t.size):t.data.toList.drop pos=t[pos]::t.data.toList.drop (pos+1):=by
 rw [List.drop_eq_getElem_cons (by simpa using h)];rfl
def us (l:List UInt8):Option (Nat × Bool) :=
 if Lib.hasPrefix l [48,120] then (if (l.drop 2).isEmpty then none else rd 16 (l.drop 2) 0 false) else if l.isEmpty then none else rd 10 l 0 false
end Go.Proofs.YtohkgdfkklfgmaaGreatDoor.L1
end
section
namespace Go.Proofs.YtohkgdfkklfgmaaGreatDoor.L1
open Go.RowKit
theorem Wid.lt {w:World} (h:Wid w):0<w.heap.size:=by
 obtain⟨t,fr,h⟩:=h;exact lt_of_block h
theorem Wid.below {B:Nat} {w w':World} (h:Wid w) (hb:Below B w w') (hB:0<B):Wid w':=by
 obtain⟨t,fr,h⟩:=h;exact⟨t,fr,(hb.block 0 hB).trans h⟩
theorem Wid.alloc {w:World} (h:Wid w) (o:Obj):Wid (w.alloc o):=h.below ((Below.refl _ _).alloc (Nat.le_refl _) o) h.lt
theorem Wid.drewN {w:World} (h:Wid w) (n:Nat):Wid (w.drewN n):=h
def ps (l:List UInt8) (b:Int):Int × Int :=
 match us (Lib.trimPrefix l [45]) with
 | none=>(0,3)
 | some (v,o)=>if isW b && (!o && decide ((v:Int)≤gr (Lib.hasPrefix l [45]) b)) then (sx b (if Lib.hasPrefix l [45] then -(v:Int) else v),0) else (0,4)
end Go.Proofs.YtohkgdfkklfgmaaGreatDoor.L1
end
