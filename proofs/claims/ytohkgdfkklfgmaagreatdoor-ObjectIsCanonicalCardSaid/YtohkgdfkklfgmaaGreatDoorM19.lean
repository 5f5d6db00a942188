/- Lemmas and walks of L5Pre, L5Dec, L5Decr, L5Decm: what each theorem states; conditions stand in each theorem. -/
import Derived.Test.YtohkgdfkklfgmaaGreatDoorM18
import Derived.Deep.RegionHeld3
section
namespace Go.Proofs.YtohkgdfkklfgmaaGreatDoor.L5
open Go.RowKit L3 L1 L4
def Bytes (w:World) (k o:Nat) (l:List UInt8):Prop:=∀ j,(h:j<l.length)→w.cell? ⟨k,o+j,none⟩=some (.int .u8 (l[j].toNat:Int))
theorem Bytes.take {w:World} {k o:Nat} {l:List UInt8} (h:Bytes w k o l) (m:Nat):Bytes w k o (l.take m):=fun j hj=>by
 rw [List.length_take] at hj
 rw [List.getElem_take]
 exact h j (by omega)
end Go.Proofs.YtohkgdfkklfgmaaGreatDoor.L5
end
section
namespace Go.Proofs.YtohkgdfkklfgmaaGreatDoor.L5
open Go.RowKit L3 L1 L4
structure DecS (w W:World) (g:Nat) (X:Array Value):Prop where
 hb:Below w.heap.size w W
 hg:W.heap[g]?=some (.cells X 92)
 le:w.heap.size≤g
theorem DecS.below {w W W':World} {g:Nat} {X:Array Value} (h:DecS w W g X) (hb:Below W.heap.size W W'):DecS w W' g X :=
 ⟨bch h.hb hb,(hb.block _ (lt_of_block h.hg)).trans h.hg,h.le⟩
theorem DecS.set {w W:World} {g:Nat} {X:Array Value} (h:DecS w W g X) (cs:Array Value):DecS w (W.setRow g cs) g cs :=
 ⟨below_setRow h.hb h.le cs,setRow_heap W g _ cs _ _ h.hg,h.le⟩
theorem DecS.start (w:World) (X:Array Value):DecS w (w.alloc (.cells X 92)) w.heap.size X:=⟨bnew w _,heap_alloc_last w _,Nat.le_refl _⟩
def DecK (w:World) (g g5:Nat) (X X5:Array Value) (W:World):Prop:=DecS w W g X∧W.heap[g5]?=some (.cells X5 92)
theorem DecK.below {w W W':World} {g g5:Nat} {X X5:Array Value} (h:DecK w g g5 X X5 W) (hb:Below W.heap.size W W'):DecK w g g5 X X5 W' :=
 ⟨h.1.below hb,(hb.block _ (lt_of_block h.2)).trans h.2⟩
end Go.Proofs.YtohkgdfkklfgmaaGreatDoor.L5
end
section
namespace Go.Proofs.YtohkgdfkklfgmaaGreatDoor.L5
open Go.RowKit L3 L1 L4
theorem cell_up {w W:World} {p:Addr} {v:Value} (hb:Below w.heap.size w W) (h:w.cell? p=some v):W.cell? p=some v:=(hb.cell (World.block_lt_of_cell? w _ h)).trans h
theorem Bytes.up {w W:World} {k o:Nat} {l:List UInt8} (h:Bytes w k o l) (hb:Below w.heap.size w W):Bytes W k o l:=fun j hj=>cell_up hb (h j hj)
theorem Bytes.row {w:World} {k:Nat} {l:List UInt8} (h:w.heap[k]?=some (.cells (byC l) 5)):Bytes w k 0 l:=fun j hj=>by
 rw [Nat.zero_add]
 exact cell_of h (by simp [byC,hj])
end Go.Proofs.YtohkgdfkklfgmaaGreatDoor.L5
end
section
namespace Go.Proofs.YtohkgdfkklfgmaaGreatDoor.L5
open Go.RowKit L3 L1 L4
structure Ix where
 op:Int
 reg:Bool
 dst:Int
 src:Int
 off:Int
 imm:Int
def Ix.z:Ix:=⟨0,false,0,0,0,0⟩
abbrev Ix.cs (x:Ix):Array Value:=#[.int .i64 x.op,.bool x.reg,.int .i64 x.dst,.int .i64 x.src,.int .i64 x.off,.int .i64 x.imm]
def Ix.chk (f:Int) (x:Ix):Int:=chkF f x.reg x.dst x.src x.off x.imm
def Ix.enc (j:Nat) (f:Int) (x:Ix):List UInt8:=encL j f x.reg x.dst x.src x.off x.imm
def BsAt (w:World) (v:Value) (l:List UInt8):Prop :=
 ∃ a cap,v=.slice a l.length cap∧l.length≤cap∧cap≤maxLen∧(l=[]∨∃ k o,a=some ⟨k,o,none⟩∧Bytes w k o l)
theorem BsAt.below {w w':World} {v:Value} {l:List UInt8} (h:BsAt w v l) (hb:Below w.heap.size w w'):BsAt w' v l:=by
 obtain⟨a,cap,rfl,h1,h2,h3⟩:=h
 refine⟨a,cap,rfl,h1,h2,?_⟩
 rcases h3 with h3|⟨k,o,rfl,h3⟩
 ·exact .inl h3
 ·exact .inr ⟨k,o,rfl,h3.up hb⟩
theorem vb (a b:Int) (h0:0≤a) (h1:a<4294967296) (h2:-2147483648≤b) (h3:b≤2147483647):-9223372036854775808≤a+b*4294967296∧a+b*4294967296≤9223372036854775807:=by omega
theorem slo_of {f:Int} (h:IsF f):slo f=0∨slo f=1∨slo f=2:=by
 rcases h with rfl|rfl|rfl|rfl|rfl|rfl|rfl|rfl|rfl|rfl|rfl|rfl|rfl <;> decide
end Go.Proofs.YtohkgdfkklfgmaaGreatDoor.L5
end
