/- Lemmas and walks of L13Sb, L13Stp: what each theorem states; conditions stand in each theorem. -/
import Derived.Test.YtihiggnglmhggaaGreatDoorL13Sa
import Derived.Test.YtihiggnglmhggaaGreatDoorM2
section
namespace Go.Proofs.YtihiggnglmhggaaGreatDoor.L13
open Go.RowKit Go.Shelf L12
open L10 (take_eq take_all get_ne)
attribute [local go_sem] Oper.semAt_some
theorem cells3 {w:World} {k:Nat} {a b c:Value} {t:TypeId} (h:w.heap[k]?=some (.cells #[a,b,c] t)):w.cell? ⟨k,0,none⟩=some a∧w.cell? ⟨k,1,none⟩=some b∧w.cell? ⟨k,2,none⟩=some c:=by
 simp [World.cell?,h]
theorem two_ob (w:World) (o q:Obj):((w.alloc o).alloc q).heap[w.heap.size]?=some o∧((w.alloc o).alloc q).heap[w.heap.size+1]?=some q∧Below w.heap.size w ((w.alloc o).alloc q):=by
 refine⟨?_,?_,L2.bch (L8.bnew w _) (L8.bnew _ _)⟩
 ·show ((w.heap.push o).push q)[w.heap.size]?=_
  simp [Array.getElem?_push]
 ·show ((w.heap.push o).push q)[w.heap.size+1]?=_
  simp [Array.getElem_push]
end Go.Proofs.YtihiggnglmhggaaGreatDoor.L13
end
section
namespace Go.Proofs.YtihiggnglmhggaaGreatDoor.L13
open Go.RowKit Go.Shelf L3 L4 L12
open L10 (Stm Pg jmI fmI)
attribute [local go_sem] Oper.semAt_some
abbrev fB (ks kl:Nat):Value:=.func (.func 128) #[] #[.pointer (some ⟨ks,0,none⟩),.pointer (some ⟨kl,0,none⟩)]
end Go.Proofs.YtihiggnglmhggaaGreatDoor.L13
end
