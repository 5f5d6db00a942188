/- Objects in memory and plain; what the program's Same and the reference's return: whether two objects are equal. Condition: memory holds them, and their lists are no longer than 100000. -/
import Derived.Test.YtihiggnglmhggaaGreatDoorM18
import Derived.Test.YtihiggnglmhggaaGreatDoorM1
namespace Go.Proofs.YtihiggnglmhggaaGreatDoor.L13
open Go.RowKit Go.Shelf L12
open L10 (take_eq take_all get_ne)
attribute [local go_sem] Oper.semAt_some
structure Ob where
 maps:List L9.Df
 code:List UInt8
 rels:List (Int × Int)
abbrev roL (r:Int × Int):List Value:=[.int .i64 r.1,.int .i64 r.2]
def RoAt (w:World) (v:Value) (l:List (Int × Int)):Prop :=
 (∃ b o cap,v=.slice (some ⟨b,o,none⟩) l.length cap∧b<w.heap.size∧∀ j,(h:j<l.length)→w.cell? ⟨b,o+j*2,none⟩=some (.int .i64 l[j].1)∧w.cell? ⟨b,o+j*2+1,none⟩=some (.int .i64 l[j].2))∨(l=[]∧∃ a cap,v=.slice a 0 cap)
theorem RoAt.below {w w':World} {v:Value} {l:List (Int × Int)} (h:RoAt w v l) (hb:Below w.heap.size w w'):RoAt w' v l:=by
 rcases h with ⟨b,o,cap,rfl,hlt,hc⟩|h
 ·exact .inl ⟨b,o,cap,rfl,Nat.lt_of_lt_of_le hlt hb.size,fun j hj=>⟨cell_up hb (hc j hj).1,cell_up hb (hc j hj).2⟩⟩
 ·exact .inr h
theorem ro_form {w:World} {v:Value} {l:List (Int × Int)} {n:Nat} (hn:l.length=n) (h:RoAt w v l):∃ a c,v=.slice a n c∧(0<n→∃ b o,a=some ⟨b,o,none⟩∧b<w.heap.size∧∀ j,(h:j<l.length)→w.cell? ⟨b,o+j*2,none⟩=some (.int .i64 l[j].1)∧w.cell? ⟨b,o+j*2+1,none⟩=some (.int .i64 l[j].2)):=by
 subst hn
 rcases h with ⟨b,o,cap,rfl,hb,hc⟩|⟨rfl,a,cap,rfl⟩
 ·exact⟨_,_,rfl,fun _=>⟨b,o,rfl,hb,hc⟩⟩
 ·exact⟨a,cap,rfl,fun h=>absurd h (by simp)⟩
end Go.Proofs.YtihiggnglmhggaaGreatDoor.L13
