/- What the reference's Right, Build and Parse return, and the law's 'few'. Conditions: memory holds the texts (no more than 100000, of no more than 1000000 bytes in all, where they are put into a table) and the bytes (no more than 1000000). -/
import Derived.Test.YtdamijicombmkaaL14Gt
import Derived.Deep.WholeRow
import Derived.Maps.AppendAt
import Derived.Deep.AppendLies
import Derived.Lib.AppendStr
import Derived.Laws.OwnMore
namespace Go.Proofs.Ytdamijicombmkaa.L14
open Go.RowKit
attribute [local go_sem] Oper.semAt_some

/-- How many bytes the texts have in all. -/
def tot (l : List (List UInt8)) : Nat := (l.map List.length).sum
theorem tot_le : ∀ (l : List (List UInt8)) (k : Nat), tot (l.take k) ≤ tot l
  | [], k => by simp [tot]
  | x :: r, 0 => by simp [tot]
  | x :: r, k + 1 => by
    have := tot_le r k
    simp only [tot, List.take_succ_cons, List.map_cons, List.sum_cons] at this ⊢
    omega
theorem tot_step (l : List (List UInt8)) (k : Nat) (h : k < l.length) : tot (l.take (k + 1)) = tot (l.take k) + l[k].length := by
  unfold tot
  rw [List.take_add_one, List.getElem?_eq_getElem h, List.map_append, List.sum_append]
  simp [-List.map_take]
theorem bd_len : ∀ l : List (List UInt8), (bd l).length = tot l + l.length
  | [] => rfl
  | x :: r => by
    rw [bd_cons]
    have := bd_len r
    simp only [tot, List.map_cons, List.sum_cons, List.length_append, List.length_cons] at this ⊢
    omega
theorem tb_len (l : List (List UInt8)) : (tb l).length = 1 + tot l + l.length := by
  unfold tb
  rw [List.length_cons, bd_len]; omega

end Go.Proofs.Ytdamijicombmkaa.L14
