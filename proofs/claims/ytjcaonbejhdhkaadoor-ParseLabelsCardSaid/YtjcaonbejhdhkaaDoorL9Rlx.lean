/- A byte of a text, and a sign inside of an operand, place by place. No condition. -/
import Derived.Test.YtjcaonbejhdhkaaDoorL9Rlh
namespace Go.Proofs.YtjcaonbejhdhkaaDoor.L9
open Go.RowKit
attribute [local go_sem] Oper.semAt_some

theorem index_str (J : ByteArray) (j : Nat) {c : UInt8} (h : j < J.size) (hc : J.data.toList.getD j 0 = c) : ∀ w, (Instr.index 9 (.string J) (.int .i64 (j : Int))).run Tryd.prog w = .ok (.int .u8 (c.toNat : Int)) w := fun w => by
  rw [run_index_string w 9 J .i64 (j : Int) Tryd.underlying9, dif_pos (by omega)]
  have hl : j < J.data.toList.length := by rw [L8.size_list]; exact h
  have e : J[(j : Int).toNat]'(by simpa using h) = c := by
    have h2 : J.data.toList[j]'hl = c := by rw [← hc]; simp [List.getD, List.getElem?_eq_getElem hl]
    rw [← h2]; simp; rfl
  rw [e]
theorem off_step2 (m : ByteArray) (j : Nat) : (List.range (j + 1)).any (offAt m) = ((List.range j).any (offAt m) || (decide (m.data.toList.getD j 0 = 43) || (decide (m.data.toList.getD j 0 = 45) && decide (0 < j) && decide (m.data.toList.getD (j - 1) 0 ≠ 44)))) := off_step m j
theorem ne_byte {c : UInt8} {d : UInt8} (h : ¬ c = d) (n : Int) (hn : (d.toNat : Int) = n) : ((c.toNat : Int) == n) = false := by
  rw [← hn]
  have : c.toNat ≠ d.toNat := fun e => h (UInt8.toNat_inj.1 e)
  simpa using (fun e : (c.toNat : Int) = (d.toNat : Int) => this (by omega))
end Go.Proofs.YtjcaonbejhdhkaaDoor.L9
