/- What bytes.Equal and bytes.HasPrefix return for slices whose bytes are known. No condition. -/
import Derived.Test.YthebdblncafijaaDoorEnca
namespace Go.Proofs.YthebdblncafijaaDoor
open Go.RowKit L3 L1 L4

/-- Memory holds bytes at a place. -/
def Bytes (w : World) (k o : Nat) (l : List UInt8) : Prop := ∀ j, (h : j < l.length) → w.cell? ⟨k, o + j, none⟩ = some (.int .u8 (l[j].toNat : Int))

set_option maxHeartbeats 1000000 in
theorem equal_at (k o n cap k2 o2 m cap2 : Nat) (l l2 : List UInt8) (r : Bool) (w : World) (hn : l.length = n) (hm : l2.length = m) (h : Bytes w k o l) (h2 : Bytes w k2 o2 l2) (hr : (l == l2) = r) :
    Calls Tryd.prog 60 #[.slice (some ⟨k, o, none⟩) n cap, .slice (some ⟨k2, o2, none⟩) m cap2] w fun e w' => e = .returned (.bool r) ∧ w = w' := by
  subst hn; subst hm
  have c1 := run_convert_bytes_back w 24 9 5 ⟨k, o, none⟩ cap l Tryd.underlying24 Tryd.underlying5 Tryd.underlying9 (fun j hj => by rw [show (⟨k, o, none⟩ : Addr).add j = ⟨k, o + j, none⟩ by unfold Addr.add; split <;> simp_all]; exact h j hj)
  have c2 := run_convert_bytes_back w 24 9 5 ⟨k2, o2, none⟩ cap2 l2 Tryd.underlying24 Tryd.underlying5 Tryd.underlying9 (fun j hj => by rw [show (⟨k2, o2, none⟩ : Addr).add j = ⟨k2, o2 + j, none⟩ by unfold Addr.add; split <;> simp_all]; exact h2 j hj)
  have HR := Lib.hid hr
  clear h h2 hr
  go_enter Tryd.func60, Tryd.ntmps60
  go_wp2
  go_ret
  exact ⟨ret_bool HR.out, rfl⟩

theorem sl_to (k o n cap m : Nat) (h : m ≤ cap) (w : World) : (Instr.slice 24 (.slice (some ⟨k, o, none⟩) n cap) none (some (.int .i64 (m : Int))) none).run Tryd.prog w = .ok (.slice (some ⟨k, o, none⟩) m cap) w := by
  simp [go_sem, Tryd.underlying24, h]
theorem Bytes.take {w : World} {k o : Nat} {l : List UInt8} (h : Bytes w k o l) (m : Nat) : Bytes w k o (l.take m) := fun j hj => by
  rw [List.length_take] at hj
  rw [List.getElem_take]
  exact h j (by omega)

set_option maxHeartbeats 1000000 in
theorem pre_yes (k o n cap k2 m cap2 : Nat) (l l2 : List UInt8) (r : Bool) (w : World) (hn : l.length = n) (hm : l2.length = m) (h : Bytes w k o l) (h2 : Bytes w k2 0 l2) (hc : m ≤ cap) (hmn : m ≤ n) (hr : (l.take m == l2) = r) :
    Calls Tryd.prog 43 #[.slice (some ⟨k, o, none⟩) n cap, .slice (some ⟨k2, 0, none⟩) m cap2] w fun e w' => e = .returned (.bool r) ∧ w = w' := by
  have s1 := sl_to k o n cap m hc
  have HE := Lib.hid (equal_at k o m cap k2 0 m cap2 (l.take m) l2 r w (by rw [List.length_take]; omega) hm (h.take m) h2 hr)
  have h3 : m ≤ n := hmn
  have h3' : (m : Int) ≤ (n : Int) := by omega
  clear h h2 hr hn hm hc hmn
  go_enter Tryd.func43, Tryd.ntmps43
  go_wp2_with (go_at_call 60; ((with_reducible refine (HE.out).mono ?_); rintro e w1 ⟨rfl, rfl⟩))
  go_ret
  exact ⟨rfl, rfl⟩

theorem pre_no (a a2 : Option Addr) (n cap m cap2 : Nat) (w : World) (hmn : n < m) :
    Calls Tryd.prog 43 #[.slice a n cap, .slice a2 m cap2] w fun e w' => e = .returned (.bool false) ∧ w = w' := by
  have h3' : (n : Int) < (m : Int) := by omega
  go_enter Tryd.func43, Tryd.ntmps43
  go_wp2
  go_ret
  exact ⟨rfl, rfl⟩
end Go.Proofs.YthebdblncafijaaDoor
