/- What the program's Find returns: the number of the last row with a name, over the map that the program makes of the rows. No condition. -/
import Derived.Test.YtflegdijmkacdaaGet
import Derived.Maps.OwnSet
namespace Go.Proofs.Ytflegdijmkacdaa
open Go.RowKit Go.Maps

def txt (s : ByteArray) : Lit := .string s.data.toList
theorem txt_inj {a b : ByteArray} (h : txt a = txt b) : a = b := by
  cases a; cases b
  simp only [txt, Lit.string.injEq] at h
  rw [Array.toList_inj.1 h]

/-- The last of the first k rows with the name s. -/
def fnd (s : ByteArray) : Nat → Int × Bool
  | 0 => (0, false)
  | k + 1 => if nm k = s then ((k : Int), true) else fnd s k

/-- The map of the first k rows. -/
def Nm {H : Type} : Nat → DataW H
  | 0 => .map []
  | k + 1 => (Nm k).put (txt (nm k)) (.lit (.int .i64 (k : Int)))

theorem Nm_map {H : Type} : ∀ k, IsMap (Nm (H := H) k)
  | 0 => isMap_empty
  | k + 1 => (Nm_map k).put _ _
theorem Nm_at {H : Type} (s : ByteArray) : ∀ k, (Nm (H := H) k).atKey (txt s) (.lit (.int .i64 0)) = .lit (.int .i64 (fnd s k).1)
  | 0 => rfl
  | k + 1 => by
    by_cases h : nm k = s
    · rw [fnd, if_pos h, Nm, ← h, atKey_put_same (Nm_map k) (show WideAt.IsKeyLit (txt (nm k)) from trivial)]
    · rw [fnd, if_neg h, Nm, atKey_put_other (fun e => h (txt_inj e).symm), Nm_at s k]
theorem Nm_has {H : Type} (s : ByteArray) : ∀ k, Maps.has (Nm (H := H) k) (txt s) = (fnd s k).2
  | 0 => rfl
  | k + 1 => by
    by_cases h : nm k = s
    · rw [fnd, if_pos h, Nm, ← h, has_put_same (Nm_map k) (show WideAt.IsKeyLit (txt (nm k)) from trivial)]
    · rw [fnd, if_neg h, Nm, has_put_other (fun e => h (txt_inj e).symm), Nm_has s k]

theorem owns_below {H : Type} {P : Program} {k : TypeId} {R : Value → Option (DataW H × List MemPlace)} {w w' : World} {b n : Nat} {D : DataW H} (h : w.ownsMap P k R b n D) (hb : Below w.heap.size w w') : w'.ownsMap P k R b n D := by
  have hlt := h.lt
  obtain ⟨es, clock, hh, F, hs, hD⟩ := h
  exact ⟨es, clock, (hb.block b hlt).trans hh, F, hs, hD⟩

theorem law9 : Keyed Try.prog 9 := string_keyed Try.underlying9

theorem nm_size (k : Nat) : (nm k).size ≤ maxLen := by
  have h : ∀ k, (nmL.getD k []).length ≤ 8 := by
    intro k
    by_cases hk : k < 86
    · have h2 : ∀ k, k < 86 → (nmL.getD k []).length ≤ 8 := by decide +kernel
      exact h2 k hk
    · rw [List.getD, List.getElem?_eq_none (by have : nmL.length = 86 := by kernel_rfl
                                               omega)]
      exact Nat.zero_le _
  have := h k
  show (nmL.getD k []).toArray.size ≤ maxLen
  rw [List.size_toArray]
  unfold maxLen
  omega

set_option maxHeartbeats 1000000 in
set_option maxRecDepth 100000 in
theorem numbers_any (w : World) : Calls Try.prog 28 #[] w fun e w' => ∃ b, e = .returned (.map (some b)) ∧ w'.ownsMap Try.prog 9 (plainElem Try.prog 3) b 86 (Nm (H := Unit) 86) ∧ Below w.heap.size w w' := by
  have hmm : ∀ w, (Instr.makeMap 46 (some (.int .i64 86))).run Try.prog w = .ok (.map (some w.heap.size)) (w.alloc (.map #[] 0)) := fun w => by kernel_rfl
  go_enter Try.func28, Try.ntmps28
  go_wp2
  go_loopw [4] (fun i wr => ∃ k : Nat, k ≤ 86 ∧ i = .int .i64 k ∧ wr.ownsMap Try.prog 9 (plainElem Try.prog 3) w.heap.size k (Nm (H := Unit) k) ∧ Below w.heap.size w wr) (fun i _ => 86 - (intOf i).toNat)
  case atStart => exact ⟨0, Nat.zero_le _, rfl, World.ownsMap_made _ _ _ _, bnew _ _⟩
  case round =>
    obtain ⟨k, hk, rfl, hown, hnx⟩ := hrel
    by_cases hlt : k < 86
    · obtain ⟨s, hs⟩ : ∃ s, nm (ix (k : Int)) = s := ⟨_, rfl⟩
      have hsk : s = nm k := by rw [← hs, ix_nat hlt]
      have hkey : keyOf Try.prog 9 (.string s) = some (txt s) := WideMaps.keyOf_string_mk Try.underlying9 (by rw [hsk]; exact nm_size k)
      have hwf : (Lit.int .i64 (k : Int)).wf = true := by
        simp [Lit.wf, IntKind.min, IntKind.max, IntKind.bits, IntKind.signed]
        omega
      have HN : Hid (∀ w : World, Calls Try.prog 10 #[.int .i64 (k : Int)] w fun e w' => e = .returned (.string s) ∧ Below w.heap.size w w') := Lib.hid (by intro w; rw [← hs]; exact name_any _ w)
      have HK := Lib.hid hsk
      have HL := Lib.hid hlt
      clear hs hsk
      go_wp2_with (first
        | (go_at_call 10; ((with_reducible refine (HN.out _).mono ?_); rintro e w1 ⟨rfl, hb1⟩))
        | (at_mapUpdate; have hown1 := owns_below hown hb1; refine wpList_mapUpdate_own _ rfl _ _ _ 46 rfl 9 3 law9 Try.underlying46 (plainElem (H := Unit) Try.prog 3) w.heap.size k _ rfl hown1 (by unfold maxLen; omega) _ _ _ rfl rfl hkey _ [] (plainElem_int Try.underlying3 hwf) ?_; intro w2 hown2 hgrow2)
        | go_in)
      go_roundw
      case rel => exact ⟨k + 1, HL.out, by go_num, (by rw [Nm, ← HK.out]; exact hown2), (bch hnx hb1).grown hgrow2 (bch hnx hb1).size (fun j hj => by cases hj; exact Nat.le_refl _)⟩
      case measure => simp [intOf]; omega
    · obtain rfl : k = 86 := by omega
      go_wp2
      go_ret
      exact ⟨_, rfl, hown, hnx⟩
set_option maxHeartbeats 1000000 in
set_option maxRecDepth 100000 in
theorem find_at (s : ByteArray) (hs : s.size ≤ maxLen) (n : Int) (b : Bool) (w : World) (hn : (fnd s 86).1 = n) (hb : (fnd s 86).2 = b) : Calls Try.prog 16 #[.string s] w fun e w' => e = .returned (.tuple #[.int .i64 n, .bool b]) ∧ Below w.heap.size w w' := by
  have hkey : keyOf Try.prog 9 (.string s) = some (txt s) := WideMaps.keyOf_string_mk Try.underlying9 hs
  have HN := Lib.hid hn
  have HB := Lib.hid hb
  clear hn hb hs
  go_enter Try.func16, Try.ntmps16
  go_wp2_with (first
    | (go_at_call 28; ((with_reducible refine (numbers_any _).mono ?_); rintro e w1 ⟨m, rfl, hown, hb1⟩))
    | (at_lookup; refine wpList_lookup_own_ok_int _ rfl _ _ 46 rfl 9 3 .i64 law9 Try.underlying46 Try.underlying3 (by kernel_rfl) m 86 _ rfl hown _ _ rfl hkey ?_; intro c hat _; have hc : c = n := by (rw [Nm_at, HN.out] at hat; cases hat; rfl))
    | go_in)
  go_ret2
  exact ⟨by rw [Nm_has, HB.out] <;> rfl, hb1⟩
end Go.Proofs.Ytflegdijmkacdaa
