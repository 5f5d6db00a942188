/- Whether two slices of texts are equal, by the library's contract; the law 'Lines returns the lines of the reference' returns true, if the program's Lines returns them and the examples hold. -/
import Derived.Test.YtdpdeelnabomlaaL8Lsh
import Derived.Test.YtdpdeelnabomlaaL8Rlin
import Derived.Test.YtdpdeelnabomlaaShelf
namespace Go.Proofs.Ytdpdeelnabomlaa.L8
open Go.RowKit L2
attribute [local go_sem] Oper.semAt_some

theorem eqs_at (v1 v2 : Value) (l1 l2 : List ByteArray) (hm1 : l1.length ≤ 100000) (hm2 : l2.length ≤ 100000) (b : Bool) (hb : decide (l1 = l2) = b) (w : World) (h1 : StAt w v1 l1) (h2 : StAt w v2 l2) :
    Calls Try.prog 14 #[v1, v2] w fun e w' => e = .returned (.bool b) ∧ Below w.heap.size w w' := by
  subst hb
  rcases h1 with ⟨b1, o1, c1, rfl, _, hc1⟩ | ⟨rfl, a1, c1, rfl⟩
  · by_cases hl : l1.length = l2.length
    · rcases h2 with ⟨b2, o2, c2, rfl, _, hc2⟩ | ⟨rfl, a2, c2, rfl⟩
      · refine (Try.slices_Equal_string b1 o1 l1.length c1 b2 o2 l2.length c2 l1 l2 w (Nat.le_refl _) (Nat.le_refl _) (by omega) (by omega) hc1 hc2).mono fun e w' h => ?_
        obtain ⟨he, q, rfl⟩ := h
        rw [List.take_length, List.take_length] at he
        exact ⟨he, bdN (Below.refl _ _) q⟩
      · have h0 : l1 = [] := List.eq_nil_of_length_eq_zero hl
        subst h0
        refine (Try.slices_Equal_string_empty (some ⟨b1, o1, none⟩) a2 c1 0 c2 w (by omega)).mono fun e w' h => ?_
        obtain ⟨rfl, rfl⟩ := h
        exact ⟨rfl, Below.refl _ _⟩
    · have hd : decide (l1 = l2) = false := decide_eq_false (fun e => hl (by rw [e]))
      obtain ⟨a2, c2, rfl⟩ : ∃ a2 c2, v2 = .slice a2 l2.length c2 := by
        rcases h2 with ⟨b2, o2, c2, rfl, _⟩ | ⟨rfl, a2, c2, rfl⟩
        · exact ⟨_, _, rfl⟩
        · exact ⟨_, _, rfl⟩
      refine (Try.slices_Equal_string_lens _ _ _ _ _ _ w hl).mono fun e w' h => ?_
      obtain ⟨rfl, rfl⟩ := h
      rw [hd]
      exact ⟨rfl, Below.refl _ _⟩
  · obtain ⟨a2, c2, rfl⟩ : ∃ a2 c2, v2 = .slice a2 l2.length c2 := by
      rcases h2 with ⟨b2, o2, c2, rfl, _⟩ | ⟨rfl, a2, c2, rfl⟩
      · exact ⟨_, _, rfl⟩
      · exact ⟨_, _, rfl⟩
    refine (Try.slices_Equal_string_empty a1 a2 c1 l2.length c2 w (by omega)).mono fun e w' h => ?_
    obtain ⟨rfl, rfl⟩ := h
    have hd : decide (l2.length = 0) = decide (([] : List ByteArray) = l2) := by
      cases l2 <;> simp
    rw [hd]
    exact ⟨rfl, Below.refl _ _⟩
/-- What is asked of the program's Lines. -/
abbrev Lines8 : Prop := ∀ (s : ByteArray) (w : World), s.size ≤ 100000 → Calls Try.prog 17 #[.string s] w fun e w' => PS w (lns s) e w'
theorem lns_len (s : ByteArray) : (lns s).length ≤ s.size + 1 := by
  have := ln_len s.data.toList 0 0
  rw [size_list] at this
  simpa [lns, exX] using this

set_option maxHeartbeats 4000000 in
set_option maxRecDepth 100000 in
theorem llines_long (HA : Alive8) (s : ByteArray) (h : 20000 < s.size) (w : World) : Calls Try.prog 5 #[.string s] w fun e w' => e = .returned (.bool true) ∧ Below w.heap.size w w' := by
  have HH := Lib.hid HA
  clear HA
  have h' : (20000 : Int) < (s.size : Int) := by omega
  go_enter Try.func5, Try.ntmps5
  go_wp2_with (go_at_call 9; ((with_reducible refine (HH.out _).mono ?_); rintro e w1 ⟨rfl, b1⟩))
  go_ret
  exact ⟨rfl, b1⟩
set_option maxHeartbeats 4000000 in
set_option maxRecDepth 100000 in
theorem llines_walk (HL : Lines8) (HA : Alive8) (s : ByteArray) (_ : s.size ≤ maxLen) (w : World) : Calls Try.prog 5 #[.string s] w fun e w' => e = .returned (.bool true) ∧ Below w.heap.size w w' := by
  by_cases h : 20000 < s.size
  · exact llines_long HA s h w
  have HH := Lib.hid HA
  have H1 := Lib.hid (fun w => HL s w (by omega))
  have H2 := Lib.hid (fun w => (rlines_any s (by omega) w).mono fun e w' h => PS_of h)
  have hn := lns_len s
  obtain ⟨l, hl⟩ : ∃ l, lns s = l := ⟨_, rfl⟩
  rw [hl] at H1 H2 hn
  have HE := Lib.hid (fun (v1 v2 : Value) (w : World) (h1 : StAt w v1 l) (h2 : StAt w v2 l) => eqs_at v1 v2 l l (by omega) (by omega) true (by simp) w h1 h2)
  clear HA HL hl hn
  have h' : ¬ (20000 : Int) < (s.size : Int) := by omega
  go_enter Try.func5, Try.ntmps5
  go_wp2_with (first
    | (go_at_call 9; ((with_reducible refine (HH.out _).mono ?_); rintro e w1 ⟨rfl, b1⟩))
    | (go_at_call 17; ((with_reducible refine (H1.out _).mono ?_); rintro e w2 ⟨⟨v1, rfl, hv1⟩, b2⟩; have B2 := bch b1 b2))
    | (go_at_call 18; ((with_reducible refine (H2.out _).mono ?_); rintro e w3 ⟨⟨v2, rfl, hv2⟩, b3⟩; have B3 := bch B2 b3; have hv1' := hv1.below b3))
    | (go_at_call 14; ((with_reducible refine (HE.out _ _ _ hv1' hv2).mono ?_); rintro e w4 ⟨rfl, b4⟩)))
  go_ret
  exact ⟨rfl, bch B3 b4⟩
end Go.Proofs.Ytdpdeelnabomlaa.L8
