/- A slice of instructions in memory; what the program's behind and isIndex, and the reference's Slots, Start, At and In return. Condition: memory holds the instructions, which are no more than 1000000. -/
import Derived.Test.YthoghcejmnnniaaL12Sl
namespace Go.Proofs.Ythoghcejmnnniaa.L12
open Go.RowKit L3 L4
attribute [local go_sem] Oper.semAt_some

/-- A slice of instructions. -/
def IsAt (w : World) (v : Value) (l : List L9.Ins) : Prop :=
  (∃ b o cap, v = .slice (some ⟨b, o, none⟩) l.length cap ∧ b < w.heap.size ∧ ∀ j, (h : j < l.length) → ∀ i u, (L10.inL l[j])[i]? = some u → w.cell? ⟨b, o + j * 6 + i, none⟩ = some u) ∨ (l = [] ∧ ∃ a cap, v = .slice a 0 cap)
theorem IsAt.below {w w' : World} {v : Value} {l : List L9.Ins} (h : IsAt w v l) (hb : Below w.heap.size w w') : IsAt w' v l := by
  rcases h with ⟨b, o, cap, rfl, hlt, hc⟩ | h
  · exact .inl ⟨b, o, cap, rfl, Nat.lt_of_lt_of_le hlt hb.size, fun j hj i u hu => (hb.cell (by exact hlt)).trans (hc j hj i u hu)⟩
  · exact .inr h
/-- The six cells of an instruction. -/
def Six (w : World) (b o : Nat) (x : L9.Ins) : Prop :=
  w.cell? ⟨b, o, none⟩ = some (.int .i64 x.op) ∧ w.cell? ⟨b, o + 1, none⟩ = some (.bool x.reg) ∧ w.cell? ⟨b, o + 2, none⟩ = some (.int .i64 x.dst) ∧ w.cell? ⟨b, o + 3, none⟩ = some (.int .i64 x.src) ∧ w.cell? ⟨b, o + 4, none⟩ = some (.int .i64 x.off) ∧ w.cell? ⟨b, o + 5, none⟩ = some (.int .i64 x.imm)
theorem Six.below {n : Nat} {w w' : World} {b o : Nat} {x : L9.Ins} (h : Six w b o x) (hb : b < n) (hB : Below n w w') : Six w' b o x := by
  obtain ⟨h0, h1, h2, h3, h4, h5⟩ := h
  exact ⟨(hB.cell (by exact hb)).trans h0, (hB.cell (by exact hb)).trans h1, (hB.cell (by exact hb)).trans h2, (hB.cell (by exact hb)).trans h3, (hB.cell (by exact hb)).trans h4, (hB.cell (by exact hb)).trans h5⟩
theorem is_form {w : World} {v : Value} {l : List L9.Ins} {n : Nat} (hn : l.length = n) (h : IsAt w v l) : ∃ a c, v = .slice a n c ∧ (0 < n → ∃ b o, a = some ⟨b, o, none⟩ ∧ b < w.heap.size ∧ ∀ j, (h : j < l.length) → Six w b (o + j * 6) l[j]) := by
  subst hn
  rcases h with ⟨b, o, cap, rfl, hb, hc⟩ | ⟨rfl, a, cap, rfl⟩
  · exact ⟨_, _, rfl, fun _ => ⟨b, o, rfl, hb, fun j hj => ⟨hc j hj 0 _ rfl, hc j hj 1 _ rfl, hc j hj 2 _ rfl, hc j hj 3 _ rfl, hc j hj 4 _ rfl, hc j hj 5 _ rfl⟩⟩⟩
  · exact ⟨a, cap, rfl, fun h => absurd h (by simp)⟩

set_option maxHeartbeats 1000000 in
theorem behind_at (s : Nat) (x : L9.Ins) (n : Int) (w : World) (hs : s ≤ 1000000000000) (hn : (s : Int) + (slN x : Int) = n) :
    Calls Try.prog 27 #[.int .i64 (s : Int), .agg #[.int .i64 x.op, .bool x.reg, .int .i64 x.dst, .int .i64 x.src, .int .i64 x.off, .int .i64 x.imm]] w fun e w' => e = .returned (.int .i64 n) ∧ Below w.heap.size w w' := by
  obtain ⟨m, hm⟩ : ∃ m, slN x = m := ⟨_, rfl⟩
  have hle := slN_le x
  rw [hm] at hle hn
  have HS := Lib.hid (fun W => slots_at x.op _ (m : Int) W rfl (by rw [slN_int, hm]))
  subst hn
  clear hm
  go_enter Try.func27, Try.ntmps27
  go_wp2_with (go_at_call 33; ((with_reducible refine (HS.out _).mono ?_); rintro e w1 ⟨rfl, b1⟩))
  go_ret
  exact ⟨rfl, L2.bch (L8.bnew _ _) b1⟩
theorem isIndex_at (a : Option Addr) (n cap : Nat) (i : Int) (b : Bool) (w : World) (hb : inB n i = b) :
    Calls Try.prog 28 #[.slice a n cap, .int .i64 i] w fun e w' => e = .returned (.bool b) ∧ w = w' := by
  subst hb
  unfold inB
  cases h1 : decide (0 ≤ i) <;> cases h2 : decide (i < (n : Int))
  all_goals
    go_enter Try.func28, Try.ntmps28
    go_wp2
    go_ret
    exact ⟨rfl, rfl⟩

/-! ### the reference -/
theorem rin_at (a : Option Addr) (n cap : Nat) (i : Int) (b : Bool) (w : World) (hb : inB n i = b) :
    Calls Try.prog 15 #[.slice a n cap, .int .i64 i] w fun e w' => e = .returned (.bool b) ∧ w = w' := by
  subst hb
  unfold inB
  cases h1 : decide (0 ≤ i) <;> cases h2 : decide (i < (n : Int))
  all_goals
    go_enter Try.func15, Try.ntmps15
    go_wp2
    go_ret
    exact ⟨rfl, rfl⟩

set_option maxHeartbeats 2000000 in
theorem rstart_at (v : Value) (l : List L9.Ins) (i : Nat) (N : Nat) (w : World) (hv : IsAt w v l) (hl : l.length ≤ 1000000) (hi : i ≤ l.length) (hN : stN l i = N) :
    Calls Try.prog 11 #[v, .int .i64 (i : Int)] w fun e w' => e = .returned (.int .i64 (N : Int)) ∧ w = w' := by
  obtain ⟨n, hn⟩ : ∃ n, l.length = n := ⟨_, rfl⟩
  obtain ⟨a, c, rfl, hc⟩ := is_form hn hv
  rw [hn] at hl hi
  have HC := Lib.hid hc
  have HN := Lib.hid hn
  have HR := Lib.hid hN
  have HI := Lib.hid hi
  clear hv hc hn hN hi
  go_enter Try.func11, Try.ntmps11
  go_wp2
  go_loop [5, 6] (fun s j => ∃ k : Nat, k ≤ i ∧ j = .int .i64 (k : Int) ∧ s = .int .i64 (stN l k : Int)) (fun _ j => i - (intOf j).toNat)
  case atStart => exact ⟨0, Nat.zero_le _, rfl, by simp [stN, smN]⟩
  case round =>
    obtain ⟨k, hk, rfl, rfl⟩ := hrel
    have hi := HI.out
    by_cases hlt : k < i
    · have hkl : k < l.length := by rw [HN.out]; omega
      have hkn : k < n := by omega
      obtain ⟨b, o, rfl, hbl, hc⟩ := HC.out (by omega)
      obtain ⟨y0, -⟩ := hc k hkl
      have hle := stN_le l k
      rw [HN.out] at hle
      have hs2 := slN_le l[k]
      have hsu := stN_succ l k hkl
      have HS := Lib.hid (fun W => rslots_at l[k].op _ (slN l[k] : Int) W rfl (slN_int _))
      obtain ⟨m, hm⟩ : ∃ m, slN l[k] = m := ⟨_, rfl⟩
      obtain ⟨s, hs⟩ : ∃ s, stN l k = s := ⟨_, rfl⟩
      rw [hm] at HS hs2 hsu
      rw [hs] at hle hsu ⊢
      have HU := Lib.hid hsu
      generalize l[k].op = op at y0 HS
      clear hc hm hs hsu hi
      go_wp2_with (go_at_call 17; ((with_reducible refine (HS.out _).mono ?_); rintro e w1 ⟨rfl, rfl⟩))
      go_round
      case rel => exact ⟨k + 1, by omega, by go_num, by rw [HU.out]; go_num⟩
      case measure => simp [intOf]; omega
    · obtain rfl : k = i := by omega
      have hr := HR.out
      rw [hr]
      go_wp2
      go_ret
      exact ⟨rfl, rfl⟩

set_option maxHeartbeats 2000000 in
theorem rat_at (v : Value) (l : List L9.Ins) (s R : Int) (w : World) (hv : IsAt w v l) (hl : l.length ≤ 1000000) (hR : atN 0 0 l s = R) :
    Calls Try.prog 13 #[v, .int .i64 s] w fun e w' => e = .returned (.int .i64 R) ∧ w = w' := by
  obtain ⟨n, hn⟩ : ∃ n, l.length = n := ⟨_, rfl⟩
  obtain ⟨a, c, rfl, hc⟩ := is_form hn hv
  rw [hn] at hl
  have HC := Lib.hid hc
  have HN := Lib.hid hn
  have HR : Hid (atN 0 (stN l 0) (l.drop 0) s = R) := Lib.hid (by simpa [stN, smN] using hR)
  clear hv hc hn hR
  go_enter Try.func13, Try.ntmps13
  go_wp2
  go_loop [5, 6] (fun t j => ∃ k : Nat, k ≤ n ∧ j = .int .i64 (k : Int) ∧ t = .int .i64 (stN l k : Int) ∧ Hid (atN k (stN l k) (l.drop k) s = R)) (fun _ j => n - (intOf j).toNat)
  case atStart => exact ⟨0, Nat.zero_le _, rfl, by simp [stN, smN], HR⟩
  case round =>
    obtain ⟨k, hk, rfl, rfl, hT⟩ := hrel
    clear HR
    by_cases hlt : k < n
    · have hkl : k < l.length := by rw [HN.out]; omega
      obtain ⟨b, o, rfl, hbl, hc⟩ := HC.out (by omega)
      obtain ⟨y0, -⟩ := hc k hkl
      have hle := stN_le l k
      rw [HN.out] at hle
      have hs2 := slN_le l[k]
      have hsu := stN_succ l k hkl
      have hst := hT.out
      rw [List.drop_eq_getElem_cons hkl, atN, ← hsu] at hst
      have HS := Lib.hid (fun W => rslots_at l[k].op _ (slN l[k] : Int) W rfl (slN_int _))
      obtain ⟨m, hm⟩ : ∃ m, slN l[k] = m := ⟨_, rfl⟩
      rw [hm] at HS hs2 hsu
      have HU := Lib.hid hsu
      generalize l[k].op = op at y0 HS
      by_cases he : (stN l k : Int) = s
      · rw [if_pos he] at hst
        obtain ⟨t, ht⟩ : ∃ t, stN l k = t := ⟨_, rfl⟩
        rw [ht] at he hle ⊢
        subst he hst
        clear hc hm hsu hT HU ht
        go_wp2
        go_ret
        exact ⟨rfl, rfl⟩
      · rw [if_neg he] at hst
        have HT := Lib.hid hst
        obtain ⟨t, ht⟩ : ∃ t, stN l k = t := ⟨_, rfl⟩
        rw [ht] at he hle HU ⊢
        have he2 : ((t : Int) == s) = false := by simpa using he
        clear hc hm hsu hT ht hst
        go_wp2_with (go_at_call 17; ((with_reducible refine (HS.out _).mono ?_); rintro e w1 ⟨rfl, rfl⟩))
        go_round
        case rel => exact ⟨k + 1, by omega, by go_num, by rw [HU.out]; go_num, HT⟩
        case measure => simp [intOf]; omega
    · obtain rfl : k = n := by omega
      have hst := hT.out
      rw [List.drop_eq_nil_of_le (by rw [HN.out]; exact Nat.le_refl _), atN] at hst
      subst hst
      clear hT
      go_wp2
      go_ret
      exact ⟨rfl, rfl⟩
end Go.Proofs.Ythoghcejmnnniaa.L12
