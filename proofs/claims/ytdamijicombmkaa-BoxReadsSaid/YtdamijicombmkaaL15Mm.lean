/- Sections in memory; what Size returns, the program's and the reference's. Conditions: memory holds the sections, which are no more than 100000 of no more than 1000000 bytes each. -/
import Derived.Test.YtdamijicombmkaaL15Fn
namespace Go.Proofs.Ytdamijicombmkaa.L15
open Go.RowKit L14
attribute [local go_sem] Oper.semAt_some

/-- A slice of sections. -/
def Ss (w : World) (v : Value) (l : List Sc) : Prop :=
  ∃ a c, v = .slice a l.length c ∧ l.length ≤ c ∧ (a = none → c = 0) ∧ (0 < l.length → ∃ b o, a = some ⟨b, o, none⟩ ∧ b < w.heap.size ∧ ∀ j, (h : j < l.length) → w.cell? ⟨b, o + j * 2, none⟩ = some (.int .i64 l[j].1) ∧ ∃ dv, w.cell? ⟨b, o + j * 2 + 1, none⟩ = some dv ∧ Rw eB w dv l[j].2)
theorem Ss.below {w w' : World} {v : Value} {l : List Sc} (h : Ss w v l) (hb : Below w.heap.size w w') : Ss w' v l := by
  obtain ⟨a, c, hv, h1, h2, h3⟩ := h
  refine ⟨a, c, hv, h1, h2, fun hp => ?_⟩
  obtain ⟨b, o, e, hlt, hc⟩ := h3 hp
  refine ⟨b, o, e, Nat.lt_of_lt_of_le hlt hb.size, fun j hj => ?_⟩
  obtain ⟨h4, dv, h5, h6⟩ := hc j hj
  exact ⟨(hb.cell (by exact hlt)).trans h4, dv, (hb.cell (by exact hlt)).trans h5, h6.below hb⟩
theorem Ss.form {w : World} {v : Value} {l : List Sc} {n : Nat} (hn : l.length = n) (h : Ss w v l) : ∃ a c, v = .slice a n c ∧ n ≤ c ∧ (a = none → c = 0) ∧ (0 < n → ∃ b o, a = some ⟨b, o, none⟩ ∧ b < w.heap.size ∧ ∀ j, (h : j < l.length) → w.cell? ⟨b, o + j * 2, none⟩ = some (.int .i64 l[j].1) ∧ ∃ dv, w.cell? ⟨b, o + j * 2 + 1, none⟩ = some dv ∧ Rw eB w dv l[j].2) := by
  subst hn; exact h
theorem Ss.at {w : World} {a : Option Addr} {n c : Nat} {l : List Sc} (h : Ss w (.slice a n c) l) : l.length = n := by
  obtain ⟨a', c', hv, -⟩ := h
  cases hv; rfl
theorem Ss.nil (w : World) : Ss w (.slice none 0 0) [] := ⟨none, 0, rfl, Nat.le_refl _, fun _ => rfl, fun h => absurd h (by simp)⟩
/-- Sections that are not many and not long. -/
structure Sml (l : List Sc) : Prop where
  n : l.length ≤ 100000
  d : ∀ s ∈ l, s.2.length ≤ 1000000
theorem Sml.tot {l : List Sc} (h : Sml l) : tot l ≤ 100001000000 := by
  have h1 := tot_bound l 1000000 h.d
  have h2 := h.n
  have h3 : l.length * (1000000 + 7) ≤ 100000 * (1000000 + 7) := Nat.mul_le_mul_right _ h2
  omega
theorem Sml.hd {l : List Sc} (h : Sml l) : hd l.length ≤ 1300000 := by
  have h1 := up_le (16 + 12 * l.length)
  have h2 := h.n
  unfold L15.hd; omega
theorem Sml.sz {l : List Sc} (h : Sml l) : szL l ≤ 100010000000 := by
  have h1 := h.tot
  have h2 := h.hd
  unfold szL; omega

set_option maxHeartbeats 2000000 in
set_option maxRecDepth 100000 in
theorem size_at (v : Value) (l : List Sc) (S : Nat) (w : World) (hv : Ss w v l) (hs : Sml l) (hS : szL l = S) :
    Calls Try.prog 13 #[v] w fun e w' => e = .returned (.int .i64 (S : Int)) ∧ Below w.heap.size w w' := by
  obtain ⟨n, hn⟩ : ∃ n, l.length = n := ⟨_, rfl⟩
  obtain ⟨a, c, rfl, -, -, hc⟩ := hv.form hn
  have hnl := hs.n
  have htt := hs.tot
  have hhd := hs.hd
  rw [hn] at hnl hhd
  obtain ⟨H, hH⟩ : ∃ H, hd n = H := ⟨_, rfl⟩
  rw [hH] at hhd
  have HD := Lib.hid (fun w => dataS_at n H w (by omega) hH)
  have HC := Lib.hid hc
  have HN := Lib.hid hn
  have HS := Lib.hid (show H + tot (l.take n) = S by rw [← hS, ← hH, ← hn, List.take_length]; rfl)
  have HT := Lib.hid htt
  have HM := Lib.hid hs.d
  clear hn hc hv hs htt hH hS
  go_enter Try.func13, Try.ntmps13
  go_wp2_with (go_at_call 26; ((with_reducible refine (HD.out _).mono ?_); rintro e w1 ⟨rfl, rfl⟩))
  go_loopw [3, 5, 11] (fun s _ q wr => ∃ j : Nat, j ≤ n ∧ q = .int .i64 (j : Int) ∧ s = .int .i64 ((H + tot (l.take j) : Nat) : Int) ∧ Below w.heap.size w wr) (fun _ _ q _ => n - (intOf q).toNat)
  case atStart => exact ⟨0, Nat.zero_le _, rfl, by simp [tot], Below.refl _ _⟩
  case round =>
    obtain ⟨j, hj, rfl, rfl, hB⟩ := hrel
    by_cases hlt : j < n
    · have hjl : j < l.length := by rw [HN.out]; exact hlt
      obtain ⟨b, o, rfl, hbl, hcc⟩ := HC.out (by omega)
      obtain ⟨x0, dv, x1, hr⟩ := hcc j hjl
      obtain ⟨m, hm⟩ : ∃ m, l[j].2.length = m := ⟨_, rfl⟩
      obtain ⟨da, dc, rfl, -⟩ := hr.form hm
      have y0 := (hB.cell (p := ⟨b, o + j * 2, none⟩) (by exact hbl)).trans x0
      have y1 := (hB.cell (p := ⟨b, o + j * 2 + 1, none⟩) (by exact hbl)).trans x1
      have hml := HM.out _ (List.getElem_mem hjl)
      have hst := tot_step l j hjl
      have hle := tot_le l (j + 1)
      have htt := HT.out
      rw [hm] at hml hst
      obtain ⟨u, hu⟩ : ∃ u, up m = u := ⟨_, rfl⟩
      have HP := Lib.hid (fun w => padded_at m u w (by omega) hu)
      rw [hu] at hst
      obtain ⟨t, ht⟩ : ∃ t, tot (l.take j) = t := ⟨_, rfl⟩
      rw [ht] at hst ⊢
      have HST := Lib.hid hst
      have hbd : t + u ≤ 100001000000 := by omega
      generalize l[j].1 = kk at y0
      have hsz := hB.size
      clear hcc x0 x1 hr hm hst hle htt hu ht
      go_wp2_with (go_at_call 27; ((with_reducible refine (HP.out _).mono ?_); rintro e w2 ⟨rfl, rfl⟩))
      go_roundw
      case rel => exact ⟨j + 1, hlt, by go_num, by rw [HST.out]; go_num, bch hB (bnew _ _)⟩
      case measure => simp [intOf]; omega
    · obtain rfl : j = n := by omega
      go_wp2
      go_ret
      exact ⟨congrArg (fun (z : Nat) => Ending.returned (.int .i64 (z : Int))) HS.out, hB⟩
end Go.Proofs.Ytdamijicombmkaa.L15
