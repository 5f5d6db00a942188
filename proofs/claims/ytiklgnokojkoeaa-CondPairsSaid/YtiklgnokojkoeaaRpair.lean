/- What the reference's Opposite and Mirror return: the operation of 'opp' and of 'mir', as the program's. No condition. -/
import Derived.Test.YtiklgnokojkoeaaHolds
import Derived.Test.YtiklgnokojkoeaaL3Rfn
namespace Go.Proofs.Ytiklgnokojkoeaa
open Go.RowKit L3

theorem cell_arr {w : World} {g : Nat} {cs : Array Value} {t : TypeId} {i : Nat} {v : Value} (h : w.heap[g]? = some (.cells cs t)) (hc : cs[i]? = some v) : w.cell? ⟨g, i, none⟩ = some v := by
  simp [World.cell?, h, hc]
set_option maxHeartbeats 4000000 in
set_option maxRecDepth 100000 in
theorem pair_neg (op : Int) (i : Nat) (hi : i < 11) (b : Int) (hb : b = 45 ∨ b = 56) (hop : op = b + (i : Int)) (hf : frm (ix op) = 4) (g : Nat) (x : Int) (w : World) (hc : w.cell? ⟨g, i, none⟩ = some (.int .i64 x)) (hx : x < 0) :
    Calls Try.prog 27 #[.int .i64 op, .slice (some ⟨g, 0, none⟩) 11 11] w fun e w' => e = .returned (.tuple #[.int .i64 0, .bool false]) ∧ w = w' := by
  have HF := Lib.hid (fun w => rform_at op 4 w hf)
  have q0 : 45 ≤ op := by omega
  have q1 : op < 67 := by omega
  have hw : IntKind.i64.wrap (op - 45) = op - 45 := by
    rw [IntKind.wrap_i64]; omega
  have ht : (op - 45).tmod 11 = (i : Int) := by
    rw [Int.tmod_eq_emod_of_nonneg (by omega)]; omega
  have hi' : (i : Int) < 11 := by omega
  clear hf hop hb
  go_enter Try.func27, Try.ntmps27
  go_wp2_with (go_at_call 16; ((with_reducible refine (HF.out _).mono ?_); rintro e w1 ⟨rfl, rfl⟩))
  go_ret2
  exact ⟨rfl, rfl⟩
set_option maxHeartbeats 4000000 in
set_option maxRecDepth 100000 in
theorem pair_yes (op : Int) (i : Nat) (hi : i < 11) (b : Int) (hb : b = 45 ∨ b = 56) (hop : op = b + (i : Int)) (hf : frm (ix op) = 4) (g : Nat) (x : Int) (w : World) (hc : w.cell? ⟨g, i, none⟩ = some (.int .i64 x)) (hx : 0 ≤ x) (hx1 : x < 11) (v : Int) (hv : op - (i : Int) + x = v) :
    Calls Try.prog 27 #[.int .i64 op, .slice (some ⟨g, 0, none⟩) 11 11] w fun e w' => e = .returned (.tuple #[.int .i64 v, .bool true]) ∧ w = w' := by
  have HF := Lib.hid (fun w => rform_at op 4 w hf)
  have q0 : 45 ≤ op := by omega
  have q1 : op < 67 := by omega
  have hw : IntKind.i64.wrap (op - 45) = op - 45 := by
    rw [IntKind.wrap_i64]; omega
  have ht : (op - 45).tmod 11 = (i : Int) := by
    rw [Int.tmod_eq_emod_of_nonneg (by omega)]; omega
  have hi' : (i : Int) < 11 := by omega
  have HV := Lib.hid hv
  clear hv
  clear hf hop hb
  go_enter Try.func27, Try.ntmps27
  go_wp2_with (go_at_call 16; ((with_reducible refine (HF.out _).mono ?_); rintro e w1 ⟨rfl, rfl⟩))
  go_ret2
  exact ⟨by rw [← HV.out] <;> rfl, rfl⟩
set_option maxHeartbeats 4000000 in
set_option maxRecDepth 100000 in
theorem pair_no (op f : Int) (hf : frm (ix op) = f) (h4 : f ≠ 4) (l : Value) (w : World) :
    Calls Try.prog 27 #[.int .i64 op, l] w fun e w' => e = .returned (.tuple #[.int .i64 0, .bool false]) ∧ w = w' := by
  have HF := Lib.hid (fun w => rform_at op f w hf)
  have k4 : (f != 4) = true := by simpa using h4
  clear hf h4
  go_enter Try.func27, Try.ntmps27
  go_wp2_with (go_at_call 16; ((with_reducible refine (HF.out _).mono ?_); rintro e w1 ⟨rfl, rfl⟩))
  go_ret2
  exact ⟨rfl, rfl⟩
def oppT (i : Nat) : Int := match opI i with | some j => (j : Int) | none => -1
abbrev oppC : Array Value := #[.int .i64 4, .int .i64 8, .int .i64 7, .int .i64 (-1), .int .i64 0, .int .i64 10, .int .i64 9, .int .i64 2, .int .i64 1, .int .i64 6, .int .i64 5]
theorem oppC_at (i : Nat) (h : i < 11) : oppC[i]? = some (.int .i64 (oppT i)) :=
  match i, h with
  | 0, _ => rfl
  | 1, _ => rfl
  | 2, _ => rfl
  | 3, _ => rfl
  | 4, _ => rfl
  | 5, _ => rfl
  | 6, _ => rfl
  | 7, _ => rfl
  | 8, _ => rfl
  | 9, _ => rfl
  | 10, _ => rfl
  | _ + 11, h => absurd h (by omega)
theorem oppT_neg (i : Nat) (h : oppT i < 0) : opI i = none := by
  unfold oppT at h
  split at h
  · omega
  · assumption
theorem oppT_yes (i : Nat) (h : 0 ≤ oppT i) : opI i = some (oppT i).toNat := by
  unfold oppT at h ⊢
  split
  · rename_i e; rw [e]; simp
  · rename_i e; rw [e] at h; simp at h
theorem oppT_lt (i : Nat) (h : i < 11) : oppT i < 11 :=
  match i, h with
  | 0, _ => by decide
  | 1, _ => by decide
  | 2, _ => by decide
  | 3, _ => by decide
  | 4, _ => by decide
  | 5, _ => by decide
  | 6, _ => by decide
  | 7, _ => by decide
  | 8, _ => by decide
  | 9, _ => by decide
  | 10, _ => by decide
  | _ + 11, h => absurd h (by omega)
theorem opp_at (b op : Int) (i : Nat) (hi : i < 11) (hb : b = 45 ∨ b = 56) (hop : op = b + (i : Int)) : opp op = (opI i).map (fun (j : Nat) => (j : Int) + b) := by
  unfold opp mv
  rcases hb with rfl | rfl
  · rw [if_pos (by omega)]
    have e : (op - 45).toNat = i := by omega
    rw [e]
  · rw [if_neg (by omega), if_pos (by omega)]
    have e : (op - 56).toNat = i := by omega
    rw [e]
theorem opp_no (op : Int) (h : ¬ (45 ≤ op ∧ op < 67)) : opp op = none := by
  unfold opp mv
  rw [if_neg (by omega), if_neg (by omega)]
set_option maxHeartbeats 4000000 in
set_option maxRecDepth 100000 in
theorem ropposite_at_in (b op : Int) (i : Nat) (hi : i < 11) (hb : b = 45 ∨ b = 56) (hop : op = b + (i : Int)) (hf : frm (ix op) = 4) (w : World) :
    Calls Try.prog 14 #[.int .i64 op] w fun e w' => e = .returned (.tuple #[.int .i64 ((opp op).getD 0), .bool (opp op).isSome]) ∧ Below w.heap.size w w' := by
  have hc : (w.alloc (.cells oppC 3)).cell? ⟨w.heap.size, i, none⟩ = some (.int .i64 (oppT i)) := by
    exact cell_arr (heap_alloc_last w _) (oppC_at i hi)
  have hq := opp_at b op i hi hb hop
  have b0 := bnew w (.cells oppC 3)
  by_cases hx : oppT i < 0
  · have HP := Lib.hid (pair_neg op i hi b hb hop hf w.heap.size (oppT i) _ hc hx)
    rw [hq, oppT_neg i hx]
    clear hc hq hx hop hb hf
    go_enter Try.func14, Try.ntmps14
    go_wp2_with (go_at_call 27; ((with_reducible refine (HP.out).mono ?_); rintro e w1 ⟨rfl, rfl⟩))
    go_ret2
    exact ⟨rfl, b0⟩
  · have hx' : 0 ≤ oppT i := by omega
    have HP := Lib.hid (pair_yes op i hi b hb hop hf w.heap.size (oppT i) _ hc hx' (oppT_lt i hi) ((oppT i) + b) (by omega))
    have hv : ((Option.map (fun (j : Nat) => (j : Int) + b) (some (oppT i).toNat)).getD 0) = oppT i + b := by
      show (((oppT i).toNat : Nat) : Int) + b = _
      omega
    rw [hq, oppT_yes i hx', hv]
    clear hc hq hx hx' hv hop hb hf
    go_enter Try.func14, Try.ntmps14
    go_wp2_with (go_at_call 27; ((with_reducible refine (HP.out).mono ?_); rintro e w1 ⟨rfl, rfl⟩))
    go_ret2
    exact ⟨rfl, b0⟩
set_option maxHeartbeats 4000000 in
set_option maxRecDepth 100000 in
theorem ropposite_at_no (op : Int) (h : ¬ (45 ≤ op ∧ op < 67)) (h4 : frm (ix op) ≠ 4) (w : World) :
    Calls Try.prog 14 #[.int .i64 op] w fun e w' => e = .returned (.tuple #[.int .i64 ((opp op).getD 0), .bool (opp op).isSome]) ∧ Below w.heap.size w w' := by
  have HP := Lib.hid (fun l w => pair_no op _ rfl h4 l w)
  have b0 := bnew w (.cells oppC 3)
  rw [opp_no op h]
  clear h h4
  go_enter Try.func14, Try.ntmps14
  go_wp2_with (go_at_call 27; ((with_reducible refine (HP.out _ _).mono ?_); rintro e w1 ⟨rfl, rfl⟩))
  go_ret2
  exact ⟨rfl, b0⟩
theorem ropposite_at (op v : Int) (ok : Bool) (h1 : (opp op).getD 0 = v) (h2 : (opp op).isSome = ok) (w : World) :
    Calls Try.prog 14 #[.int .i64 op] w fun e w' => e = .returned (.tuple #[.int .i64 v, .bool ok]) ∧ Below w.heap.size w w' := by
  subst h1 h2
  rcases kinds op with ⟨h, hf⟩ | ⟨i, hi, hop, hf, _⟩ | ⟨i, hi, hop, hf, _⟩ | ⟨_, k, _, h4⟩
  · exact ropposite_at_no op (by omega) (by rw [hf]; decide) w
  · exact ropposite_at_in 45 op i hi (.inl rfl) hop hf w
  · exact ropposite_at_in 56 op i hi (.inr rfl) hop hf w
  · exact ropposite_at_no op k h4 w
def mirT (i : Nat) : Int := match miI i with | some j => (j : Int) | none => -1
abbrev mirC : Array Value := #[.int .i64 0, .int .i64 7, .int .i64 8, .int .i64 3, .int .i64 4, .int .i64 9, .int .i64 10, .int .i64 1, .int .i64 2, .int .i64 5, .int .i64 6]
theorem mirC_at (i : Nat) (h : i < 11) : mirC[i]? = some (.int .i64 (mirT i)) :=
  match i, h with
  | 0, _ => rfl
  | 1, _ => rfl
  | 2, _ => rfl
  | 3, _ => rfl
  | 4, _ => rfl
  | 5, _ => rfl
  | 6, _ => rfl
  | 7, _ => rfl
  | 8, _ => rfl
  | 9, _ => rfl
  | 10, _ => rfl
  | _ + 11, h => absurd h (by omega)
theorem mirT_neg (i : Nat) (h : mirT i < 0) : miI i = none := by
  unfold mirT at h
  split at h
  · omega
  · assumption
theorem mirT_yes (i : Nat) (h : 0 ≤ mirT i) : miI i = some (mirT i).toNat := by
  unfold mirT at h ⊢
  split
  · rename_i e; rw [e]; simp
  · rename_i e; rw [e] at h; simp at h
theorem mirT_lt (i : Nat) (h : i < 11) : mirT i < 11 :=
  match i, h with
  | 0, _ => by decide
  | 1, _ => by decide
  | 2, _ => by decide
  | 3, _ => by decide
  | 4, _ => by decide
  | 5, _ => by decide
  | 6, _ => by decide
  | 7, _ => by decide
  | 8, _ => by decide
  | 9, _ => by decide
  | 10, _ => by decide
  | _ + 11, h => absurd h (by omega)
theorem mir_at (b op : Int) (i : Nat) (hi : i < 11) (hb : b = 45 ∨ b = 56) (hop : op = b + (i : Int)) : mir op = (miI i).map (fun (j : Nat) => (j : Int) + b) := by
  unfold mir mv
  rcases hb with rfl | rfl
  · rw [if_pos (by omega)]
    have e : (op - 45).toNat = i := by omega
    rw [e]
  · rw [if_neg (by omega), if_pos (by omega)]
    have e : (op - 56).toNat = i := by omega
    rw [e]
theorem mir_no (op : Int) (h : ¬ (45 ≤ op ∧ op < 67)) : mir op = none := by
  unfold mir mv
  rw [if_neg (by omega), if_neg (by omega)]
set_option maxHeartbeats 4000000 in
set_option maxRecDepth 100000 in
theorem rmirror_at_in (b op : Int) (i : Nat) (hi : i < 11) (hb : b = 45 ∨ b = 56) (hop : op = b + (i : Int)) (hf : frm (ix op) = 4) (w : World) :
    Calls Try.prog 15 #[.int .i64 op] w fun e w' => e = .returned (.tuple #[.int .i64 ((mir op).getD 0), .bool (mir op).isSome]) ∧ Below w.heap.size w w' := by
  have hc : (w.alloc (.cells mirC 3)).cell? ⟨w.heap.size, i, none⟩ = some (.int .i64 (mirT i)) := by
    exact cell_arr (heap_alloc_last w _) (mirC_at i hi)
  have hq := mir_at b op i hi hb hop
  have b0 := bnew w (.cells mirC 3)
  by_cases hx : mirT i < 0
  · have HP := Lib.hid (pair_neg op i hi b hb hop hf w.heap.size (mirT i) _ hc hx)
    rw [hq, mirT_neg i hx]
    clear hc hq hx hop hb hf
    go_enter Try.func15, Try.ntmps15
    go_wp2_with (go_at_call 27; ((with_reducible refine (HP.out).mono ?_); rintro e w1 ⟨rfl, rfl⟩))
    go_ret2
    exact ⟨rfl, b0⟩
  · have hx' : 0 ≤ mirT i := by omega
    have HP := Lib.hid (pair_yes op i hi b hb hop hf w.heap.size (mirT i) _ hc hx' (mirT_lt i hi) ((mirT i) + b) (by omega))
    have hv : ((Option.map (fun (j : Nat) => (j : Int) + b) (some (mirT i).toNat)).getD 0) = mirT i + b := by
      show (((mirT i).toNat : Nat) : Int) + b = _
      omega
    rw [hq, mirT_yes i hx', hv]
    clear hc hq hx hx' hv hop hb hf
    go_enter Try.func15, Try.ntmps15
    go_wp2_with (go_at_call 27; ((with_reducible refine (HP.out).mono ?_); rintro e w1 ⟨rfl, rfl⟩))
    go_ret2
    exact ⟨rfl, b0⟩
set_option maxHeartbeats 4000000 in
set_option maxRecDepth 100000 in
theorem rmirror_at_no (op : Int) (h : ¬ (45 ≤ op ∧ op < 67)) (h4 : frm (ix op) ≠ 4) (w : World) :
    Calls Try.prog 15 #[.int .i64 op] w fun e w' => e = .returned (.tuple #[.int .i64 ((mir op).getD 0), .bool (mir op).isSome]) ∧ Below w.heap.size w w' := by
  have HP := Lib.hid (fun l w => pair_no op _ rfl h4 l w)
  have b0 := bnew w (.cells mirC 3)
  rw [mir_no op h]
  clear h h4
  go_enter Try.func15, Try.ntmps15
  go_wp2_with (go_at_call 27; ((with_reducible refine (HP.out _ _).mono ?_); rintro e w1 ⟨rfl, rfl⟩))
  go_ret2
  exact ⟨rfl, b0⟩
theorem rmirror_at (op v : Int) (ok : Bool) (h1 : (mir op).getD 0 = v) (h2 : (mir op).isSome = ok) (w : World) :
    Calls Try.prog 15 #[.int .i64 op] w fun e w' => e = .returned (.tuple #[.int .i64 v, .bool ok]) ∧ Below w.heap.size w w' := by
  subst h1 h2
  rcases kinds op with ⟨h, hf⟩ | ⟨i, hi, hop, hf, _⟩ | ⟨i, hi, hop, hf, _⟩ | ⟨_, k, _, h4⟩
  · exact rmirror_at_no op (by omega) (by rw [hf]; decide) w
  · exact rmirror_at_in 45 op i hi (.inl rfl) hop hf w
  · exact rmirror_at_in 56 op i hi (.inr rfl) hop hf w
  · exact rmirror_at_no op k h4 w
end Go.Proofs.Ytiklgnokojkoeaa
