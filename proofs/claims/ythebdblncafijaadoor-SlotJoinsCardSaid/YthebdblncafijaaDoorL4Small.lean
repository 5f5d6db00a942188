/- What Slots, Writes, Ends and Jumps return, the program's and the reference's, and which fields the reference says are used. No condition. -/
import Derived.Test.YthebdblncafijaaDoorL4Uses
namespace Go.Proofs.YthebdblncafijaaDoor.L4
open Go.RowKit L3

/-- An instruction's six cells. -/
abbrev insA (op : Int) (reg : Bool) (dst src off imm : Int) : Array Value := #[.int .i64 op, .bool reg, .int .i64 dst, .int .i64 src, .int .i64 off, .int .i64 imm]

set_option maxHeartbeats 2000000 in
set_option maxRecDepth 100000 in
theorem slots_at (op f v : Int) (w : World) (hf : frm (ix op) = f) (hv : slo f = v) : Calls Tryd.prog 23 #[.int .i64 op] w fun e w' => e = .returned (.int .i64 v) ∧ Below w.heap.size w w' := by
  subst hv
  have hF := frm_isF op
  rw [hf] at hF
  rcases hF with rfl | rfl | rfl | rfl | rfl | rfl | rfl | rfl | rfl | rfl | rfl | rfl | rfl
  all_goals
    have HF := Lib.hid hf
    clear hf
    go_enter Tryd.func23, Tryd.ntmps23
    go_wp2_with (first | (go_at_call 48; ((with_reducible refine (form_at op _ _ HF.out).mono ?_); rintro e w1 ⟨rfl, hb1⟩)))
    go_ret
    exact ⟨rfl, hb1⟩

/-- Nothing behind it is reached directly; it may continue at a target. -/
def endF (f : Int) : Bool := f == 3 || f == 6
def jmpF (f : Int) : Bool := f == 3 || f == 4

/-! ### the reference -/
theorem rslots_at (op f v : Int) (w : World) (hf : frm (ix op) = f) (hv : slo f = v) : Calls Tryd.prog 38 #[.int .i64 op] w fun e w' => e = .returned (.int .i64 v) ∧ w = w' := by
  subst hv
  have hF := frm_isF op
  rw [hf] at hF
  rcases hF with rfl | rfl | rfl | rfl | rfl | rfl | rfl | rfl | rfl | rfl | rfl | rfl | rfl
  all_goals
    have HF := Lib.hid hf
    clear hf
    go_enter Tryd.func38, Tryd.ntmps38
    go_wp2_with (first | (go_at_call 28; ((with_reducible refine (rform_at op _ _ HF.out).mono ?_); rintro e w1 ⟨rfl, rfl⟩)))
    go_ret
    exact ⟨rfl, rfl⟩

/-- A list of integers in memory. -/
def IntsAt (w : World) (k : Nat) (l : List Int) : Prop := ∃ t, w.heap[k]? = some (.cells (l.map (Value.int .i64)).toArray t)

set_option maxHeartbeats 1000000 in
theorem in_at (x : Int) (l : List Int) (k n : Nat) (b : Bool) (w : World) (hn : l.length = n) (hl : n ≤ 100) (hk : IntsAt w k l) (hb : l.contains x = b) :
    Calls Tryd.prog 52 #[.int .i64 x, .slice (some ⟨k, 0, none⟩) n n] w fun e w' => e = .returned (.bool b) ∧ w = w' := by
  subst hn
  obtain ⟨t, hk⟩ := hk
  have HC := Lib.hid (fun (j : Nat) (hj : j < l.length) => show w.cell? ⟨k, j, none⟩ = some (.int .i64 l[j]) by simp [World.cell?, hk, hj])
  have HB := Lib.hid hb
  clear hk hb
  go_enter Tryd.func52, Tryd.ntmps52
  go_wp2
  go_loop [5] (fun i => ∃ j : Nat, j ≤ l.length ∧ i = .int .i64 j ∧ Hid ((l.drop j).contains x = b)) (fun i => l.length - (intOf i).toNat)
  case atStart => exact ⟨0, Nat.zero_le _, rfl, HB⟩
  case round =>
    obtain ⟨j, hj, rfl, HE⟩ := hrel
    by_cases hlt : j < l.length
    · have hc := HC.out j hlt
      have hD : (l.drop j).contains x = (x == l[j] || (l.drop (j + 1)).contains x) := by
        rw [List.drop_eq_getElem_cons hlt, List.contains_cons]
      generalize l[j] = y at hc hD
      cases hy : (y == x)
      · have HN : Hid ((l.drop (j + 1)).contains x = b) := Lib.hid (by rw [← HE.out, hD, BEq.comm (a := x), hy, Bool.false_or])
        clear hD
        go_wp2
        go_round
        case rel => exact ⟨j + 1, by omega, by go_num, HN⟩
        case measure => simp [intOf]; omega
      · have HN : Hid (b = true) := Lib.hid (by rw [← HE.out, hD, BEq.comm (a := x), hy, Bool.true_or])
        clear hD
        go_wp2
        go_ret
        exact ⟨by rw [HN.out] <;> rfl, rfl⟩
    · have HN : Hid (b = false) := Lib.hid (by rw [← HE.out, List.drop_eq_nil_of_le (by omega)]; rfl)
      go_wp2
      go_ret
      exact ⟨by rw [HN.out] <;> rfl, rfl⟩

theorem ints_new (w : World) (l : List Int) (t : TypeId) (c : Array Value) (h : c = (l.map (Value.int .i64)).toArray) : IntsAt (w.alloc (.cells c t)) w.heap.size l := ⟨t, by rw [heap_alloc_last, h]⟩

theorem in_D (x : Int) (b : Bool) (n : Nat) (w : World) (hn : n = w.heap.size) (h : [0, 1, 2, 4, 7, 8, 9, 10, 11].contains x = b) : Calls Tryd.prog 52 #[.int .i64 x, .slice (some ⟨n, 0, none⟩) 9 9] (w.alloc (.cells #[.int .i64 0, .int .i64 1, .int .i64 2, .int .i64 4, .int .i64 7, .int .i64 8, .int .i64 9, .int .i64 10, .int .i64 11] 3)) fun e w' =>
    e = .returned (.bool b) ∧ w.alloc (.cells #[.int .i64 0, .int .i64 1, .int .i64 2, .int .i64 4, .int .i64 7, .int .i64 8, .int .i64 9, .int .i64 10, .int .i64 11] 3) = w' := by
  subst hn
  exact in_at x [0, 1, 2, 4, 7, 8, 9, 10, 11] _ _ b _ rfl (by decide) (ints_new w [0, 1, 2, 4, 7, 8, 9, 10, 11] 3 _ rfl) h
theorem in_S (x : Int) (b : Bool) (n : Nat) (w : World) (hn : n = w.heap.size) (h : [2, 7, 9].contains x = b) : Calls Tryd.prog 52 #[.int .i64 x, .slice (some ⟨n, 0, none⟩) 3 3] (w.alloc (.cells #[.int .i64 2, .int .i64 7, .int .i64 9] 3)) fun e w' =>
    e = .returned (.bool b) ∧ w.alloc (.cells #[.int .i64 2, .int .i64 7, .int .i64 9] 3) = w' := by
  subst hn
  exact in_at x [2, 7, 9] _ _ b _ rfl (by decide) (ints_new w [2, 7, 9] 3 _ rfl) h
theorem in_A (x : Int) (b : Bool) (n : Nat) (w : World) (hn : n = w.heap.size) (h : [0, 4].contains x = b) : Calls Tryd.prog 52 #[.int .i64 x, .slice (some ⟨n, 0, none⟩) 2 2] (w.alloc (.cells #[.int .i64 0, .int .i64 4] 3)) fun e w' =>
    e = .returned (.bool b) ∧ w.alloc (.cells #[.int .i64 0, .int .i64 4] 3) = w' := by
  subst hn
  exact in_at x [0, 4] _ _ b _ rfl (by decide) (ints_new w [0, 4] 3 _ rfl) h
theorem in_O (x : Int) (b : Bool) (n : Nat) (w : World) (hn : n = w.heap.size) (h : [3, 4, 7, 8, 9].contains x = b) : Calls Tryd.prog 52 #[.int .i64 x, .slice (some ⟨n, 0, none⟩) 5 5] (w.alloc (.cells #[.int .i64 3, .int .i64 4, .int .i64 7, .int .i64 8, .int .i64 9] 3)) fun e w' =>
    e = .returned (.bool b) ∧ w.alloc (.cells #[.int .i64 3, .int .i64 4, .int .i64 7, .int .i64 8, .int .i64 9] 3) = w' := by
  subst hn
  exact in_at x [3, 4, 7, 8, 9] _ _ b _ rfl (by decide) (ints_new w [3, 4, 7, 8, 9] 3 _ rfl) h
theorem in_I (x : Int) (b : Bool) (n : Nat) (w : World) (hn : n = w.heap.size) (h : [5, 8, 10, 11].contains x = b) : Calls Tryd.prog 52 #[.int .i64 x, .slice (some ⟨n, 0, none⟩) 4 4] (w.alloc (.cells #[.int .i64 5, .int .i64 8, .int .i64 10, .int .i64 11] 3)) fun e w' =>
    e = .returned (.bool b) ∧ w.alloc (.cells #[.int .i64 5, .int .i64 8, .int .i64 10, .int .i64 11] 3) = w' := by
  subst hn
  exact in_at x [5, 8, 10, 11] _ _ b _ rfl (by decide) (ints_new w [5, 8, 10, 11] 3 _ rfl) h
theorem in_W (x : Int) (b : Bool) (n : Nat) (w : World) (hn : n = w.heap.size) (h : [0, 1, 2, 7, 10, 11].contains x = b) : Calls Tryd.prog 52 #[.int .i64 x, .slice (some ⟨n, 0, none⟩) 6 6] (w.alloc (.cells #[.int .i64 0, .int .i64 1, .int .i64 2, .int .i64 7, .int .i64 10, .int .i64 11] 3)) fun e w' =>
    e = .returned (.bool b) ∧ w.alloc (.cells #[.int .i64 0, .int .i64 1, .int .i64 2, .int .i64 7, .int .i64 10, .int .i64 11] 3) = w' := by
  subst hn
  exact in_at x [0, 1, 2, 7, 10, 11] _ _ b _ rfl (by decide) (ints_new w [0, 1, 2, 7, 10, 11] 3 _ rfl) h

set_option maxHeartbeats 1000000 in
theorem rdst_at (op f : Int) (b : Bool) (w : World) (hf : frm (ix op) = f) (hb : uD f = b) : Calls Tryd.prog 29 #[.int .i64 op] w fun e w' => e = .returned (.bool b) ∧ Below w.heap.size w w' := by
  have HF := Lib.hid hf
  have HB : Hid ([0, 1, 2, 4, 7, 8, 9, 10, 11].contains f = b) := Lib.hid hb
  clear hf hb
  go_enter Tryd.func29, Tryd.ntmps29
  go_wp2_with (first | (go_at_call 28; ((with_reducible refine (rform_at op _ _ HF.out).mono ?_); rintro e w1 ⟨rfl, rfl⟩)) | (go_at_call 52; ((with_reducible refine (in_D _ _ _ _ (by simp) HB.out).mono ?_); rintro e w1 ⟨rfl, rfl⟩)))
  go_ret
  exact ⟨rfl, bnew _ _⟩

set_option maxHeartbeats 1000000 in
theorem roff_at (op f : Int) (b : Bool) (w : World) (hf : frm (ix op) = f) (hb : uO f = b) : Calls Tryd.prog 31 #[.int .i64 op] w fun e w' => e = .returned (.bool b) ∧ Below w.heap.size w w' := by
  have HF := Lib.hid hf
  have HB : Hid ([3, 4, 7, 8, 9].contains f = b) := Lib.hid hb
  clear hf hb
  go_enter Tryd.func31, Tryd.ntmps31
  go_wp2_with (first | (go_at_call 28; ((with_reducible refine (rform_at op _ _ HF.out).mono ?_); rintro e w1 ⟨rfl, rfl⟩)) | (go_at_call 52; ((with_reducible refine (in_O _ _ _ _ (by simp) HB.out).mono ?_); rintro e w1 ⟨rfl, rfl⟩)))
  go_ret
  exact ⟨rfl, bnew _ _⟩

set_option maxHeartbeats 1000000 in
theorem rsrc_at (op f : Int) (reg b : Bool) (w : World) (hf : frm (ix op) = f) (hb : uS f reg = b) : Calls Tryd.prog 30 #[.int .i64 op, .bool reg] w fun e w' => e = .returned (.bool b) ∧ Below w.heap.size w w' := by
  obtain ⟨x, hx⟩ : ∃ x, [2, 7, 9].contains f = x := ⟨_, rfl⟩
  obtain ⟨y, hy⟩ : ∃ y, [0, 4].contains f = y := ⟨_, rfl⟩
  have HF := Lib.hid hf
  have HX := Lib.hid hx
  have HY := Lib.hid hy
  have hb' : (x || (reg && y)) = b := by rw [← hx, ← hy]; exact hb
  clear hf hb hx hy
  subst hb'
  cases x
  · cases reg
    · go_enter Tryd.func30, Tryd.ntmps30
      go_wp2_with (first | (go_at_call 28; ((with_reducible refine (rform_at op _ _ HF.out).mono ?_); rintro e w1 ⟨rfl, rfl⟩)) | (go_at_call 52; ((with_reducible refine (in_S _ _ _ _ (by simp) HX.out).mono ?_); rintro e w1 ⟨rfl, rfl⟩)))
      go_ret
      exact ⟨rfl, bnew _ _⟩
    · go_enter Tryd.func30, Tryd.ntmps30
      go_wp2_with (first | (go_at_call 28; ((with_reducible refine (rform_at op _ _ HF.out).mono ?_); rintro e w1 ⟨rfl, rfl⟩)) | (go_at_call 52; ((with_reducible refine (in_S _ _ _ _ (by simp) HX.out).mono ?_); rintro e w1 ⟨rfl, rfl⟩)) | (go_at_call 52; ((with_reducible refine (in_A _ _ _ _ (by simp) HY.out).mono ?_); rintro e w1 ⟨rfl, rfl⟩)))
      go_ret
      exact ⟨rfl, bch (bnew _ _) (bnew _ _)⟩
  · go_enter Tryd.func30, Tryd.ntmps30
    go_wp2_with (first | (go_at_call 28; ((with_reducible refine (rform_at op _ _ HF.out).mono ?_); rintro e w1 ⟨rfl, rfl⟩)) | (go_at_call 52; ((with_reducible refine (in_S _ _ _ _ (by simp) HX.out).mono ?_); rintro e w1 ⟨rfl, rfl⟩)))
    go_ret
    exact ⟨rfl, bnew _ _⟩

set_option maxHeartbeats 1000000 in
theorem rimm_at (op f : Int) (reg b : Bool) (w : World) (hf : frm (ix op) = f) (hb : uI f reg = b) : Calls Tryd.prog 32 #[.int .i64 op, .bool reg] w fun e w' => e = .returned (.bool b) ∧ Below w.heap.size w w' := by
  obtain ⟨x, hx⟩ : ∃ x, [5, 8, 10, 11].contains f = x := ⟨_, rfl⟩
  obtain ⟨y, hy⟩ : ∃ y, [0, 4].contains f = y := ⟨_, rfl⟩
  have HF := Lib.hid hf
  have HX := Lib.hid hx
  have HY := Lib.hid hy
  have hb' : (x || (!reg && y)) = b := by rw [← hx, ← hy]; exact hb
  clear hf hb hx hy
  subst hb'
  cases x
  · cases reg
    · go_enter Tryd.func32, Tryd.ntmps32
      go_wp2_with (first | (go_at_call 28; ((with_reducible refine (rform_at op _ _ HF.out).mono ?_); rintro e w1 ⟨rfl, rfl⟩)) | (go_at_call 52; ((with_reducible refine (in_I _ _ _ _ (by simp) HX.out).mono ?_); rintro e w1 ⟨rfl, rfl⟩)) | (go_at_call 52; ((with_reducible refine (in_A _ _ _ _ (by simp) HY.out).mono ?_); rintro e w1 ⟨rfl, rfl⟩)))
      go_ret
      exact ⟨rfl, bch (bnew _ _) (bnew _ _)⟩
    · go_enter Tryd.func32, Tryd.ntmps32
      go_wp2_with (first | (go_at_call 28; ((with_reducible refine (rform_at op _ _ HF.out).mono ?_); rintro e w1 ⟨rfl, rfl⟩)) | (go_at_call 52; ((with_reducible refine (in_I _ _ _ _ (by simp) HX.out).mono ?_); rintro e w1 ⟨rfl, rfl⟩)))
      go_ret
      exact ⟨rfl, bnew _ _⟩
  · go_enter Tryd.func32, Tryd.ntmps32
    go_wp2_with (first | (go_at_call 28; ((with_reducible refine (rform_at op _ _ HF.out).mono ?_); rintro e w1 ⟨rfl, rfl⟩)) | (go_at_call 52; ((with_reducible refine (in_I _ _ _ _ (by simp) HX.out).mono ?_); rintro e w1 ⟨rfl, rfl⟩)))
    go_ret
    exact ⟨rfl, bnew _ _⟩

/-- Is it a register? -/
def isG (n : Int) : Bool := decide (0 ≤ n) && decide (n ≤ 10)
theorem rreg_at (n : Int) (b : Bool) (w : World) (h : isG n = b) : Calls Tryd.prog 33 #[.int .i64 n] w fun e w' => e = .returned (.bool b) ∧ w = w' := by
  subst h
  unfold isG
  cases h1 : decide (0 ≤ n) <;> cases h2 : decide (n ≤ 10)
  all_goals
    go_enter Tryd.func33, Tryd.ntmps33
    go_wp2
    go_ret
    exact ⟨rfl, rfl⟩
end Go.Proofs.YthebdblncafijaaDoor.L4
