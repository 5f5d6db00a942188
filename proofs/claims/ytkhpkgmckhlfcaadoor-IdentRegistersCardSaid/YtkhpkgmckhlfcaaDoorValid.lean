/- What Valid and Fresh return, the program's and the reference's, where the tables read as the program's text lays them. -/
import Derived.Test.YtkhpkgmckhlfcaaDoorNames
import Derived.Test.YtkhpkgmckhlfcaaDoorShelf
namespace Go.Proofs.YtkhpkgmckhlfcaaDoor
open Go.RowKit Go.Sort

/-- The tables that the laws read, as the program's text lays them. -/
structure Tabs (w : World) : Prop where
  reg : Regs w
  tab : Lib.TabIs Tryd.prog w "internal/strconv.uint64pow10" .u64 Lib.pow10Tab
  two : 1 < w.heap.size

theorem gPow : Tryd.prog.globalNamed "internal/strconv.uint64pow10" = some 1 := by kernel_rfl

theorem Regs.lt {w : World} (h : Regs w) : 0 < w.heap.size := by
  obtain ⟨t, fr, hg⟩ := h
  exact lt_of_block hg

theorem Regs.below {w w' : World} (h : Regs w) (hb : Below w.heap.size w w') : Regs w' := by
  have hlt := h.lt
  obtain ⟨t, fr, hg⟩ := h
  exact ⟨t, fr, (hb.block 0 hlt).trans hg⟩

theorem Tabs.below {w w' : World} (h : Tabs w) (hb : Below w.heap.size w w') : Tabs w' :=
  ⟨h.reg.below hb, var?_below hb gPow h.two h.tab, Nat.lt_of_lt_of_le h.two hb.size⟩

theorem Tabs.alloc {w : World} (h : Tabs w) (o : Obj) : Tabs (w.alloc o) := h.below ((Below.refl _ _).alloc (Nat.le_refl _) o)

theorem below_grow {w : World} {k : Nat} {os : Array Obj} : Below w.heap.size w (grow (w.drewN k) os) :=
  ⟨rfl, rfl, rfl, by simp [grow], fun k' hk => heap_grow_old (w.drewN k) os hk⟩

/-! ### Fresh -/
/-- The label with a number, or the empty text. -/
def frS (n : Int) : ByteArray := if 0 ≤ n ∧ n ≤ 2147483648 then ⟨(76 :: Lib.itoa n).toArray⟩ else ⟨#[]⟩

theorem itoa_at (x : Int) (t : ByteArray) (w : World) (h0 : -9223372036854775808 ≤ x) (h1 : x ≤ 9223372036854775807) (ht : Tabs w) (h : t = ⟨(Lib.itoa x).toArray⟩) :
    Calls Tryd.prog 24 #[.int .i64 x] w fun e w' => e = .returned (.string t) ∧ Below w.heap.size w w' := by
  subst h
  refine (Tryd.strconv_Itoa x h0 h1 w ht.tab).mono ?_
  rintro e w' ⟨rfl, k, os, rfl⟩
  exact ⟨rfl, below_grow⟩

set_option maxRecDepth 100000 in
theorem fresh_any (n : Int) (w : World) (ht : Tabs w) : Calls Tryd.prog 16 #[.int .i64 n] w fun e w' => e = .returned (.string (frS n)) ∧ Below w.heap.size w w' := by
  by_cases h0 : n < 0
  · have HN : Hid (frS n = ⟨#[]⟩) := Lib.hid (by rw [frS, if_neg (by omega)])
    go_enter Tryd.func16, Tryd.ntmps16
    go_wp2
    go_ret
    exact ⟨by rw [HN.out] <;> rfl, Below.refl _ _⟩
  · by_cases h1 : n ≤ 2147483648
    · obtain ⟨k, rfl⟩ : ∃ k : Nat, n = k := ⟨n.toNat, by omega⟩
      obtain ⟨t, hte⟩ : ∃ t : ByteArray, t = ⟨(Lib.itoa k).toArray⟩ := ⟨_, rfl⟩
      have HN : Hid ((⟨#[76]⟩ : ByteArray) ++ t = frS k) := Lib.hid (by
        rw [frS, if_pos (by omega), app_eq, hte])
      have hl : t.size ≤ 11 := by
        rw [size_list, hte]
        exact itoa_len k (by omega)
      have HT := Lib.hid hte
      have hmx : ((1 : Nat) + t.size) ≤ maxLen := by unfold maxLen; omega
      have hmx2 : ((1 : Nat) + t.size) ≤ 9223372036854775807 := by omega
      clear h0 hte hl
      go_enter Tryd.func16, Tryd.ntmps16
      go_wp2_with (go_at_call 24; ((with_reducible refine (itoa_at _ t _ (by omega) (by omega) ht HT.out).mono ?_); rintro e w' ⟨rfl, hb1⟩))
      go_ret
      exact ⟨by rw [HN.out] <;> rfl, hb1⟩
    · have HN : Hid (frS n = ⟨#[]⟩) := Lib.hid (by rw [frS, if_neg (by omega)])
      go_enter Tryd.func16, Tryd.ntmps16
      go_wp2
      go_ret
      exact ⟨by rw [HN.out] <;> rfl, Below.refl _ _⟩

theorem fresh_at (n : Int) (t : ByteArray) (w : World) (ht : Tabs w) (h : frS n = t) : Calls Tryd.prog 16 #[.int .i64 n] w fun e w' => e = .returned (.string t) ∧ Below w.heap.size w w' := by
  subst h; exact fresh_any n w ht

set_option maxRecDepth 100000 in
theorem rfresh_any (n : Int) (w : World) : Calls Tryd.prog 17 #[.int .i64 n] w fun e w' => e = .returned (.string (frS n)) ∧ w = w' := by
  by_cases h0 : n < 0
  · have HN : Hid (frS n = ⟨#[]⟩) := Lib.hid (by rw [frS, if_neg (by omega)])
    go_enter Tryd.func17, Tryd.ntmps17
    go_wp2
    go_ret
    exact ⟨by rw [HN.out] <;> rfl, rfl⟩
  · by_cases h1 : n ≤ 2147483648
    · obtain ⟨k, rfl⟩ : ∃ k : Nat, n = k := ⟨n.toNat, by omega⟩
      obtain ⟨t, hte⟩ : ∃ t : ByteArray, t = ⟨(Lib.itoa k).toArray⟩ := ⟨_, rfl⟩
      have HN : Hid ((⟨#[76]⟩ : ByteArray) ++ t = frS k) := Lib.hid (by
        rw [frS, if_pos (by omega), app_eq, hte])
      have hl : t.size ≤ 11 := by
        rw [size_list, hte]
        exact itoa_len k (by omega)
      have HT := Lib.hid hte
      have hmx : ((1 : Nat) + t.size) ≤ maxLen := by unfold maxLen; omega
      have hmx2 : ((1 : Nat) + t.size) ≤ 9223372036854775807 := by omega
      clear h0 hte hl
      go_enter Tryd.func17, Tryd.ntmps17
      go_wp2_with (go_at_call 23; ((with_reducible refine (rformat_at _ t _ (by omega) (by omega) HT.out).mono ?_); rintro e w' ⟨rfl, rfl⟩))
      go_ret
      exact ⟨by rw [HN.out] <;> rfl, rfl⟩
    · have HN : Hid (frS n = ⟨#[]⟩) := Lib.hid (by rw [frS, if_neg (by omega)])
      go_enter Tryd.func17, Tryd.ntmps17
      go_wp2
      go_ret
      exact ⟨by rw [HN.out] <;> rfl, rfl⟩

theorem rfresh_at (n : Int) (t : ByteArray) (w : World) (h : frS n = t) : Calls Tryd.prog 17 #[.int .i64 n] w fun e w' => e = .returned (.string t) ∧ w = w' := by
  subst h; exact rfresh_any n w

/-! ### Valid -/
/-- Does it begin with a digit? -/
def d0 : List UInt8 → Bool
  | [] => false
  | c :: _ => dgt (c.toNat : Int)

/-- Is it an identifier? -/
def vd (s : ByteArray) : Bool := decide (1 ≤ s.size) && decide (s.size ≤ 32) && !d0 s.data.toList && !(rg s).2 && decide (wn s.data.toList = s.size)

theorem first_at (s : ByteArray) (h : 0 < s.size) : d0 s.data.toList = dgt ((s[0]'h).toNat : Int) := by
  have := drop_at s 0 h
  rw [List.drop_zero] at this
  rw [this]
  rfl

theorem wrap_byte (c : UInt8) : wrap32 (c.toNat : Int) = c.toNat := by
  have := c.toNat_lt
  unfold wrap32
  omega

set_option maxHeartbeats 1000000 in
set_option maxRecDepth 100000 in
theorem valid_any (s : ByteArray) (w : World) (ht : Regs w) : Calls Tryd.prog 10 #[.string s] w fun e w' => e = .returned (.bool (vd s)) ∧ Below w.heap.size w w' := by
  by_cases h0 : s.size = 0
  · have HV : Hid (vd s = false) := Lib.hid (by simp [vd, h0])
    go_enter Tryd.func10, Tryd.ntmps10
    go_wp2
    go_ret
    exact ⟨by rw [HV.out] <;> rfl, Below.refl _ _⟩
  · have hp : 0 < s.size := by omega
    by_cases h1 : 32 < s.size
    · have HV : Hid (vd s = false) := Lib.hid (by
        rw [vd, show decide (s.size ≤ 32) = false from by simp; omega]; simp)
      go_enter Tryd.func10, Tryd.ntmps10
      go_wp2
      go_ret
      exact ⟨by rw [HV.out] <;> rfl, Below.refl _ _⟩
    · have e1 : decide (1 ≤ s.size) = true := by simp; omega
      have e2 : decide (s.size ≤ 32) = true := by simp; omega
      have HF := Lib.hid (first_at s hp)
      have f1 : ((s.size : Int) == 0) = false := by rw [beq_eq_false_iff_ne]; omega
      have f2 : decide ((32 : Int) < (s.size : Int)) = false := by rw [decide_eq_false_iff_not]; omega
      cases hd : dgt ((s[0]'hp).toNat : Int) with
      | true =>
        have HD : Hid (dgt (wrap32 ((s[0]'hp).toNat : Int)) = true) := Lib.hid (by rw [wrap_byte]; exact hd)
        have HV : Hid (vd s = false) := Lib.hid (by rw [vd, HF.out, hd]; simp)
        clear hd e1 e2
        go_enter Tryd.func10, Tryd.ntmps10
        go_wp2_with (go_at_call 22; ((with_reducible refine (isDigit_at _ true _ HD.out).mono ?_); rintro e w' ⟨rfl, rfl⟩))
        go_ret
        exact ⟨by rw [HV.out] <;> rfl, Below.refl _ _⟩
      | false =>
        have HD : Hid (dgt (wrap32 ((s[0]'hp).toNat : Int)) = false) := Lib.hid (by rw [wrap_byte]; exact hd)
        obtain ⟨n, hn⟩ : ∃ n : Int, ((rg s).1 : Int) = n := ⟨_, rfl⟩
        have HG := Lib.hid hn
        cases hr : (rg s).2 with
        | true =>
          have HR := Lib.hid hr
          have HV : Hid (vd s = false) := Lib.hid (by rw [vd, hr]; simp)
          clear hd hn hr e1 e2
          go_enter Tryd.func10, Tryd.ntmps10
          go_wp2_with (first | (go_at_call 22; ((with_reducible refine (isDigit_at _ false _ HD.out).mono ?_); rintro e w' ⟨rfl, rfl⟩)) | (go_at_call 12; ((with_reducible refine (register_at s n true _ ht HG.out HR.out).mono ?_); rintro e w' ⟨rfl, rfl⟩)))
          go_ret
          exact ⟨by rw [HV.out] <;> rfl, Below.refl _ _⟩
        | false =>
          have HR := Lib.hid hr
          obtain ⟨m, hm⟩ : ∃ m : Nat, m = wn s.data.toList := ⟨_, rfl⟩
          have HM : Hid ((wn s.data.toList : Int) = (m : Int)) := Lib.hid (by rw [hm])
          have HV : Hid (vd s = decide (m = s.size)) := Lib.hid (by rw [vd, hr, HF.out, hd, e1, e2, hm]; simp)
          clear hd hn hr hm e1 e2
          by_cases hms : m = s.size
          · have HV2 : Hid (vd s = true) := Lib.hid (by rw [HV.out]; simpa using hms)
            go_enter Tryd.func10, Tryd.ntmps10
            go_wp2_with (first | (go_at_call 22; ((with_reducible refine (isDigit_at _ false _ HD.out).mono ?_); rintro e w' ⟨rfl, rfl⟩)) | (go_at_call 12; ((with_reducible refine (register_at s n false _ ht HG.out HR.out).mono ?_); rintro e w' ⟨rfl, rfl⟩)) | (go_at_call 20; ((with_reducible refine (word_at s m _ HM.out).mono ?_); rintro e w1 ⟨rfl, hb1⟩)))
            go_ret
            exact ⟨by rw [HV2.out] <;> rfl, hb1⟩
          · have HV2 : Hid (vd s = false) := Lib.hid (by rw [HV.out]; simpa using hms)
            have hne : ((m : Int) == (s.size : Int)) = false := by rw [beq_eq_false_iff_ne]; omega
            go_enter Tryd.func10, Tryd.ntmps10
            go_wp2_with (first | (go_at_call 22; ((with_reducible refine (isDigit_at _ false _ HD.out).mono ?_); rintro e w' ⟨rfl, rfl⟩)) | (go_at_call 12; ((with_reducible refine (register_at s n false _ ht HG.out HR.out).mono ?_); rintro e w' ⟨rfl, rfl⟩)) | (go_at_call 20; ((with_reducible refine (word_at s m _ HM.out).mono ?_); rintro e w1 ⟨rfl, hb1⟩)))
            go_ret
            exact ⟨by rw [HV2.out] <;> rfl, hb1⟩

theorem valid_at (s : ByteArray) (b : Bool) (w : World) (ht : Regs w) (h : vd s = b) : Calls Tryd.prog 10 #[.string s] w fun e w' => e = .returned (.bool b) ∧ Below w.heap.size w w' := by
  subst h; exact valid_any s w ht

set_option maxHeartbeats 2000000 in
set_option maxRecDepth 100000 in
theorem rvalid_any (s : ByteArray) (w : World) (hs : s.size ≤ 9223372036854775807) : Calls Tryd.prog 11 #[.string s] w fun e w' => e = .returned (.bool (vd s)) ∧ w = w' := by
  obtain ⟨n, hn⟩ : ∃ n : Int, ((rg s).1 : Int) = n := ⟨_, rfl⟩
  obtain ⟨r, hr⟩ : ∃ r : Bool, (rg s).2 = r := ⟨_, rfl⟩
  obtain ⟨m, hm⟩ : ∃ m : Nat, m = wn s.data.toList := ⟨_, rfl⟩
  have HG := Lib.hid hn
  have HR := Lib.hid hr
  have HM : Hid ((wn s.data.toList : Int) = (m : Int)) := Lib.hid (by rw [hm])
  by_cases h0 : s.size = 0
  · have HV : Hid (vd s = false) := Lib.hid (by simp [vd, h0])
    have f1 : decide ((1 : Int) ≤ (s.size : Int)) = false := by rw [decide_eq_false_iff_not]; omega
    clear hn hr hm
    go_enter Tryd.func11, Tryd.ntmps11
    go_wp2_with (go_at_call 13; ((with_reducible refine (rregister_at s n r _ HG.out HR.out).mono ?_); rintro e w' ⟨rfl, rfl⟩))
    go_ret
    exact ⟨by rw [HV.out] <;> rfl, rfl⟩
  · have hp : 0 < s.size := by omega
    have f1 : decide ((1 : Int) ≤ (s.size : Int)) = true := by rw [decide_eq_true_iff]; omega
    have e1 : decide (1 ≤ s.size) = true := by rw [decide_eq_true_iff]; omega
    by_cases h1 : 32 < s.size
    · have HV : Hid (vd s = false) := Lib.hid (by
        rw [vd, show decide (s.size ≤ 32) = false from by simp; omega]; simp)
      have f2 : decide ((s.size : Int) ≤ (32 : Int)) = false := by rw [decide_eq_false_iff_not]; omega
      clear hn hr hm
      go_enter Tryd.func11, Tryd.ntmps11
      go_wp2_with (go_at_call 13; ((with_reducible refine (rregister_at s n r _ HG.out HR.out).mono ?_); rintro e w' ⟨rfl, rfl⟩))
      go_ret
      exact ⟨by rw [HV.out] <;> rfl, rfl⟩
    · have f2 : decide ((s.size : Int) ≤ (32 : Int)) = true := by rw [decide_eq_true_iff]; omega
      have e2 : decide (s.size ≤ 32) = true := by rw [decide_eq_true_iff]; omega
      by_cases hms : m = s.size
      · obtain ⟨a, ha⟩ : ∃ a : Bool, decide ((48 : Int) ≤ ((s[0]'hp).toNat : Int)) = a := ⟨_, rfl⟩
        obtain ⟨b, hb⟩ : ∃ b : Bool, decide (((s[0]'hp).toNat : Int) ≤ 57) = b := ⟨_, rfl⟩
        have HV : Hid (vd s = (!(a && b) && !r)) := Lib.hid (by rw [vd, hr, first_at s hp, dgt, ha, hb, e1, e2, ← hm, hms]; simp)
        have f3 : ((m : Int) == (s.size : Int)) = true := by rw [beq_iff_eq, hms]
        clear hn hr hm e1 e2 hms
        cases a <;> cases b <;> cases r
        all_goals
          go_enter Tryd.func11, Tryd.ntmps11
          go_wp2_with (first | (go_at_call 13; ((with_reducible refine (rregister_at s n _ _ HG.out HR.out).mono ?_); rintro e w' ⟨rfl, rfl⟩)) | (go_at_call 21; ((with_reducible refine (rword_at s m _ hs HM.out).mono ?_); rintro e w' ⟨rfl, rfl⟩)))
          go_ret
          exact ⟨by rw [HV.out] <;> rfl, rfl⟩
      · have HV : Hid (vd s = false) := Lib.hid (by rw [vd, ← hm, show decide (m = s.size) = false from by simpa using hms]; simp)
        have f3 : ((m : Int) == (s.size : Int)) = false := by rw [beq_eq_false_iff_ne]; omega
        clear hn hr hm e1 e2
        go_enter Tryd.func11, Tryd.ntmps11
        go_wp2_with (first | (go_at_call 13; ((with_reducible refine (rregister_at s n _ _ HG.out HR.out).mono ?_); rintro e w' ⟨rfl, rfl⟩)) | (go_at_call 21; ((with_reducible refine (rword_at s m _ hs HM.out).mono ?_); rintro e w' ⟨rfl, rfl⟩)))
        go_ret
        exact ⟨by rw [HV.out] <;> rfl, rfl⟩

theorem rvalid_at (s : ByteArray) (b : Bool) (w : World) (hs : s.size ≤ 9223372036854775807) (h : vd s = b) : Calls Tryd.prog 11 #[.string s] w fun e w' => e = .returned (.bool b) ∧ w = w' := by
  subst h; exact rvalid_any s w hs
end Go.Proofs.YtkhpkgmckhlfcaaDoor
