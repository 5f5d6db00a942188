/- What Valid and Fresh return, the program's and the reference's, where the tables read as the program's text lays them. -/
import Derived.Test.YtbneaihpnfkcdaaDoorL2Names
import Derived.Test.YtbneaihpnfkcdaaDoorProg
import Derived.Lib.Strings
namespace Go.Proofs.YtbneaihpnfkcdaaDoor.L2
open Go.RowKit Go.Sort

/-- The tables that the laws read, as the program's text lays them. -/
structure Tabs (w : World) : Prop where
  reg : Regs w
  tab : Lib.TabIs Tryd.prog w "internal/strconv.uint64pow10" .u64 Lib.pow10Tab
  two : 2 < w.heap.size

theorem gPow : Tryd.prog.globalNamed "internal/strconv.uint64pow10" = some 2 := by kernel_rfl

theorem Regs.lt {w : World} (h : Regs w) : 0 < w.heap.size := by
  obtain ⟨t, fr, hg⟩ := h
  exact lt_of_block hg

theorem Regs.below {w w' : World} (h : Regs w) (hb : Below w.heap.size w w') : Regs w' := by
  have hlt := h.lt
  obtain ⟨t, fr, hg⟩ := h
  exact ⟨t, fr, (hb.block 0 hlt).trans hg⟩

theorem Tabs.below {w w' : World} (h : Tabs w) (hb : Below w.heap.size w w') : Tabs w' :=
  ⟨h.reg.below hb, var?_below hb gPow h.two h.tab, Nat.lt_of_lt_of_le h.two hb.size⟩

theorem Tabs.alloc {w : World} (h : Tabs w) (o : Obj) : Tabs (w.alloc o) := h.below ((Below.refl _ _).alloc (Nat.le_refl _) o)

theorem below_grow {w : World} {k : Nat} {os : Array Obj} : Below w.heap.size w (grow (w.drewN k) os) :=
  ⟨rfl, rfl, rfl, by simp [grow], fun k' hk => heap_grow_old (w.drewN k) os hk⟩

/-! ### Fresh -/
/-- The label with a number, or the empty text. -/
def frS (n : Int) : ByteArray := if 0 ≤ n ∧ n ≤ 2147483648 then ⟨(76 :: Lib.itoa n).toArray⟩ else ⟨#[]⟩

/-! ### Valid -/
/-- Does it begin with a digit? -/
def d0 : List UInt8 → Bool
  | [] => false
  | c :: _ => dgt (c.toNat : Int)

/-- Is it an identifier? -/
def vd (s : ByteArray) : Bool := decide (1 ≤ s.size) && decide (s.size ≤ 32) && !d0 s.data.toList && !(rg s).2 && decide (wn s.data.toList = s.size)

theorem first_at (s : ByteArray) (h : 0 < s.size) : d0 s.data.toList = dgt ((s[0]'h).toNat : Int) := by
  have := drop_at s 0 h
  rw [List.drop_zero] at this
  rw [this]
  rfl

theorem wrap_byte (c : UInt8) : wrap32 (c.toNat : Int) = c.toNat := by
  have := c.toNat_lt
  unfold wrap32
  omega

set_option maxHeartbeats 1000000 in
set_option maxRecDepth 100000 in
theorem valid_any (s : ByteArray) (w : World) (ht : Regs w) : Calls Tryd.prog 75 #[.string s] w fun e w' => e = .returned (.bool (vd s)) ∧ Below w.heap.size w w' := by
  by_cases h0 : s.size = 0
  · have HV : Hid (vd s = false) := Lib.hid (by simp [vd, h0])
    go_enter Tryd.func75, Tryd.ntmps75
    go_wp2
    go_ret
    exact ⟨by rw [HV.out] <;> rfl, Below.refl _ _⟩
  · have hp : 0 < s.size := by omega
    by_cases h1 : 32 < s.size
    · have HV : Hid (vd s = false) := Lib.hid (by
        rw [vd, show decide (s.size ≤ 32) = false from by simp; omega]; simp)
      go_enter Tryd.func75, Tryd.ntmps75
      go_wp2
      go_ret
      exact ⟨by rw [HV.out] <;> rfl, Below.refl _ _⟩
    · have e1 : decide (1 ≤ s.size) = true := by simp; omega
      have e2 : decide (s.size ≤ 32) = true := by simp; omega
      have HF := Lib.hid (first_at s hp)
      have f1 : ((s.size : Int) == 0) = false := by rw [beq_eq_false_iff_ne]; omega
      have f2 : decide ((32 : Int) < (s.size : Int)) = false := by rw [decide_eq_false_iff_not]; omega
      cases hd : dgt ((s[0]'hp).toNat : Int) with
      | true =>
        have HD : Hid (dgt (wrap32 ((s[0]'hp).toNat : Int)) = true) := Lib.hid (by rw [wrap_byte]; exact hd)
        have HV : Hid (vd s = false) := Lib.hid (by rw [vd, HF.out, hd]; simp)
        clear hd e1 e2
        go_enter Tryd.func75, Tryd.ntmps75
        go_wp2_with (go_at_call 83; ((with_reducible refine (isDigit_at _ true _ HD.out).mono ?_); rintro e w' ⟨rfl, rfl⟩))
        go_ret
        exact ⟨by rw [HV.out] <;> rfl, Below.refl _ _⟩
      | false =>
        have HD : Hid (dgt (wrap32 ((s[0]'hp).toNat : Int)) = false) := Lib.hid (by rw [wrap_byte]; exact hd)
        obtain ⟨n, hn⟩ : ∃ n : Int, ((rg s).1 : Int) = n := ⟨_, rfl⟩
        have HG := Lib.hid hn
        cases hr : (rg s).2 with
        | true =>
          have HR := Lib.hid hr
          have HV : Hid (vd s = false) := Lib.hid (by rw [vd, hr]; simp)
          clear hd hn hr e1 e2
          go_enter Tryd.func75, Tryd.ntmps75
          go_wp2_with (first | (go_at_call 83; ((with_reducible refine (isDigit_at _ false _ HD.out).mono ?_); rintro e w' ⟨rfl, rfl⟩)) | (go_at_call 84; ((with_reducible refine (register_at s n true _ ht HG.out HR.out).mono ?_); rintro e w' ⟨rfl, rfl⟩)))
          go_ret
          exact ⟨by rw [HV.out] <;> rfl, Below.refl _ _⟩
        | false =>
          have HR := Lib.hid hr
          obtain ⟨m, hm⟩ : ∃ m : Nat, m = wn s.data.toList := ⟨_, rfl⟩
          have HM : Hid ((wn s.data.toList : Int) = (m : Int)) := Lib.hid (by rw [hm])
          have HV : Hid (vd s = decide (m = s.size)) := Lib.hid (by rw [vd, hr, HF.out, hd, e1, e2, hm]; simp)
          clear hd hn hr hm e1 e2
          by_cases hms : m = s.size
          · have HV2 : Hid (vd s = true) := Lib.hid (by rw [HV.out]; simpa using hms)
            go_enter Tryd.func75, Tryd.ntmps75
            go_wp2_with (first | (go_at_call 83; ((with_reducible refine (isDigit_at _ false _ HD.out).mono ?_); rintro e w' ⟨rfl, rfl⟩)) | (go_at_call 84; ((with_reducible refine (register_at s n false _ ht HG.out HR.out).mono ?_); rintro e w' ⟨rfl, rfl⟩)) | (go_at_call 85; ((with_reducible refine (word_at s m _ HM.out).mono ?_); rintro e w1 ⟨rfl, hb1⟩)))
            go_ret
            exact ⟨by rw [HV2.out] <;> rfl, hb1⟩
          · have HV2 : Hid (vd s = false) := Lib.hid (by rw [HV.out]; simpa using hms)
            have hne : ((m : Int) == (s.size : Int)) = false := by rw [beq_eq_false_iff_ne]; omega
            go_enter Tryd.func75, Tryd.ntmps75
            go_wp2_with (first | (go_at_call 83; ((with_reducible refine (isDigit_at _ false _ HD.out).mono ?_); rintro e w' ⟨rfl, rfl⟩)) | (go_at_call 84; ((with_reducible refine (register_at s n false _ ht HG.out HR.out).mono ?_); rintro e w' ⟨rfl, rfl⟩)) | (go_at_call 85; ((with_reducible refine (word_at s m _ HM.out).mono ?_); rintro e w1 ⟨rfl, hb1⟩)))
            go_ret
            exact ⟨by rw [HV2.out] <;> rfl, hb1⟩

theorem valid_at (s : ByteArray) (b : Bool) (w : World) (ht : Regs w) (h : vd s = b) : Calls Tryd.prog 75 #[.string s] w fun e w' => e = .returned (.bool b) ∧ Below w.heap.size w w' := by
  subst h; exact valid_any s w ht

end Go.Proofs.YtbneaihpnfkcdaaDoor.L2
