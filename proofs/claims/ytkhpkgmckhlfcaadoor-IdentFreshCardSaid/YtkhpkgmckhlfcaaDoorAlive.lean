/- The examples of the chapter hold (slotcodelaw02.alive returns true), where the tables read as the program's text lays them. -/
import Derived.Test.YtkhpkgmckhlfcaaDoorValid
import Derived.Test.YtkhpkgmckhlfcaaDoorRep
namespace Go.Proofs.YtkhpkgmckhlfcaaDoor
open Go.RowKit Go.Sort

theorem alive_r (w : World) (ht : Regs w) : Calls Tryd.prog 12 #[.string ⟨#[114, 49, 48]⟩] w fun e w' => e = .returned (.tuple #[.int .i64 10, .bool true]) ∧ w = w' :=
  register_at _ _ _ w ht (by decide) (by decide)
theorem alive_v1 (w : World) (ht : Regs w) : Calls Tryd.prog 10 #[.string ⟨#[108, 111, 111, 112]⟩] w fun e w' => e = .returned (.bool true) ∧ Below w.heap.size w w' := valid_at _ _ w ht (by decide)
theorem alive_v2 (w : World) (ht : Regs w) : Calls Tryd.prog 10 #[.string ⟨#[97, 46, 98]⟩] w fun e w' => e = .returned (.bool true) ∧ Below w.heap.size w w' := valid_at _ _ w ht (by decide)
theorem alive_v3 (w : World) (ht : Regs w) : Calls Tryd.prog 10 #[.string ⟨#[82, 49]⟩] w fun e w' => e = .returned (.bool true) ∧ Below w.heap.size w w' := valid_at _ _ w ht (by decide)
theorem alive_v4 (w : World) (ht : Regs w) : Calls Tryd.prog 10 #[.string ⟨#[114, 49]⟩] w fun e w' => e = .returned (.bool false) ∧ Below w.heap.size w w' := valid_at _ _ w ht (by decide)
theorem alive_v5 (w : World) (ht : Regs w) : Calls Tryd.prog 10 #[.string ⟨#[49, 97]⟩] w fun e w' => e = .returned (.bool false) ∧ Below w.heap.size w w' := valid_at _ _ w ht (by decide)
theorem alive_v6 (w : World) (ht : Regs w) : Calls Tryd.prog 10 #[.string ⟨#[]⟩] w fun e w' => e = .returned (.bool false) ∧ Below w.heap.size w w' := valid_at _ _ w ht (by decide)
theorem alive_v7 (w : World) (ht : Regs w) : Calls Tryd.prog 10 #[.string ⟨#[114, 49, 49]⟩] w fun e w' => e = .returned (.bool true) ∧ Below w.heap.size w w' := valid_at _ _ w ht (by decide)
theorem alive_n (w : World) (ht : Regs w) : Calls Tryd.prog 14 #[.int .i64 10] w fun e w' => e = .returned (.string ⟨#[114, 49, 48]⟩) ∧ w = w' := by
  have := name_any 10 w ht
  rwa [show nmS 10 = ⟨#[114, 49, 48]⟩ from by decide] at this
theorem alive_f (w : World) (ht : Tabs w) : Calls Tryd.prog 16 #[.int .i64 7] w fun e w' => e = .returned (.string ⟨#[76, 55]⟩) ∧ Below w.heap.size w w' :=
  fresh_at 7 _ w ht (by
    rw [frS, if_pos (by decide), show Lib.itoa 7 = [55] from by rw [Lib.itoa, if_neg (by decide), show (7 : Int).toNat = 7 from rfl, Lib.decDigits_one (by decide)]; rfl])
theorem alive_p (b cap : Nat) (w : World) (h : w.heap[b]? = some (.cells #[.string ⟨#[97]⟩, .string ⟨#[98]⟩, .string ⟨#[97]⟩] 9 (0, 0))) :
    Calls Tryd.prog 18 #[.slice (some ⟨b, 0, none⟩) 3 cap] w fun e w' => e = .returned (.int .i64 2) ∧ Below w.heap.size w w' := by
  have := rep_any (.slice (some ⟨b, 0, none⟩) 3 cap) [⟨#[97]⟩, ⟨#[98]⟩, ⟨#[97]⟩] w (by decide) (Or.inl ⟨b, 0, cap, rfl, lt_of_block h, fun j hj => by
    match j, hj with
    | 0, _ => simp [World.cell?, h]
    | 1, _ => simp [World.cell?, h]
    | 2, _ => simp [World.cell?, h]⟩) (fun s hs => by
      simp only [List.mem_cons, List.not_mem_nil, or_false] at hs
      rcases hs with rfl | rfl | rfl <;> decide)
  rwa [show rp [⟨#[97]⟩, ⟨#[98]⟩, ⟨#[97]⟩] = 2 from by decide] at this
theorem alive_w (w : World) : Calls Tryd.prog 20 #[.string ⟨#[97, 98, 32, 99]⟩] w fun e w' => e = .returned (.int .i64 2) ∧ Below w.heap.size w w' := word_at _ _ w (by decide)

set_option maxHeartbeats 4000000 in
set_option maxRecDepth 100000 in
theorem alive_any (w : World) (ht : Tabs w) : Calls Tryd.prog 9 #[] w fun e w' => e = .returned (.bool true) ∧ Below w.heap.size w w' := by
  go_enter Tryd.func9, Tryd.ntmps9
  go_wp2_with (first | (go_at_call 12; ((with_reducible refine (alive_r _ ht.reg).mono ?_); rintro e w' ⟨rfl, rfl⟩)) | (go_at_call 10; ((with_reducible refine (alive_v1 _ ht.reg).mono ?_); rintro e w1 ⟨rfl, hb1⟩)))
  have ht1 := ht.below hb1
  go_wp2_with (go_at_call 10; ((with_reducible refine (alive_v2 _ ht1.reg).mono ?_); rintro e w2 ⟨rfl, hb2⟩))
  have ht2 := ht1.below hb2
  go_wp2_with (go_at_call 10; ((with_reducible refine (alive_v3 _ ht2.reg).mono ?_); rintro e w3 ⟨rfl, hb3⟩))
  have ht3 := ht2.below hb3
  go_wp2_with (go_at_call 10; ((with_reducible refine (alive_v4 _ ht3.reg).mono ?_); rintro e w4 ⟨rfl, hb4⟩))
  have ht4 := ht3.below hb4
  go_wp2_with (go_at_call 10; ((with_reducible refine (alive_v5 _ ht4.reg).mono ?_); rintro e w5 ⟨rfl, hb5⟩))
  have ht5 := ht4.below hb5
  go_wp2_with (go_at_call 10; ((with_reducible refine (alive_v6 _ ht5.reg).mono ?_); rintro e w6 ⟨rfl, hb6⟩))
  have ht6 := ht5.below hb6
  go_wp2_with (go_at_call 10; ((with_reducible refine (alive_v7 _ ht6.reg).mono ?_); rintro e w7 ⟨rfl, hb7⟩))
  have ht7 := ht6.below hb7
  go_wp2_with (first | (go_at_call 14; ((with_reducible refine (alive_n _ ht7.reg).mono ?_); rintro e w' ⟨rfl, rfl⟩)) | (go_at_call 16; ((with_reducible refine (alive_f _ ht7).mono ?_); rintro e w8 ⟨rfl, hb8⟩)))
  have ht8 := ht7.below hb8
  go_wp2_with (go_at_call 18; ((with_reducible refine (alive_p w8.heap.size 3 _ (heap_alloc_new _ _)).mono ?_); rintro e w9 ⟨rfl, hb9⟩))
  go_wp2_with (go_at_call 20; ((with_reducible refine (alive_w _).mono ?_); rintro e w10 ⟨rfl, hb10⟩))
  go_ret
  exact ⟨rfl, bch (bch (bch (bch (bch (bch (bch (bch hb1 hb2) hb3) hb4) hb5) hb6) hb7) hb8) (bch (bch ((Below.refl _ _).alloc (Nat.le_refl _) _) hb9) hb10)⟩
end Go.Proofs.YtkhpkgmckhlfcaaDoor
