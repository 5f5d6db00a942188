/- What the reference's Check returns. No condition but that the numbers are of their kinds. -/
import Derived.Test.YthebdblncafijaaDoorL4Rten
namespace Go.Proofs.YthebdblncafijaaDoor.L4
open Go.RowKit L3 L1

set_option maxHeartbeats 4000000 in
set_option maxRecDepth 100000 in
theorem rcheck_at (op : Int) (reg : Bool) (dst src off imm f : Int) (vD vS vO vI n z g y x : Bool) (w : World) (hf : frm (ix op) = f) (hD : uD f = vD) (hS : uS f reg = vS) (hO : uO f = vO) (hI : uI f reg = vI)
    (hn : decide (f < 0) = n) (hz : rZ f reg vD vS vO vI dst src off imm = z) (hg : (isG dst && isG src) = g) (hy : rY off = y) (hx : rX f imm = x) :
    Calls Tryd.prog 10 #[.agg #[.int .i64 op, .bool reg, .int .i64 dst, .int .i64 src, .int .i64 off, .int .i64 imm]] w fun e w' => e = .returned (.int .i64 (rchk n z g y x)) ∧ Below w.heap.size w w' := by
  have HF := Lib.hid hf
  have HD := Lib.hid hD
  have HS := Lib.hid hS
  have HO := Lib.hid hO
  have HI := Lib.hid hI
  have HZ := Lib.hid hz
  have HY := Lib.hid hy
  have HX := Lib.hid hx
  obtain ⟨a, ha⟩ : ∃ a, isG dst = a := ⟨_, rfl⟩
  obtain ⟨c, hc⟩ : ∃ c, isG src = c := ⟨_, rfl⟩
  rw [ha, hc] at hg
  have HA := Lib.hid ha
  have HC := Lib.hid hc
  subst hg
  clear hf hD hS hO hI hz hy hx ha hc
  cases n
  · go_enter Tryd.func10, Tryd.ntmps10
    go_upto_region 4 with (first | (go_at_call 28; ((with_reducible refine (rform_at op _ _ HF.out).mono ?_); rintro e w1 ⟨rfl, rfl⟩)))
    have hx0 : Ins6 (w.alloc (.cells #[.int .i64 op, .bool reg, .int .i64 dst, .int .i64 src, .int .i64 off, .int .i64 imm] 23)) w.heap.size op reg dst src off imm := ⟨heap_alloc_last _ _⟩
    have hb0 : Below w.heap.size w (w.alloc (.cells #[.int .i64 op, .bool reg, .int .i64 dst, .int .i64 src, .int .i64 off, .int .i64 imm] 23)) := bnew _ _
    generalize w.alloc (.cells #[.int .i64 op, .bool reg, .int .i64 dst, .int .i64 src, .int .i64 off, .int .i64 imm] 23) = W at hx0 hb0 ⊢
    go_cut [66] (fun c wx => c = .bool z ∧ Below w.heap.size w wx ∧ Hid (Ins6 wx w.heap.size op reg dst src off imm))
    case first =>
      refine wp_region_list ?_
      refine r4_at HF HD HS HO HI HZ.out (fun hb hx => ?_) _ hb0 hx0
      dsimp only
      go_wp2_with (fail)
      go_meet
      exact ⟨rfl, hb, Lib.hid hx⟩
    case rest =>
      obtain ⟨rfl, hbc, HXc⟩ := hcut
      obtain ⟨x0, x1, x2, x3, x4, x5⟩ := cells6 HXc.out.x
      cases z
      · cases a
        · go_wp2_with (first | (go_at_call 33; ((with_reducible refine (rreg_at _ _ _ HA.out).mono ?_); rintro e w1 ⟨rfl, rfl⟩)))
          go_ret
          exact ⟨rfl, hbc⟩
        · cases c
          · go_wp2_with (first | (go_at_call 33; ((with_reducible refine (rreg_at _ _ _ HA.out).mono ?_); rintro e w1 ⟨rfl, rfl⟩)) | (go_at_call 33; ((with_reducible refine (rreg_at _ _ _ HC.out).mono ?_); rintro e w1 ⟨rfl, rfl⟩)))
            go_ret
            exact ⟨rfl, hbc⟩
          · unfold rY at HY
            cases l1 : decide (off < -32768)
            · cases l2 : decide (32767 < off)
              · obtain rfl : y = false := by rw [← HY.out, l1, l2]; rfl
                go_wp2_with (first | (go_at_call 33; ((with_reducible refine (rreg_at _ _ _ HA.out).mono ?_); rintro e w1 ⟨rfl, rfl⟩)) | (go_at_call 33; ((with_reducible refine (rreg_at _ _ _ HC.out).mono ?_); rintro e w1 ⟨rfl, rfl⟩)))
                refine wp_region_noPanic ?_
                refine r10_at HX.out x5 (fun _ _ _ _ _ h => h) (Lib.hid ?_)
                intros
                dsimp only
                cases x
                · go_wp2
                  go_ret
                  exact ⟨rfl, below_drewN hbc 1⟩
                · go_wp2
                  go_ret
                  exact ⟨rfl, below_drewN hbc 1⟩
              · obtain rfl : y = true := by rw [← HY.out, l1, l2]; rfl
                go_wp2_with (first | (go_at_call 33; ((with_reducible refine (rreg_at _ _ _ HA.out).mono ?_); rintro e w1 ⟨rfl, rfl⟩)) | (go_at_call 33; ((with_reducible refine (rreg_at _ _ _ HC.out).mono ?_); rintro e w1 ⟨rfl, rfl⟩)))
                go_ret
                exact ⟨rfl, hbc⟩
            · obtain rfl : y = true := by rw [← HY.out, l1]; rfl
              go_wp2_with (first | (go_at_call 33; ((with_reducible refine (rreg_at _ _ _ HA.out).mono ?_); rintro e w1 ⟨rfl, rfl⟩)) | (go_at_call 33; ((with_reducible refine (rreg_at _ _ _ HC.out).mono ?_); rintro e w1 ⟨rfl, rfl⟩)))
              go_ret
              exact ⟨rfl, hbc⟩
      · go_wp2
        go_ret
        exact ⟨rfl, hbc⟩
  · go_enter Tryd.func10, Tryd.ntmps10
    go_wp2_with (first | (go_at_call 28; ((with_reducible refine (rform_at op _ _ HF.out).mono ?_); rintro e w1 ⟨rfl, rfl⟩)))
    go_ret
    exact ⟨rfl, bnew _ _⟩
end Go.Proofs.YthebdblncafijaaDoor.L4
