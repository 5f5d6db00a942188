/- The law 'each token stands in the line at its place' returns true, if the program's Tokens returns the tokens and the examples hold. -/
import Derived.Test.YtdpdeelnabomlaaL8Leq
namespace Go.Proofs.Ytdpdeelnabomlaa.L8
open Go.RowKit L2
attribute [local go_sem] Oper.semAt_some

theorem tkX_get (s : ByteArray) (ts : List (Nat × Nat)) (j : Nat) (h : j < ts.length) (h2 : j < (tkX s ts).length) : (tkX s ts)[j] = (s.extract ts[j].1 ts[j].2, (ts[j].1 : Int)) := by simp [tkX]
theorem ext_size (s : ByteArray) (i j : Nat) (h : i ≤ j) (h2 : j ≤ s.size) : (s.extract i j).size = j - i := by
  rw [← size_list, ext_list, List.length_take, List.length_drop, size_list]; omega
theorem lplaces_pre (s : ByteArray) (i j : Nat) : Lib.hasPrefix (s.extract i s.size).data.toList (s.extract i j).data.toList = true := by
  rw [ext_rest, ext_list]
  exact cut_prefix s.data.toList (i, j)
set_option maxHeartbeats 4000000 in
set_option maxRecDepth 100000 in
theorem lplaces_long (HA : Alive8) (s : ByteArray) (h : 3000 < s.size) (w : World) : Calls Try.prog 7 #[.string s] w fun e w' => e = .returned (.bool true) ∧ Below w.heap.size w w' := by
  have HH := Lib.hid HA
  clear HA
  have h' : (3000 : Int) < (s.size : Int) := by omega
  go_enter Try.func7, Try.ntmps7
  go_wp2_with (go_at_call 9; ((with_reducible refine (HH.out _).mono ?_); rintro e w1 ⟨rfl, b1⟩))
  go_ret
  exact ⟨rfl, b1⟩
set_option maxHeartbeats 4000000 in
set_option maxRecDepth 100000 in
theorem lplaces_bad (HT : Toks8) (HA : Alive8) (s : ByteArray) (h : s.size ≤ 3000) (hb : 0 ≤ bad s) (w : World) : Calls Try.prog 7 #[.string s] w fun e w' => e = .returned (.bool true) ∧ Below w.heap.size w w' := by
  have HH := Lib.hid HA
  have H1 := Lib.hid (fun w => (HT s w (by omega)).mono fun e w' h => PT_bad hb h)
  clear HA HT
  generalize bad s = q at hb H1
  have h' : ¬ (3000 : Int) < (s.size : Int) := by omega
  go_enter Try.func7, Try.ntmps7
  go_wp2_with (go_at_call 10; ((with_reducible refine (H1.out _).mono ?_); rintro e w1 ⟨a, cap, rfl, b1⟩))
  refine wp_loop_rounds 1 ?_
  rw [rounds_succ]
  go_wp2_with (go_at_call 9; ((with_reducible refine (HH.out _).mono ?_); rintro e w3 ⟨rfl, b3⟩))
  go_ret
  exact ⟨rfl, bch b1 b3⟩
set_option maxHeartbeats 4000000 in
set_option maxRecDepth 100000 in
theorem lplaces_ok (HT : Toks8) (HA : Alive8) (s : ByteArray) (h : s.size ≤ 3000) (hb : bad s = -1) (w : World) : Calls Try.prog 7 #[.string s] w fun e w' => e = .returned (.bool true) ∧ Below w.heap.size w w' := by
  have HH := Lib.hid HA
  have H1 := Lib.hid (fun w => (HT s w (by omega)).mono fun e w' h => PT_ok hb h)
  have hn : (tks s).length ≤ 3000 := Nat.le_trans (tks_len s) h
  have hch := Lib.hid (tks_chain s)
  have hpl := Lib.hid (tks_places s)
  obtain ⟨ts, hts⟩ : ∃ ts, tks s = ts := ⟨_, rfl⟩
  rw [hts] at H1 hn hch hpl
  obtain ⟨n, hn2⟩ : ∃ n, ts.length = n := ⟨_, rfl⟩
  rw [hn2] at H1 hn
  have HL := Lib.hid hn2
  clear HA HT hb hts hn2
  have h' : ¬ (3000 : Int) < (s.size : Int) := by omega
  go_enter Try.func7, Try.ntmps7
  go_wp2_with (go_at_call 10; ((with_reducible refine (H1.out _).mono ?_); rintro e w1 ⟨a1, cap1, rfl, hv1, b1⟩))
  have V1 := Lib.hid hv1
  clear hv1
  go_loopw [6, 21] (fun en i wr => ∃ j f : Nat, i = .int .i64 (j : Int) ∧ en = .int .i64 (f : Int) ∧ j ≤ n ∧ Hid (Chain f (ts.drop j)) ∧ Below w1.heap.size w1 wr) (fun _ i _ => n - (intOf i).toNat)
  case atStart => exact ⟨0, 0, rfl, rfl, Nat.zero_le _, Lib.hid hch.out, Below.refl _ _⟩
  case round =>
    obtain ⟨j, f, rfl, rfl, hj, hC, hB⟩ := hrel
    by_cases hlt : j < n
    · have hjt : j < ts.length := by rw [HL.out]; exact hlt
      obtain ⟨c1, o1, rfl, _, l1, hx1, t1⟩ := (V1.out.below hB).get (by omega)
      have hjx : j < (tkX s ts).length := by rw [hx1]; exact hlt
      obtain ⟨T, q, e1, p1, p2⟩ := TksAt.cells t1 j hjx
      rw [tkX_get s ts j hjt hjx] at e1
      have hc := hC.out
      rw [List.drop_eq_getElem_cons hjt] at hc
      obtain ⟨k1, k2, k3⟩ := hc
      have hp := hpl.out ts[j] (List.getElem_mem hjt)
      obtain ⟨x, y, hxy⟩ : ∃ x y, ts[j] = (x, y) := ⟨_, _, rfl⟩
      rw [hxy] at e1 k1 k2 k3 hp
      obtain ⟨rfl, rfl⟩ : s.extract x y = T ∧ (x : Int) = q := by simpa using e1
      have hy : y ≤ s.size := by
        have := hp.2.2.1
        rw [size_list, Nat.zero_add] at this
        exact this
      simp only at k1 k2 k3
      have hsz := ext_size s x y (by omega) hy
      have hpr := lplaces_pre s x y
      have hxs : ¬ (s.size : Int) < (x : Int) := by omega
      have hxf : ¬ (x : Int) < (f : Int) := by omega
      obtain ⟨U, hU⟩ : ∃ U, s.extract x s.size = U := ⟨_, rfl⟩
      have hsl : ∀ w, (Instr.slice 9 (.string s) (some (.int .i64 (x : Int))) none none).run Try.prog w = .ok (.string U) w := fun w => by
        rw [run_slice_string_from_if w 9 s .i64 x Try.underlying9, if_pos (by omega), ← hU]; rfl
      rw [hU] at hpr
      generalize s.extract x y = T at p1 hsz hpr
      have HP := Lib.hid (fun w => Try.strings_HasPrefix U T w)
      rw [hpr] at HP
      have hTn : T.toList.isEmpty = false := by
        rw [Lib.toList_data]
        cases hl : T.data.toList with
        | nil => have := size_list T; rw [hl] at this; simp at this; omega
        | cons _ _ => rfl
      clear hU hpr hp hxy e1 t1 hC
      have K3 := Lib.hid k3
      clear k3
      go_upto_region 8 with (fail)
      have hx := heap_alloc_last wr (.cells #[.string T, .int .i64 (x : Int)] 31)
      have b0 := bnew wr (.cells #[.string T, .int .i64 (x : Int)] 31)
      obtain ⟨x0, x1⟩ := cells2 hx
      have B0 := bch hB b0
      generalize wr.heap.size = g at x0 x1 ⊢
      generalize wr.alloc (.cells _ 31) = W1 at x0 x1 B0 ⊢
      clear p1 p2 hx b0
      go_quiet ((go_at_call 20; refine Calls.quiet_of_same ((HP.out _).mono fun e w' h => ⟨h.1, h.2⟩)))
      go_wp2
      go_roundw
      case rel => exact ⟨j + 1, y, by go_num, by congr 1; omega, by omega, K3, bdN B0 _⟩
      case measure => simp [intOf]; omega
    · obtain rfl : j = n := by omega
      go_wp2_with (go_at_call 9; ((with_reducible refine (HH.out _).mono ?_); rintro e w3 ⟨rfl, b3⟩))
      go_ret
      exact ⟨rfl, bch (bch b1 hB) b3⟩
theorem lplaces_walk (HT : Toks8) (HA : Alive8) (s : ByteArray) (_ : s.size ≤ maxLen) (w : World) : Calls Try.prog 7 #[.string s] w fun e w' => e = .returned (.bool true) ∧ Below w.heap.size w w' := by
  by_cases h : 3000 < s.size
  · exact lplaces_long HA s h w
  · rcases bad_cases s with hb | hb
    · exact lplaces_ok HT HA s (by omega) hb w
    · exact lplaces_bad HT HA s (by omega) hb w
end Go.Proofs.Ytdpdeelnabomlaa.L8
