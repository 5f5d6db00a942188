/- What the reference's Lines returns: the lines of a text, by their places. No condition but that the text has at most 100000 bytes. -/
import Derived.Test.YtdpdeelnabomlaaL8Rshp
namespace Go.Proofs.Ytdpdeelnabomlaa.L8
open Go.RowKit L2
attribute [local go_sem] Oper.semAt_some

/-- The texts at places. -/
def exX (s : ByteArray) (l : List (Nat × Nat)) : List ByteArray := l.map fun p => s.extract p.1 p.2
theorem exX_snoc (s : ByteArray) (l : List (Nat × Nat)) (p : Nat × Nat) : exX s (l ++ [p]) = exX s l ++ [s.extract p.1 p.2] := by simp [exX]
/-- The lines of a text. -/
def lns (s : ByteArray) : List ByteArray := exX s (ln 0 0 s.data.toList)

set_option maxHeartbeats 4000000 in
set_option maxRecDepth 100000 in
theorem rlines_any (s : ByteArray) (hs : s.size ≤ 100000) (w : World) : Calls Try.prog 18 #[.string s] w fun e w' => StP w (lns s) e w' := by
  obtain ⟨i0, hi, hz0, hz1, hz2⟩ := info_parts Try.info9
  go_enter Try.func18, Try.ntmps18
  go_wp2
  go_loopw [3, 4, 5] (fun b f a wr => ∃ (pre : List (Nat × Nat)) (i fr m : Nat), a = .int .i64 (i : Int) ∧ f = .int .i64 (fr : Int) ∧ fr ≤ i ∧ i ≤ s.size ∧ m ≤ i ∧ wr.ownsRow w.heap.size 9 1 b m (stC (exX s pre)) ∧ Hid (pre.length = m) ∧ Hid (ln 0 0 s.data.toList = pre ++ ln i fr (s.data.toList.drop i)) ∧ Below w.heap.size w wr) (fun _ _ a _ => s.size - (intOf a).toNat)
  case atStart => exact ⟨[], 0, 0, 0, rfl, rfl, Nat.le_refl _, by omega, by omega, World.ownsRow_nil _ _ _ _, Lib.hid rfl, Lib.hid (by simp), Below.refl _ _⟩
  case round =>
    obtain ⟨pre, i, fr, m, rfl, rfl, hfr, hi1, hm, hown, hP, hR, hBw⟩ := hrel
    have hsz := hBw.size
    by_cases hlt : i < s.size
    · have hE := drop_at s i hlt
      have hR1 := hR.out
      rw [hE] at hR1
      obtain ⟨c, hc⟩ : ∃ c, s[i]'hlt = c := ⟨_, rfl⟩
      have hix : ∀ w, (Instr.index 9 (.string s) (.int .i64 (i : Int))).run Try.prog w = .ok (.int .u8 (c.toNat : Int)) w := fun w => by
        rw [run_index_string w 9 s .i64 i Try.underlying9, dif_pos (by omega), ← hc]; rfl
      rw [hc] at hR1
      by_cases h10 : c = 10
      · subst h10
        have t1 : (((10 : UInt8).toNat : Int) == 10) = true := rfl
        obtain ⟨U, hU⟩ : ∃ U, s.extract fr i = U := ⟨_, rfl⟩
        have hsu : ∀ w, (Instr.slice 9 (.string s) (some (.int .i64 (fr : Int))) (some (.int .i64 (i : Int))) none).run Try.prog w = .ok (.string U) w := fun w => by
          rw [run_slice_string w 9 s .i64 .i64 fr i Try.underlying9 (by omega) (by omega) (by omega), ← hU]; rfl
        have HR1 := Lib.hid (show ln 0 0 s.data.toList = (pre ++ [(fr, i)]) ++ ln (i + 1) (i + 1) (s.data.toList.drop (i + 1)) by rw [hR1]; simp [ln])
        have HU := Lib.hid hU
        clear hR1 hU hE hc hR
        go_wp2_with (at_builtin; refine wpList_append_own _ rfl _ _ 37 rfl w.heap.size 9 i0 (.string ⟨#[]⟩) 1 16 Try.underlying37 hi hz0 hz1 hz2 rfl (by decide) _ m _ rfl (hown.alloc _) ⟨wr.heap.size, 0, none⟩ 1 1 [.string U] rfl rfl (World.news_of_block (cs := #[.string U]) (t := 9) (fr := (0, 0)) (heap_alloc_last wr _)) (by simp [Value.oneCell']) (by unfold maxLen; omega) (by omega) (by simp; omega) ?_; intro v' w3 hown3 hgrow3 _)
        go_roundw
        case rel =>
          refine ⟨pre ++ [(fr, i)], i + 1, i + 1, m + 1, by go_num, by go_num, by omega, by omega, by omega, ?_, Lib.hid ?_, HR1, ?_⟩
          · rw [exX_snoc, HU.out, stC_snoc]; exact hown3
          · rw [List.length_append, hP.out]; rfl
          · exact (hBw.alloc hsz _).grown hgrow3 (by simp; omega) (own_base hown)
        case measure => simp [intOf]; omega
      · have t1 : ((c.toNat : Int) == 10) = false := by
          rw [beq_eq_false_iff_ne]
          intro h
          have h2 : c.toNat = 10 := by omega
          exact h10 (UInt8.toNat_inj.1 h2)
        have HR1 := Lib.hid (show ln 0 0 s.data.toList = pre ++ ln (i + 1) fr (s.data.toList.drop (i + 1)) by rw [hR1]; simp [ln, h10])
        clear hR1 hE hc hR h10
        go_wp2
        go_roundw
        case rel => exact ⟨pre, i + 1, fr, m, by go_num, rfl, by omega, by omega, by omega, hown, hP, HR1, hBw⟩
        case measure => simp [intOf]; omega
    · obtain rfl : i = s.size := by omega
      have hl : s.data.toList.drop s.size = [] := List.drop_eq_nil_of_le (by rw [Array.length_toList]; exact Nat.le_refl _)
      have hR1 := hR.out
      rw [hl] at hR1
      by_cases hf : fr < s.size
      · obtain ⟨U, hU⟩ : ∃ U, s.extract fr s.size = U := ⟨_, rfl⟩
        have hsu : ∀ w, (Instr.slice 9 (.string s) (some (.int .i64 (fr : Int))) none none).run Try.prog w = .ok (.string U) w := fun w => by
          rw [run_slice_string_from_if w 9 s .i64 fr Try.underlying9, if_pos (by omega), ← hU]; rfl
        have HS := Lib.hid (show lns s = exX s pre ++ [U] by unfold lns; rw [hR1, ln, if_pos hf, exX_snoc, hU])
        have HL := Lib.hid (show (exX s pre).length = m by rw [← hP.out]; simp [exX])
        clear hU hR1 hl hR
        go_wp2_with (at_builtin; refine wpList_append_own _ rfl _ _ 37 rfl w.heap.size 9 i0 (.string ⟨#[]⟩) 1 16 Try.underlying37 hi hz0 hz1 hz2 rfl (by decide) _ m _ rfl (hown.alloc _) ⟨wr.heap.size, 0, none⟩ 1 1 [.string U] rfl rfl (World.news_of_block (cs := #[.string U]) (t := 9) (fr := (0, 0)) (heap_alloc_last wr _)) (by simp [Value.oneCell']) (by unfold maxLen; omega) (by omega) (by simp; omega) ?_; intro v' w3 hown3 hgrow3 _)
        obtain ⟨va, vc, rfl⟩ := owns_slice hown3
        go_wp2
        go_ret
        refine ⟨⟨_, rfl, ?_⟩, (hBw.alloc hsz _).grown hgrow3 (by simp; omega) (own_base hown)⟩
        rw [HS.out, List.length_append, HL.out, stC_snoc]; exact hown3
      · have HS := Lib.hid (show lns s = exX s pre by unfold lns; rw [hR1, ln, if_neg hf, List.append_nil])
        have HL := Lib.hid (show (exX s pre).length = m by rw [← hP.out]; simp [exX])
        clear hR1 hl hR
        obtain ⟨va, vc, rfl⟩ := owns_slice hown
        go_wp2
        go_ret
        refine ⟨⟨_, rfl, ?_⟩, hBw⟩
        rw [HS.out, HL.out]; exact hown
end Go.Proofs.Ytdpdeelnabomlaa.L8
