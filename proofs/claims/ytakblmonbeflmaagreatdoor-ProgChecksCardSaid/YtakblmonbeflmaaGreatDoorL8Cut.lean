/- What strings.Cut returns at a line feed: the bytes ahead of the first line feed and those behind it. No condition but that the text has at most 100000 bytes. -/
import Derived.Test.YtakblmonbeflmaaGreatDoorM6
import Derived.Lib.Bytealg
import Derived.Test.YtakblmonbeflmaaGreatDoorM5
namespace Go.Proofs.YtakblmonbeflmaaGreatDoor.L8
open Go.RowKit L2
attribute [local go_sem] Oper.semAt_some

/-- The bytes ahead of the first line feed; those behind it. -/
def hdl : List UInt8 → List UInt8
  | [] => []
  | c :: r => if c == 10 then [] else c :: hdl r
def tll : List UInt8 → List UInt8
  | [] => []
  | c :: r => if c == 10 then r else tll r
theorem hdl_le : ∀ l, (hdl l).length ≤ l.length
  | [] => Nat.le_refl _
  | c :: r => by
    have := hdl_le r
    unfold hdl; split <;> simp <;> omega
theorem tll_lt : ∀ l, l ≠ [] → (tll l).length < l.length
  | [], h => absurd rfl h
  | c :: r, _ => by
    unfold tll
    split
    · simp
    · cases r with
      | nil => simp [tll]
      | cons a r => have := tll_lt (a :: r) (by simp); simp only [List.length_cons] at this ⊢; omega
/-- The lines, one byte after the other; a: the line's bytes till now. -/
def lsx : List UInt8 → List UInt8 → List (List UInt8)
  | a, [] => if a = [] then [] else [a]
  | a, c :: r => if c == 10 then a :: lsx [] r else lsx (a ++ [c]) r
theorem lsx_step : ∀ (l a : List UInt8), a ++ l ≠ [] → lsx a l = (a ++ hdl l) :: lsx [] (tll l)
  | [], a, h => by
    have ha : a ≠ [] := by simpa using h
    simp [lsx, hdl, tll, ha]
  | c :: r, a, _ => by
    by_cases hc : (c == 10) = true
    · have e1 : lsx a (c :: r) = a :: lsx [] r := by rw [lsx, if_pos hc]
      have e2 : hdl (c :: r) = [] := by rw [hdl, if_pos hc]
      have e3 : tll (c :: r) = r := by rw [tll, if_pos hc]
      rw [e1, e2, e3, List.append_nil]
    · have e1 : lsx a (c :: r) = lsx (a ++ [c]) r := by rw [lsx, if_neg hc]
      have e2 : hdl (c :: r) = c :: hdl r := by rw [hdl, if_neg hc]
      have e3 : tll (c :: r) = tll r := by rw [tll, if_neg hc]
      rw [e1, e2, e3, lsx_step r (a ++ [c]) (by simp), List.append_assoc]; rfl
theorem ln_lsx (L : List UInt8) : ∀ (l a : List UInt8) (i fr : Nat), L.drop fr = a ++ l → i = fr + a.length → (ln i fr l).map (fun p => (L.drop p.1).take (p.2 - p.1)) = lsx a l
  | [], a, i, fr, h, hi => by
    rw [List.append_nil] at h
    unfold ln lsx
    by_cases ha : a = []
    · subst ha
      rw [if_pos rfl, if_neg (by simp at hi; omega)]; rfl
    · have : 0 < a.length := List.length_pos_iff.2 ha
      rw [if_neg ha, if_pos (by omega)]
      simp only [List.map_cons, List.map_nil, h]
      rw [List.take_of_length_le (by omega)]
  | c :: r, a, i, fr, h, hi => by
    unfold ln lsx
    by_cases hc : (c == 10) = true
    · rw [if_pos hc, if_pos hc]
      simp only [List.map_cons, h]
      rw [show i - fr = a.length by omega, List.take_left, ln_lsx L r [] (i + 1) (i + 1) ?_ (by simp)]
      rw [List.nil_append, hi, Nat.add_assoc, ← List.drop_drop, h, ← List.drop_drop, List.drop_left]; rfl
    · rw [if_neg hc, if_neg hc]
      exact ln_lsx L r (a ++ [c]) (i + 1) fr (by rw [h]; simp) (by simp; omega)
def mkB (l : List UInt8) : ByteArray := ⟨l.toArray⟩
theorem mkB_of (s : ByteArray) : mkB s.data.toList = s := by unfold mkB; rw [Array.toArray_toList]
theorem mkB_list (l : List UInt8) : (mkB l).data.toList = l := by simp [mkB]
theorem mkB_size (l : List UInt8) : (mkB l).size = l.length := by rw [← size_list, mkB_list]
theorem lns_lsx (s : ByteArray) : lns s = (lsx [] s.data.toList).map mkB := by
  rw [← ln_lsx s.data.toList s.data.toList [] 0 0 (by simp) rfl, List.map_map]
  unfold lns exX
  refine List.map_congr_left fun p _ => ?_
  show _ = mkB ((s.data.toList.drop p.1).take (p.2 - p.1))
  rw [← ext_list, mkB_of]
/-- Where the first line feed stands. -/
theorem ix_cases : ∀ l : List UInt8, (Lib.indexByte l 10 = -1 ∧ hdl l = l ∧ tll l = []) ∨ ∃ i : Nat, Lib.indexByte l 10 = (i : Int) ∧ i < l.length ∧ hdl l = l.take i ∧ tll l = l.drop (i + 1)
  | [] => .inl ⟨rfl, rfl, rfl⟩
  | c :: r => by
    unfold Lib.indexByte hdl tll
    by_cases hc : (c == 10) = true
    · rw [if_pos hc, if_pos hc, if_pos hc]
      exact .inr ⟨0, rfl, by simp, rfl, rfl⟩
    · rw [if_neg hc, if_neg hc, if_neg hc]
      rcases ix_cases r with ⟨h1, h2, h3⟩ | ⟨i, h1, h2, h3, h4⟩
      · left
        rw [h1, h2, h3]
        exact ⟨rfl, rfl, rfl⟩
      · right
        refine ⟨i + 1, ?_, by rw [List.length_cons]; omega, by rw [h3, List.take_succ_cons], by rw [h4, List.drop_succ_cons]⟩
        rw [h1, if_neg (by rw [beq_iff_eq]; omega)]; rfl

set_option maxHeartbeats 1000000 in
set_option maxRecDepth 100000 in
theorem indexByte_at (s : ByteArray) (w : World) : Calls Tryz.prog 100 #[.string s, .int .u8 10] w fun e w' => e = .returned (.int .i64 (Lib.indexByte s.data.toList 10)) ∧ w = w' := by
  go_enter Tryz.func100, Tryz.ntmps100
  go_wp2
  rw [run_callFunc_extern Tryz.func117 (by kernel_rfl) (by kernel_rfl) (by kernel_rfl) (e := Extern.BytealgIndexByte.indexByte) (by kernel_rfl), Lib.run_indexByteString]
  simp only [Result.andThen]
  rw [Oper.upon_value]
  go_wp2
  go_ret
  exact ⟨rfl, rfl⟩
set_option maxHeartbeats 4000000 in
set_option maxRecDepth 100000 in
theorem index_nl (s : ByteArray) (w : World) : Calls Tryz.prog 84 #[.string s, .string ⟨#[10]⟩] w fun e w' => e = .returned (.int .i64 (Lib.indexByte s.data.toList 10)) ∧ w = w' := by
  have HI := Lib.hid (fun w => indexByte_at s w)
  have hix : ∀ w, (Instr.index 9 (.string ⟨#[10]⟩) (.int .i64 0)).run Tryz.prog w = .ok (.int .u8 10) w := fun w => by
    rw [run_index_string w 9 ⟨#[10]⟩ .i64 0 Tryz.underlying9, dif_pos (by decide)]; rfl
  by_cases hs : s.data.toList = [10]
  · have hx : Lib.indexByte s.data.toList 10 = 0 := by rw [hs]; rfl
    have t1 : (([10] : List UInt8) == s.toList) = true := by rw [Lib.toList_data, hs]; rfl
    rw [hx]
    clear hs hx HI
    go_enter Tryz.func84, Tryz.ntmps84
    go_wp2
    go_ret
    exact ⟨rfl, rfl⟩
  · have t1 : (([10] : List UInt8) == s.toList) = false := by
      rw [Lib.toList_data, beq_eq_false_iff_ne]
      exact fun e => hs e.symm
    clear hs
    generalize Lib.indexByte s.data.toList 10 = x at HI ⊢
    go_enter Tryz.func84, Tryz.ntmps84
    go_wp2_with (go_at_call 100; ((with_reducible refine (HI.out _).mono ?_); rintro e w1 ⟨rfl, rfl⟩))
    go_ret
    exact ⟨rfl, rfl⟩
set_option maxHeartbeats 4000000 in
set_option maxRecDepth 100000 in
theorem cutl_any (s : ByteArray) (hs : s.size ≤ 100000) (w : World) : Calls Tryz.prog 104 #[.string s, .string ⟨#[10]⟩] w fun e w' => (∃ b, e = .returned (.tuple #[.string (mkB (hdl s.data.toList)), .string (mkB (tll s.data.toList)), .bool b])) ∧ ∃ m, w' = w.drewN m := by
  have HI := Lib.hid (fun w => index_nl s w)
  rcases ix_cases s.data.toList with ⟨h1, h2, h3⟩ | ⟨i, h1, h2, h3, h4⟩
  · rw [h1] at HI
    rw [h2, h3, mkB_of]
    clear h1 h2 h3
    go_enter Tryz.func104, Tryz.ntmps104
    go_wp2_with (go_at_call 84; ((with_reducible refine (HI.out _).mono ?_); rintro e w1 ⟨rfl, rfl⟩))
    refine bodyPost_ret (v := .tuple #[.string s, .string ⟨#[]⟩, .bool false]) (by simp [results, Tryz.results104, go_sem]) rfl ⟨⟨_, rfl⟩, 0, rfl⟩
  · rw [h1] at HI
    rw [size_list] at h2
    obtain ⟨U, hU⟩ : ∃ U, s.extract 0 i = U := ⟨_, rfl⟩
    obtain ⟨V, hV⟩ : ∃ V, s.extract (i + 1) s.size = V := ⟨_, rfl⟩
    have e1 : mkB (hdl s.data.toList) = U := by rw [h3, ← hU, ← mkB_of (s.extract 0 i), ext_list]; rfl
    have e2 : mkB (tll s.data.toList) = V := by rw [h4, ← hV, ← mkB_of (s.extract (i + 1) s.size), ext_rest]
    have hu : ∀ w, (Instr.slice 9 (.string s) none (some (.int .i64 (i : Int))) none).run Tryz.prog w = .ok (.string U) w := fun w => by
      rw [run_slice_string_to_if w 9 s .i64 i Tryz.underlying9, if_pos (by omega), ← hU]; rfl
    have hv : ∀ w, (Instr.slice 9 (.string s) (some (.int .i64 ((i : Int) + 1))) none none).run Tryz.prog w = .ok (.string V) w := fun w => by
      rw [run_slice_string_from_if w 9 s .i64 ((i : Int) + 1) Tryz.underlying9, if_pos (by omega), ← hV]; rfl
    rw [e1, e2]
    clear h1 h3 h4 hU hV e1 e2
    go_enter Tryz.func104, Tryz.ntmps104
    go_upto_region 3 with (go_at_call 84; ((with_reducible refine (HI.out _).mono ?_); rintro e w1 ⟨rfl, rfl⟩))
    go_quiet (fail)
    go_wp2
    refine bodyPost_ret (v := .tuple #[.string U, .string V, .bool true]) (by simp [results, Tryz.results104, go_sem]) rfl ⟨⟨_, rfl⟩, _, rfl⟩
set_option maxHeartbeats 1000000 in
theorem cutnl_any (s : ByteArray) (hs : s.size ≤ 100000) (w : World) : Calls Tryz.prog 86 #[.string s, .string ⟨#[10]⟩] w fun e w' => (∃ b, e = .returned (.tuple #[.string (mkB (hdl s.data.toList)), .string (mkB (tll s.data.toList)), .bool b])) ∧ ∃ m, w' = w.drewN m := by
  have HC := Lib.hid (fun w => cutl_any s hs w)
  generalize mkB (hdl s.data.toList) = U at HC ⊢
  generalize mkB (tll s.data.toList) = V at HC ⊢
  go_enter Tryz.func86, Tryz.ntmps86
  go_wp2_with (go_at_call 104; ((with_reducible refine (HC.out _).mono ?_); rintro e w1 ⟨⟨b, rfl⟩, m, rfl⟩))
  refine bodyPost_ret (v := .tuple #[.string U, .string V, .bool b]) (by simp [results, Tryz.results86, go_sem]) rfl ⟨⟨_, rfl⟩, m, rfl⟩
end Go.Proofs.YtakblmonbeflmaaGreatDoor.L8
