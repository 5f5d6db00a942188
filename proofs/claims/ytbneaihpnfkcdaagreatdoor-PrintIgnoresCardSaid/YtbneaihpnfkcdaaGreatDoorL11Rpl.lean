/- What strings.ReplaceAll returns where each line feed is replaced, and strings.Contains at a line feed. Condition: the text has at most 20000 bytes and 400 line feeds, the new text 2 to 2000 bytes. -/
import Derived.Test.YtbneaihpnfkcdaaGreatDoorM22
import Derived.Test.YtbneaihpnfkcdaaGreatDoorL11Ig
import Derived.Test.YtbneaihpnfkcdaaGreatDoorShelr
namespace Go.Proofs.YtbneaihpnfkcdaaGreatDoor.L11
open Go.RowKit
attribute [local go_sem] Oper.semAt_some

theorem rpF_app (N : List UInt8) : ∀ l m : List UInt8, rpF N (l ++ m) = rpF N l ++ rpF N m
  | [], m => by simp [rpF]
  | c :: r, m => by
    rw [List.cons_append, rpF, rpF, rpF_app N r m]
    split <;> simp
theorem rpF_no (N : List UInt8) : ∀ l : List UInt8, (10 : UInt8) ∉ l → rpF N l = l
  | [], _ => rfl
  | c :: r, h => by
    rw [rpF, if_neg (fun e => h (by rw [e]; simp)), rpF_no N r (fun hm => h (by simp [hm]))]
theorem cnt_no : ∀ l : List UInt8, Lib.countByte l 10 = 0 → (10 : UInt8) ∉ l := by
  intro l h
  unfold Lib.countByte at h
  exact List.count_eq_zero.1 h
theorem cnt_app (l m : List UInt8) : Lib.countByte (l ++ m) 10 = Lib.countByte l 10 + Lib.countByte m 10 := by
  unfold Lib.countByte
  exact List.count_append ..
theorem ix_split : ∀ l : List UInt8, 0 < Lib.countByte l 10 → ∃ A R, l = A ++ 10 :: R ∧ (10 : UInt8) ∉ A ∧ Lib.indexByte l 10 = (A.length : Int)
  | [], h => by simp [Lib.countByte] at h
  | c :: r, h => by
    by_cases hc : c = 10
    · subst hc
      exact ⟨[], r, rfl, by simp, by simp [Lib.indexByte]⟩
    · have h' : 0 < Lib.countByte r 10 := by
        unfold Lib.countByte at h ⊢
        rw [List.count_cons_of_ne (by simpa using hc)] at h
        exact h
      obtain ⟨A, R, e, hn, hi⟩ := ix_split r h'
      refine ⟨c :: A, R, by rw [e]; rfl, ?_, ?_⟩
      · intro hm
        rcases List.mem_cons.1 hm with hm | hm
        · exact hc hm.symm
        · exact hn hm
      · rw [Lib.indexByte, hi]
        have h1 : (c == 10) = false := by simpa using hc
        have h2 : ((A.length : Int) == -1) = false := by simp
        rw [h1, h2]
        simp
theorem ix_none : ∀ l : List UInt8, Lib.indexByte l 10 < 0 → (10 : UInt8) ∉ l := by
  intro l h
  refine cnt_no l ?_
  cases hc : Lib.countByte l 10 with
  | zero => rfl
  | succ n =>
    obtain ⟨A, R, _, _, hi⟩ := ix_split l (by omega)
    omega
theorem take_line {T A R : List UInt8} {p : Nat} (h : T.drop p = A ++ 10 :: R) (hp : p ≤ T.length) : T.take (p + A.length + 1) = T.take p ++ A ++ [10] ∧ T.drop (p + A.length + 1) = R ∧ p + A.length + 1 ≤ T.length := by
  have e : T = T.take p ++ (A ++ 10 :: R) := by rw [← h, List.take_append_drop]
  have hl : (T.take p).length = p := by rw [List.length_take]; omega
  have hT : T.length = p + (A.length + (R.length + 1)) := by
    have := congrArg List.length e
    simp only [List.length_append, List.length_cons, hl] at this
    exact this
  have e2 : T = (T.take p ++ A ++ [10]) ++ R := by
    calc T = T.take p ++ (A ++ 10 :: R) := e
      _ = _ := by simp
  have hl2 : (T.take p ++ A ++ [10]).length = p + A.length + 1 := by simp only [List.length_append, List.length_cons, List.length_nil, hl]
  refine ⟨?_, ?_, by omega⟩
  · have := congrArg (List.take (p + A.length + 1)) e2
    rw [List.take_left' hl2] at this
    exact this
  · have := congrArg (List.drop (p + A.length + 1)) e2
    rw [List.drop_left' hl2] at this
    exact this
set_option maxHeartbeats 8000000 in
set_option maxRecDepth 100000 in
theorem replace_at (t N : ByteArray) (w : World) (ht : t.size ≤ 20000) (hc : Lib.countByte t.data.toList 10 ≤ 400) (h1 : 2 ≤ N.size) (h2 : N.size ≤ 2000) :
    Calls Tryz.prog 36 #[.string t, .string ⟨#[10]⟩, .string N, .int .i64 (-1)] w fun e w' => e = .returned (.string ⟨(rpF N.data.toList t.data.toList).toArray⟩) ∧ Below w.heap.size w w' := by
  have HC := Lib.hid (fun W => show Calls Tryz.prog 34 #[.string t, .string ⟨#[10]⟩] W (fun e w' => e = .returned (.int .i64 (Lib.countByte t.data.toList 10 : Nat)) ∧ W = w') from (Tryz.strings_Count_one t 10 W).mono fun _ _ ⟨a, b⟩ => ⟨a, b.symm⟩)
  have hne : (([10] : List UInt8) == N.toList) = false := by
    rw [Lib.toList_data, beq_eq_false_iff_ne]
    intro e
    have := congrArg List.length e
    rw [L8.size_list] at this
    simp at this
    omega
  obtain ⟨cn, hcn⟩ : ∃ cn, Lib.countByte t.data.toList 10 = cn := ⟨_, rfl⟩
  rw [hcn] at HC hc
  have hTl := L8.size_list t
  have hNl := L8.size_list N
  by_cases h0 : cn = 0
  · subst h0
    have e : (⟨(rpF N.data.toList t.data.toList).toArray⟩ : ByteArray) = t := by
      rw [rpF_no _ _ (cnt_no _ hcn)]
    rw [e]
    clear hcn e hTl hNl
    go_enter Tryz.func36, Tryz.ntmps36
    go_wp2_with (go_at_call 34; ((with_reducible refine (HC.out _).mono ?_); rintro e w1 ⟨rfl, rfl⟩))
    go_ret
    exact ⟨rfl, Below.refl _ _⟩
  · have hcI : ¬ (cn : Int) = 0 := by omega
    have hcp : (0 : Int) < (cn : Int) := by omega
    obtain ⟨M, hM⟩ : ∃ M : Nat, (cn : Int) * ((N.size : Int) - 1) = (M : Int) := ⟨cn * (N.size - 1), by
      rw [Int.natCast_mul, Int.natCast_sub (by omega)]; rfl⟩
    have hMb : M ≤ 800000 := by
      have k1 : cn * (N.size - 1) ≤ 400 * 2000 := Nat.mul_le_mul hc (by omega)
      have k2 : (M : Int) = ((cn * (N.size - 1) : Nat) : Int) := by rw [← hM, Int.natCast_mul, Int.natCast_sub (by omega)]; rfl
      omega
    have hk0 := heap_alloc_last w (.cells #[.pointer none, .slice none 0 0] bT)
    have hB0 := L8.bnew w (.cells #[.pointer none, .slice none 0 0] bT)
    have HG := Lib.hid (show Calls Tryz.prog 69 #[.pointer (some ⟨w.heap.size, 0, none⟩), .int .i64 ((t.size : Int) + (M : Int))] (w.alloc (.cells #[.pointer none, .slice none 0 0] bT)) _ from by
      have := Tryz.Builder_Grow_fresh w.heap.size w.heap.size (t.size + M) (w.alloc (.cells #[.pointer none, .slice none 0 0] bT)) (Nat.le_refl _) hk0 hB0.size (by omega)
      rw [Int.natCast_add] at this
      exact this)
    have HCN := Lib.hid hcn
    have HTL := Lib.hid hTl
    have HNL := Lib.hid hNl
    clear hk0 hcn hTl hNl
    go_enter Tryz.func36, Tryz.ntmps36
    go_upto_region 8 with (go_at_call 34; ((with_reducible refine (HC.out _).mono ?_); rintro e w1 ⟨rfl, rfl⟩))
    go_upto_region 10 with (go_at_call 69; ((refine (HG.out).mono ?_); rintro e w2 ⟨rfl, hb2, b2⟩))
    have HI : Hid (Lib.IsBuilder bT bE w.heap.size w.heap.size (Lib.byteCells (rpF N.data.toList (t.data.toList.take 0))) w2) := Lib.hid (.inr hb2)
    have HB := Lib.hid (hB0.trans b2)
    have HK : Hid (Lib.countByte (t.data.toList.drop 0) 10 + 0 = cn) := Lib.hid HCN.out
    clear hb2 b2 hB0 HG HC hM
    go_wp2_with (fail)
    go_loopw [11, 12, 53] (fun st _ i wr => ∃ k pos : Nat, st = .int .i64 (pos : Int) ∧ i = .int .i64 (k : Int) ∧ k ≤ cn ∧ pos ≤ t.size ∧ Hid (Lib.countByte (t.data.toList.drop pos) 10 + k = cn) ∧ Hid (Lib.IsBuilder bT bE w.heap.size w.heap.size (Lib.byteCells (rpF N.data.toList (t.data.toList.take pos))) wr) ∧ Hid (Below w.heap.size w wr)) (fun _ _ i _ => cn - (intOf i).toNat)
    case atStart => exact ⟨0, 0, rfl, rfl, Nat.zero_le _, Nat.zero_le _, HK, HI, HB⟩
    case round =>
      clear HI HB HK
      obtain ⟨k, pos, rfl, rfl, hk, hpos, hK, hI, hB⟩ := hrel
      have hz := hB.out.size
      have hlen : (rpF N.data.toList (t.data.toList.take pos)).length ≤ 900000 := by
        have k1 := rp_len N.data.toList (t.data.toList.take pos)
        have k2 := cnt_app (t.data.toList.take pos) (t.data.toList.drop pos)
        rw [List.take_append_drop, HCN.out] at k2
        have k3 := hK.out
        have k4 : (t.data.toList.take pos).length ≤ 20000 := by rw [List.length_take]; have := HTL.out; omega
        have k5 : Lib.countByte (t.data.toList.take pos) 10 * N.data.toList.length ≤ 400 * 2000 := Nat.mul_le_mul (by omega) (by have := HNL.out; omega)
        omega
      have hbl : (Lib.byteCells (rpF N.data.toList (t.data.toList.take pos))).length ≤ 900000 := by rw [Lib.byteCells_length]; exact hlen
      by_cases hlt : k < cn
      · obtain ⟨Al, Rl, hd, hA, hix⟩ := ix_split (t.data.toList.drop pos) (by have := hK.out; omega)
        obtain ⟨e1, e2, e3⟩ := take_line hd (by rw [HTL.out]; exact hpos)
        have hcnt : Lib.countByte (t.data.toList.drop (pos + Al.length + 1)) 10 + (k + 1) = cn := by
          have h := hK.out
          rw [hd, cnt_app] at h
          rw [e2]
          unfold Lib.countByte at h ⊢
          rw [List.count_cons_self, List.count_eq_zero.2 hA] at h
          omega
        have hrp : rpF N.data.toList (t.data.toList.take (pos + Al.length + 1)) = (rpF N.data.toList (t.data.toList.take pos) ++ Al) ++ N.data.toList := by
          rw [e1, rpF_app, rpF_app, rpF_no _ _ hA]
          simp [rpF]
        have hX : (t.extract pos (pos + Al.length)).data.toList = Al := by
          rw [L8.ext_list, hd, show pos + Al.length - pos = Al.length by omega, List.take_left' rfl]
        obtain ⟨a, ha⟩ : ∃ a, Al.length = a := ⟨_, rfl⟩
        rw [ha] at hix e3 hcnt hrp hX
        rw [HTL.out] at e3
        have HIX := Lib.hid (show ∀ W, Calls Tryz.prog 35 #[.string (t.extract pos t.size), .string ⟨#[10]⟩] W (fun e w' => e = .returned (.int .i64 (a : Int)) ∧ W = w') from fun W => by
          have := Tryz.strings_Index_one (t.extract pos t.size) 10 W
          rw [L8.ext_rest, hix] at this
          exact this.mono fun _ _ ⟨a, b⟩ => ⟨a, b.symm⟩)
        have hxs : (t.extract pos (pos + a)).size = a := by rw [← L8.size_list, hX, ha]
        have HS := Lib.hid (wstring_at (t.extract pos (pos + a)) hI.out (by rw [hxs]; omega) hz)
        have HY := Lib.hid (fun (W : World) (h : BdAt w.heap.size w.heap.size (Lib.byteCells (rpF N.data.toList (t.data.toList.take pos)) ++ Lib.strCells (t.extract pos (pos + a))) W) (hW : w.heap.size ≤ W.heap.size) => wstring_at N (.inr h) (by rw [List.length_append, Lib.strCells_length, hxs]; omega) hW)
        have HR : Hid (Lib.byteCells (rpF N.data.toList (t.data.toList.take (pos + a + 1))) = (Lib.byteCells (rpF N.data.toList (t.data.toList.take pos)) ++ Lib.strCells (t.extract pos (pos + a))) ++ Lib.strCells N) := Lib.hid (by
          rw [hrp, Lib.byteCells_append, Lib.byteCells_append, Lib.strCells_eq, Lib.strCells_eq, hX])
        have HCT := Lib.hid hcnt
        have HBL := Lib.hid hB.out
        have hkI : (k : Int) < (cn : Int) := by omega
        have hpI : (pos : Int) ≤ (t.size : Int) := by omega
        have hpa : (pos : Int) + (a : Int) ≤ (t.size : Int) := by omega
        clear hd hA hix e1 e2 hcnt hrp hX ha hlen hbl hK hI hB hxs
        go_wp2_with (first
          | (go_at_call 35; ((with_reducible refine (HIX.out _).mono ?_); rintro e w3 ⟨rfl, rfl⟩))
          | (go_at_call 46; ((with_reducible refine (HS.out).mono ?_); rintro e w4 ⟨rfl, h4, b4⟩; have B4 := HBL.out.trans b4; have z4 := B4.size; have H4 := Lib.hid h4; clear h4))
          | (go_at_call 46; ((with_reducible refine (HY.out _ H4.out z4).mono ?_); rintro e w5 ⟨rfl, h5, b5⟩; have B5 := B4.trans b5; have H5 := Lib.hid h5; clear h5)))
        go_roundw
        case rel => exact ⟨k + 1, pos + a + 1, by go_num, by go_num, by omega, by omega, HCT, Lib.hid (.inr (by rw [HR.out]; exact H5.out)), Lib.hid B5⟩
        case measure => simp [intOf]; omega
      · obtain rfl : k = cn := by omega
        have hno := cnt_no (t.data.toList.drop pos) (by have := hK.out; omega)
        have hfin : rpF N.data.toList t.data.toList = rpF N.data.toList (t.data.toList.take pos) ++ t.data.toList.drop pos := by
          have e : t.data.toList = t.data.toList.take pos ++ t.data.toList.drop pos := (List.take_append_drop ..).symm
          have e2 := congrArg (rpF N.data.toList) e
          rw [rpF_app, rpF_no _ _ hno] at e2
          exact e2
        have hX := L8.ext_rest t pos
        have hxs : (t.extract pos t.size).size ≤ 20000 := by rw [← L8.size_list, hX, List.length_drop]; have := HTL.out; omega
        have HS := Lib.hid (wstring_at (t.extract pos t.size) hI.out (by omega) hz)
        have HR : Hid (Lib.byteCells (rpF N.data.toList (t.data.toList.take pos)) ++ Lib.strCells (t.extract pos t.size) = Lib.byteCells (rpF N.data.toList t.data.toList)) := Lib.hid (by
          rw [hfin, Lib.byteCells_append, Lib.strCells_eq, hX])
        have HST := Lib.hid (fun (W : World) (h : BdAt w.heap.size w.heap.size (Lib.byteCells (rpF N.data.toList (t.data.toList.take pos)) ++ Lib.strCells (t.extract pos t.size)) W) (hW : w.heap.size ≤ W.heap.size) => Tryz.Builder_String_any w.heap.size w.heap.size (rpF N.data.toList t.data.toList) W (by rw [← HR.out]; exact .inr h) hW)
        have HBL := Lib.hid hB.out
        have hpI : (pos : Int) ≤ (t.size : Int) := by omega
        clear hno hfin hX hxs hlen hbl hK hI hB
        go_wp2_with (first
          | (go_at_call 46; ((with_reducible refine (HS.out).mono ?_); rintro e w4 ⟨rfl, h4, b4⟩; have B4 := HBL.out.trans b4; have z4 := B4.size; have H4 := Lib.hid h4; clear h4))
          | (go_at_call 48; ((with_reducible refine (HST.out _ H4.out z4).mono ?_); rintro e w5 ⟨rfl, b5⟩)))
        go_ret
        exact ⟨rfl, B4.trans b5⟩
set_option maxHeartbeats 1000000 in
theorem replaceall_at (t N : ByteArray) (w : World) (ht : t.size ≤ 20000) (hc : Lib.countByte t.data.toList 10 ≤ 400) (h1 : 2 ≤ N.size) (h2 : N.size ≤ 2000) :
    Calls Tryz.prog 17 #[.string t, .string ⟨#[10]⟩, .string N] w fun e w' => e = .returned (.string ⟨(rpF N.data.toList t.data.toList).toArray⟩) ∧ Below w.heap.size w w' := by
  have H := Lib.hid (replace_at t N w ht hc h1 h2)
  clear ht hc h1 h2
  go_enter Tryz.func17, Tryz.ntmps17
  go_wp2_with (go_at_call 36; ((with_reducible refine (H.out).mono ?_); rintro e w1 ⟨rfl, b1⟩))
  go_ret
  exact ⟨rfl, b1⟩
end Go.Proofs.YtbneaihpnfkcdaaGreatDoor.L11
