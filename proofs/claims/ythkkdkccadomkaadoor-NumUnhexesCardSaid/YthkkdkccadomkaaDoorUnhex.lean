/- What Unhex returns (num.Unhex), for every text of up to 6000 bytes: the bytes of the text, in memory of its own, or the error; it turns nothing that was there. -/
import Derived.Test.YthkkdkccadomkaaDoorHex
import Derived.Test.YthkkdkccadomkaaDoorUns
import Derived.Deep.OwnRows
namespace Go.Proofs.YthkkdkccadomkaaDoor
open Go.RowKit

/-- The value of a letter of texts of bytes, or -1. -/
def ix (c : UInt8) : Int := Lib.indexByte hexL c

theorem ix_at (c : UInt8) (h : Int) (w : World) (hh : h = ix c) :
    Calls Tryd.prog 30 #[.string ⟨#[48, 49, 50, 51, 52, 53, 54, 55, 56, 57, 97, 98, 99, 100, 101, 102]⟩, .int .u8 (c.toNat : Int)] w fun e w' => e = .returned (.int .i64 h) ∧ w = w' := by
  subst hh
  refine (Tryd.strings_IndexByte _ (c.toNat : Int) w).mono fun _ _ h => ⟨?_, h.2.symm⟩
  rw [h.1]
  have : ((c.toNat : Int)).toNat.toUInt8 = c := by simp
  rw [this]
  rfl

/-- The bytes of a text of bytes. -/
def unh : List UInt8 → Option (List UInt8)
  | a :: b :: r => if ix a < 0 ∨ ix b < 0 then none else (unh r).map ((UInt8.ofNat (16 * (ix a).toNat + (ix b).toNat)) :: ·)
  | [] => some []
  | [_] => none

/-- A row of N bytes of which the first are known, the others zero. -/
def rowV (xs : List UInt8) (N : Nat) : Array Value := List.toArray (xs.map (fun c : UInt8 => Value.int .u8 (c.toNat : Int)) ++ List.replicate (N - xs.length) (Value.int .u8 0))

theorem rowV_nil (N : Nat) : madeCells #[Value.int .u8 0] N = rowV [] N := by
  apply Array.ext
  · simp [size_madeCells, rowV]
  · intro i h1 h2
    simp [madeCells, rowV, Nat.mod_one]

theorem rowV_size (xs : List UInt8) (N : Nat) (h : xs.length ≤ N) : (rowV xs N).size = N := by
  simp [rowV]; omega

theorem rowV_set (xs : List UInt8) (N : Nat) (c : UInt8) (h : xs.length < N) : (rowV xs N).setIfInBounds xs.length (.int .u8 (c.toNat : Int)) = rowV (xs ++ [c]) N := by
  unfold rowV
  rw [List.setIfInBounds_toArray]
  congr 1
  rw [List.set_append_right _ _ (by simp)]
  simp only [List.length_map, Nat.sub_self, List.map_append, List.map_cons, List.map_nil, List.length_append, List.length_cons, List.length_nil]
  obtain ⟨m, hm⟩ : ∃ m, N - xs.length = m + 1 := ⟨N - xs.length - 1, by omega⟩
  rw [hm, List.replicate_succ, List.set_cons_zero, show N - (xs.length + (0 + 1)) = m by omega]
  simp

theorem cells_set {w : World} {b k : Nat} {cs : Array Value} {v : Value} {t : TypeId} {fr : Nat × Nat} (h : w.heap[b]? = some (.cells cs t fr)) : (w.setCell ⟨b, k, none⟩ v).heap[b]? = some (.cells (cs.setIfInBounds k v) t fr) := by
  have hlt := lt_of_block h
  have h' : w.heap[b] = .cells cs t fr := by simpa [Array.getElem?_eq_getElem hlt] using h
  show (w.heap.modify b _)[b]? = _
  rw [Array.getElem?_eq_getElem (by simpa using hlt), Array.getElem_modify_self, h']
  rfl

/-- v is a slice of the bytes xs. -/
def BytesAt (w : World) (v : Value) (xs : List UInt8) : Prop :=
  (∃ b off cap, v = .slice (some ⟨b, off, none⟩) xs.length cap ∧ ∀ j, j < xs.length → w.cell? ⟨b, off + j, none⟩ = some (.int .u8 ((xs.getD j 0).toNat : Int))) ∨ (xs = [] ∧ ∃ a cap, v = .slice a 0 cap)

/-- What Unhex leaves. -/
def UnhP (r : Option (List UInt8)) (e : Ending) (w' : World) : Prop := match r with
  | none => e = .returned (.tuple #[.slice none 0 0, .int .i64 3])
  | some xs => ∃ v, e = .returned (.tuple #[v, .int .i64 0]) ∧ BytesAt w' v xs

theorem ib_range : ∀ (l : List UInt8) (c : UInt8), -1 ≤ Lib.indexByte l c ∧ Lib.indexByte l c < l.length
  | [], c => by simp [Lib.indexByte]
  | b :: l, c => by
    have := ib_range l c
    simp only [Lib.indexByte, List.length_cons]
    split
    · omega
    · split
      · omega
      · omega

theorem ix_range (c : UInt8) : -1 ≤ ix c ∧ ix c < 16 := ib_range hexL c

theorem rowV_get (xs : List UInt8) (N : Nat) (h : xs.length < N) : (rowV xs N)[xs.length]? = some (.int .u8 0) := by
  unfold rowV
  rw [List.getElem?_toArray, List.getElem?_append_right (by simp), List.length_map, Nat.sub_self, List.getElem?_replicate, if_pos (by omega)]

theorem rowV_at (xs : List UInt8) (N j : Nat) (h : j < xs.length) : (rowV xs N)[j]? = some (.int .u8 ((xs.getD j 0).toNat : Int)) := by
  unfold rowV
  rw [List.getElem?_toArray, List.getElem?_append_left (by simpa using h)]
  simp [List.getD, h]

theorem cell_in {w : World} {b k : Nat} {cs : Array Value} {t : TypeId} (h : w.heap[b]? = some (.cells cs t (0, 0))) : w.cell? ⟨b, k, none⟩ = cs[k]? ∧ w.frozen? ⟨b, k, none⟩ = false := by
  simp [World.cell?, World.frozen?, h]

theorem or_four (a b : Nat) (ha : a < 16) (hb : b < 16) : bits .or .i64 ((a : Int) * 16) (b : Int) = 16 * (a : Int) + b := by
  have h : ∀ a : Fin 16, ∀ b : Fin 16, bits .or .i64 (((a.val : Nat) : Int) * 16) ((b.val : Nat) : Int) = 16 * ((a.val : Nat) : Int) + ((b.val : Nat) : Int) := by decide
  exact h ⟨a, ha⟩ ⟨b, hb⟩

set_option maxHeartbeats 2000000 in
set_option maxRecDepth 100000 in
theorem unhex_even (s : ByteArray) (w : World) (hs : s.size ≤ 6000) (he : s.size % 2 = 0) :
    Calls Tryd.prog 15 #[.string s] w fun e w' => UnhP (unh s.data.toList) e w' ∧ Below w.heap.size w w' := by
  obtain ⟨i0, hi, hz0, hz1, hz2⟩ := info_parts Tryd.info5
  obtain ⟨N, hN⟩ : ∃ N, N = s.size / 2 := ⟨_, rfl⟩
  have hev : ((s.size : Int) % 2 != 0) = false := by rw [bne_eq_false_iff_eq]; omega
  have hNi : ((s.size : Int) / 2) = (N : Int) := by omega
  have HN : Hid (s.size = 2 * N) := Lib.hid (by omega)
  have hNs : 2 * N ≤ s.size := by omega
  clear hN he
  go_enter Tryd.func15, Tryd.ntmps15
  go_wp2_with (at_make; refine wpList_make_row _ rfl _ _ 31 rfl 5 i0 (.int .u8 0) Tryd.underlying31 hi hz0 hz1 rfl .i64 .i64 N rfl rfl (by rw [hz2]; omega) (by omega) ?_)
  rw [rowV_nil]
  go_loopw [18] (fun i wr => ∃ (k : Nat) (xs : List UInt8), k ≤ N ∧ xs.length = k ∧ i = .int .i64 k ∧ wr.heap[w.heap.size]? = some (.cells (rowV xs N) 5 (0, 0)) ∧ Below w.heap.size w wr ∧ Hid ((unh (s.data.toList.drop (2 * k))).map (xs ++ ·) = unh s.data.toList)) (fun i _ => N - (intOf i).toNat)
  case atStart => exact ⟨0, [], Nat.zero_le _, rfl, rfl, heap_alloc_new _ _, (Below.refl _ _).alloc (Nat.le_refl _) _, Lib.hid (by simp)⟩
  case round =>
    obtain ⟨k, xs, hk, hxl, rfl, hB, hbel, hR⟩ := hrel
    have HX := Lib.hid hxl
    clear hxl
    by_cases hlt : k < N
    · have hl1 : 2 * k < s.size := by omega
      have hl2 : 2 * k + 1 < s.size := by omega
      have hdrop : s.data.toList.drop (2 * k) = s[2 * k] :: s[2 * k + 1] :: s.data.toList.drop (2 * (k + 1)) := by
        rw [drop_at s (2 * k) hl1, drop_at s (2 * k + 1) hl2]
        rfl
      have HD := Lib.hid hdrop
      clear hdrop
      obtain ⟨h1, hh1⟩ : ∃ h1, h1 = ix s[2 * k] := ⟨_, rfl⟩
      obtain ⟨h2, hh2⟩ : ∃ h2, h2 = ix s[2 * k + 1] := ⟨_, rfl⟩
      have r1 := ix_range s[2 * k]
      have r2 := ix_range s[2 * k + 1]
      rw [← hh1] at r1
      rw [← hh2] at r2
      obtain ⟨r1, r1'⟩ := r1
      obtain ⟨r2, r2'⟩ := r2
      have H1 := Lib.hid hh1
      have H2 := Lib.hid hh2
      clear hh1 hh2
      by_cases hbad : h1 < 0 ∨ h2 < 0
      · have hnone : unh s.data.toList = none := by
          rw [← hR.out, HD.out]
          simp only [unh, ← H1.out, ← H2.out, if_pos hbad]
          rfl
        have HN2 := Lib.hid hnone
        clear hnone
        rcases (show h1 < 0 ∨ (0 ≤ h1 ∧ h2 < 0) by omega) with hb1 | ⟨hb1, hb2⟩
        · go_wp2_with (first | (go_at_call 30; ((with_reducible refine (ix_at s[2 * k] h1 _ H1.out).mono ?_); rintro e w' ⟨rfl, rfl⟩)) | (go_at_call 30; ((with_reducible refine (ix_at s[2 * k + 1] h2 _ H2.out).mono ?_); rintro e w' ⟨rfl, rfl⟩)))
          go_ret2
          exact ⟨by rw [HN2.out]; rfl, hbel⟩
        · go_wp2_with (first | (go_at_call 30; ((with_reducible refine (ix_at s[2 * k] h1 _ H1.out).mono ?_); rintro e w' ⟨rfl, rfl⟩)) | (go_at_call 30; ((with_reducible refine (ix_at s[2 * k + 1] h2 _ H2.out).mono ?_); rintro e w' ⟨rfl, rfl⟩)))
          go_ret2
          exact ⟨by rw [HN2.out]; rfl, hbel⟩
      · obtain ⟨d1, rfl⟩ : ∃ d1 : Nat, h1 = d1 := ⟨h1.toNat, by omega⟩
        obtain ⟨d2, rfl⟩ : ∃ d2 : Nat, h2 = d2 := ⟨h2.toNat, by omega⟩
        have hor := or_four d1 d2 (by omega) (by omega)
        obtain ⟨cB, fB⟩ := cell_in (k := k) hB
        rw [← HX.out, rowV_get xs N (by rw [HX.out]; exact hlt), HX.out] at cB
        have hstep : Hid ((unh (s.data.toList.drop (2 * (k + 1)))).map ((xs ++ [UInt8.ofNat (16 * d1 + d2)]) ++ ·) = unh s.data.toList) := Lib.hid (by
          rw [← hR.out, HD.out]
          simp only [unh, ← H1.out, ← H2.out, if_neg hbad, Option.map_map]
          congr 1
          funext ys
          simp)
        have hB2 := Lib.hid hB
        clear hB
        go_wp2_with (first | (go_at_call 30; ((with_reducible refine (ix_at s[2 * k] d1 _ H1.out).mono ?_); rintro e w' ⟨rfl, rfl⟩)) | (go_at_call 30; ((with_reducible refine (ix_at s[2 * k + 1] d2 _ H2.out).mono ?_); rintro e w' ⟨rfl, rfl⟩)))
        go_roundw
        case rel =>
          refine ⟨k + 1, xs ++ [UInt8.ofNat (16 * d1 + d2)], by omega, by rw [List.length_append, HX.out]; rfl, by go_num, ?_, hbel.setCell (Nat.le_refl _) _, hstep⟩
          have h3 := cells_set (k := k) (v := .int .u8 ((UInt8.ofNat (16 * d1 + d2)).toNat : Int)) hB2.out
          have h4 := rowV_set xs N (UInt8.ofNat (16 * d1 + d2)) (by rw [HX.out]; exact hlt)
          rw [HX.out] at h4
          rw [h4] at h3
          have h5 : ((UInt8.ofNat (16 * d1 + d2)).toNat : Int) = 16 * (d1 : Int) + d2 := by
            have : (UInt8.ofNat (16 * d1 + d2)).toNat = 16 * d1 + d2 := by
              rw [UInt8.toNat_ofNat']; exact Nat.mod_eq_of_lt (by omega)
            rw [this]; omega
          rw [h5] at h3
          exact h3
        case measure => simp [intOf]; omega
    · have hkN : k = N := by omega
      have hsome : unh s.data.toList = some xs := by
        rw [← hR.out, List.drop_eq_nil_of_le (by rw [Array.length_toList]; show s.size ≤ 2 * k; rw [HN.out]; omega)]
        simp [unh]
      have HS := Lib.hid hsome
      have hB2 := Lib.hid hB
      clear hsome hB
      go_wp2
      go_ret2
      refine ⟨?_, hbel⟩
      rw [HS.out]
      refine ⟨_, rfl, Or.inl ⟨w.heap.size, 0, N, ?_, fun j hj => ?_⟩⟩
      · rw [HX.out, hkN]; rfl
      · rw [(cell_in hB2.out).1, Nat.zero_add]
        exact rowV_at xs N j hj

theorem unh_odd : ∀ (n : Nat) (l : List UInt8), l.length = 2 * n + 1 → unh l = none
  | 0, [a], _ => rfl
  | n + 1, a :: b :: r, h => by
    have := unh_odd n r (by simp at h; omega)
    simp only [unh, this]
    split <;> rfl

set_option maxRecDepth 100000 in
theorem unhex_odd (s : ByteArray) (w : World) (hs : s.size ≤ 6000) (he : s.size % 2 = 1) :
    Calls Tryd.prog 15 #[.string s] w fun e w' => UnhP (unh s.data.toList) e w' ∧ Below w.heap.size w w' := by
  have hev : ((s.size : Int) % 2 != 0) = true := by rw [bne_iff_ne]; omega
  have HU : Hid (unh s.data.toList = none) := Lib.hid (unh_odd (s.size / 2) _ (by rw [Array.length_toList]; show s.size = _; omega))
  clear he
  go_enter Tryd.func15, Tryd.ntmps15
  go_wp2
  go_ret2
  exact ⟨by rw [HU.out]; rfl, Below.refl _ _⟩

/-- WHAT Unhex RETURNS. -/
theorem unhex_any (s : ByteArray) (w : World) (hs : s.size ≤ 6000) :
    Calls Tryd.prog 15 #[.string s] w fun e w' => UnhP (unh s.data.toList) e w' ∧ Below w.heap.size w w' := by
  rcases Nat.mod_two_eq_zero_or_one s.size with h | h
  · exact unhex_even s w hs h
  · exact unhex_odd s w hs h
end Go.Proofs.YthkkdkccadomkaaDoor
