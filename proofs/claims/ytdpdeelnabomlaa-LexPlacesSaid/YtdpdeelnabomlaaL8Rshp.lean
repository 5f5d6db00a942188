/- What the reference's Word, Shape and Words return for tokens that lie in memory. No condition but that there are at most 100000 tokens. -/
import Derived.Test.YtdpdeelnabomlaaL8Rtok
namespace Go.Proofs.Ytdpdeelnabomlaa.L8
open Go.RowKit L2
attribute [local go_sem] Oper.semAt_some

/-- Tokens with their texts. -/
abbrev Tks := List (ByteArray × Int)
def tkX (s : ByteArray) (ts : List (Nat × Nat)) : Tks := ts.map fun p => (s.extract p.1 p.2, (p.1 : Int))
def xC (xs : Tks) : List Value := xs.flatMap fun x => [.string x.1, .int .i64 x.2]
theorem xC_tk (s : ByteArray) (ts : List (Nat × Nat)) : tkC s ts = xC (tkX s ts) := by simp [tkC, xC, tkX, List.flatMap_map]
/-- Memory holds tokens at a place. -/
def Tksat (w : World) (b o : Nat) (xs : Tks) : Prop := ∀ j, (h : j < xs.length) → w.cell? ⟨b, o + j * 2, none⟩ = some (.string xs[j].1) ∧ w.cell? ⟨b, o + j * 2 + 1, none⟩ = some (.int .i64 xs[j].2)
/-- v is a slice of tokens. -/
def TksAt (w : World) (v : Value) (xs : Tks) : Prop :=
  (∃ b o cap, v = .slice (some ⟨b, o, none⟩) xs.length cap ∧ xs.length ≤ cap ∧ b < w.heap.size ∧ Tksat w b o xs) ∨ (xs = [] ∧ ∃ a cap, v = .slice a 0 cap)
theorem Tksat.below {w w' : World} {b o : Nat} {xs : Tks} (h : Tksat w b o xs) (hlt : b < w.heap.size) (hb : Below w.heap.size w w') : Tksat w' b o xs :=
  fun j hj => ⟨(hb.cell (by exact hlt)).trans (h j hj).1, (hb.cell (by exact hlt)).trans (h j hj).2⟩
theorem TksAt.below {w w' : World} {v : Value} {xs : Tks} (h : TksAt w v xs) (hb : Below w.heap.size w w') : TksAt w' v xs := by
  rcases h with ⟨b, o, cap, rfl, hcp, hlt, hc⟩ | h
  · exact .inl ⟨b, o, cap, rfl, hcp, Nat.lt_of_lt_of_le hlt hb.size, hc.below hlt hb⟩
  · exact .inr h
theorem xC_get (xs : Tks) (j : Nat) (h : j < xs.length) : (xC xs)[j * 2]? = some (.string xs[j].1) ∧ (xC xs)[j * 2 + 1]? = some (.int .i64 xs[j].2) := by
  induction xs generalizing j with
  | nil => simp at h
  | cons x r ih =>
    cases j with
    | zero => simp [xC]
    | succ j =>
      have hj : j < r.length := by simpa using h
      have := ih j hj
      have e : xC (x :: r) = .string x.1 :: .int .i64 x.2 :: xC r := by simp [xC]
      rw [e, show (j + 1) * 2 = j * 2 + 2 by omega]
      simpa using this
theorem add0 (g j : Nat) : (⟨g, 0, none⟩ : Addr).add j = ⟨g, j, none⟩ := by
  unfold Addr.add; split <;> simp_all
/-- What the call owns lies in memory. -/
theorem own_tks {w : World} {base e : TypeId} {v : Value} {xs : Tks} (h : w.ownsRow base e 2 v xs.length (xC xs)) : TksAt w v xs := by
  rcases h.2 with ⟨rfl, h0⟩ | ⟨g, cap, cur, rfl, _, hh, hcp, _, _, _⟩
  · exact .inr ⟨List.eq_nil_of_length_eq_zero h0, _, _, rfl⟩
  · refine .inl ⟨g, 0, cap, rfl, hcp, lt_of_block hh, fun j hj => ?_⟩
    obtain ⟨g1, g2⟩ := xC_get xs j hj
    have k1 := h.cells (g := g) rfl _ _ g1
    have k2 := h.cells (g := g) rfl _ _ g2
    refine ⟨?_, ?_⟩
    · rw [Nat.zero_add]; rwa [add0] at k1
    · rw [Nat.zero_add]; rwa [add0] at k2

def txt (xs : Tks) : List (List UInt8) := xs.map fun x => x.1.data.toList
/-- The shape, as the text that is returned. -/
def shB (xs : Tks) : ByteArray := ⟨(shp (txt xs)).toArray⟩

theorem isW_one (T : ByteArray) : (T.size = 1 ∧ ∃ c, T.data.toList = [c]) ∨ (T.size ≠ 1 ∧ isW T.data.toList = true) := by
  have h : T.size = T.data.toList.length := by rw [Array.length_toList]; rfl
  match hl : T.data.toList with
  | [] => exact .inr ⟨by rw [h, hl]; simp, rfl⟩
  | [c] => exact .inl ⟨by rw [h, hl]; rfl, c, rfl⟩
  | _ :: _ :: _ => exact .inr ⟨by rw [h, hl]; simp, rfl⟩
set_option maxHeartbeats 4000000 in
set_option maxRecDepth 100000 in
theorem rword8_any (T : ByteArray) (i : Int) (v : Bool) (hv : isW T.data.toList = v) (w : World) :
    Calls Try.prog 29 #[.agg #[.string T, .int .i64 i]] w fun e w' => e = .returned (.bool v) ∧ Below w.heap.size w w' := by
  have b0 := bnew w (.cells #[.string T, .int .i64 i] 32)
  rcases isW_one T with ⟨h1, c, hc⟩ | ⟨h1, h2⟩
  · have t1 : ((T.size : Int) != 1) = false := by rw [h1]; rfl
    have hix : ∀ w, (Instr.index 9 (.string T) (.int .i64 0)).run Try.prog w = .ok (.int .u8 (c.toNat : Int)) w := fun w => by
      rw [run_index_string w 9 T .i64 0 Try.underlying9, dif_pos (by omega)]
      have e : T[(0 : Int).toNat]'(by rw [h1]; decide) = c := by
        have : T.data.toList[0]'(by rw [hc]; simp) = c := by simp [hc]
        exact this
      rw [e]
    have HP := Lib.hid (fun w => rpunct_at c (!v) w (by rw [← hv, hc]; simp [isW]))
    clear hv hc h1
    cases v
    all_goals
      go_enter Try.func29, Try.ntmps29
      go_wp2_with (go_at_call 27; ((with_reducible refine (HP.out _).mono ?_); rintro e w1 ⟨rfl, rfl⟩))
      go_ret
      exact ⟨rfl, b0⟩
  · have t1 : ((T.size : Int) != 1) = true := by
      simp only [bne_iff_ne, ne_eq]; omega
    rw [h2] at hv
    subst hv
    clear h1 h2
    go_enter Try.func29, Try.ntmps29
    go_wp2
    go_ret
    exact ⟨rfl, b0⟩

theorem sh_len (xs : Tks) : (shB xs).size = xs.length := by
  show (shp (txt xs)).toArray.size = xs.length
  simp [shp, txt]
theorem sh_snoc (xs : Tks) (x : ByteArray × Int) : shB (xs ++ [x]) = shB xs ++ ⟨#[shl1 x.1.data.toList]⟩ := by
  apply ByteArray.ext
  apply Array.toList_inj.1
  simp [shB, shp, txt]
theorem sh_word {T : ByteArray} (h : isW T.data.toList = true) : (⟨#[shl1 T.data.toList]⟩ : ByteArray) = ⟨#[119]⟩ := by
  unfold shl1; rw [if_pos h]
theorem sh_char {T : ByteArray} (h : isW T.data.toList = false) : (⟨#[shl1 T.data.toList]⟩ : ByteArray) = T := by
  rcases isW_one T with ⟨_, c, hc⟩ | ⟨_, h2⟩
  · have e : shl1 T.data.toList = c := by
      unfold shl1
      rw [if_neg (by rw [h]; exact Bool.false_ne_true), hc]; rfl
    rw [e]
    apply ByteArray.ext
    apply Array.toList_inj.1
    rw [hc]
  · rw [h] at h2; cases h2
theorem take_snoc {α : Type} (xs : List α) (j : Nat) (h : j < xs.length) : xs.take (j + 1) = xs.take j ++ [xs[j]] := by
  rw [List.take_add_one, List.getElem?_eq_getElem h]; rfl
set_option maxHeartbeats 4000000 in
set_option maxRecDepth 100000 in
theorem rshape_some (b o n cap : Nat) (xs : Tks) (hn : xs.length = n) (hm : n ≤ 100000) (w : World) (hb : b < w.heap.size) (hc : Tksat w b o xs) :
    Calls Try.prog 13 #[.slice (some ⟨b, o, none⟩) n cap] w fun e w' => e = .returned (.string (shB xs)) ∧ Below w.heap.size w w' := by
  have HC := Lib.hid hc
  have HN := Lib.hid hn
  clear hc hn
  go_enter Try.func13, Try.ntmps13
  go_wp2
  go_loopw [3, 4] (fun sv a wr => ∃ (j : Nat) (t : ByteArray), a = .int .i64 (j : Int) ∧ j ≤ n ∧ sv = .string t ∧ t.size = j ∧ Hid (shB (xs.take j) = t) ∧ Below w.heap.size w wr) (fun _ a _ => n - (intOf a).toNat)
  case atStart => exact ⟨0, ⟨#[]⟩, rfl, Nat.zero_le _, rfl, rfl, Lib.hid rfl, Below.refl _ _⟩
  case round =>
    obtain ⟨j, t, rfl, hj, rfl, ht, hR, hB⟩ := hrel
    by_cases hlt : j < n
    · have hjx : j < xs.length := by rw [HN.out]; exact hlt
      obtain ⟨T, hT⟩ : ∃ T, xs[j].1 = T := ⟨_, rfl⟩
      obtain ⟨q, hq⟩ : ∃ q, xs[j].2 = q := ⟨_, rfl⟩
      have hcc := (HC.out.below hb hB) j hjx
      rw [hT, hq] at hcc
      obtain ⟨c0, c1⟩ := hcc
      obtain ⟨v, hv⟩ : ∃ v, isW T.data.toList = v := ⟨_, rfl⟩
      have HW := Lib.hid (fun w => rword8_any T q v hv w)
      have hst : shB (xs.take (j + 1)) = t ++ ⟨#[shl1 T.data.toList]⟩ := by rw [take_snoc xs j hjx, sh_snoc, hR.out, hT]
      cases v
      · rw [sh_char hv] at hst
        have hTs : T.size = 1 := by
          rcases isW_one T with ⟨h, _⟩ | ⟨_, h⟩
          · exact h
          · rw [hv] at h; cases h
        have HS := Lib.hid hst
        clear hst hv hT hq hR
        go_wp2_with (go_at_call 29; ((with_reducible refine (HW.out _).mono ?_); rintro e w1 ⟨rfl, b1⟩; have c2 := (b1.cell (by exact Nat.lt_of_lt_of_le hb hB.size)).trans c0))
        go_roundw
        case rel => exact ⟨j + 1, _, by go_num, by omega, rfl, by simp [ByteArray.size_append, ht, hTs], HS, bch hB b1⟩
        case measure => simp [intOf]; omega
      · rw [sh_word hv] at hst
        have HS := Lib.hid hst
        clear hst hv hT hq hR
        go_wp2_with (go_at_call 29; ((with_reducible refine (HW.out _).mono ?_); rintro e w1 ⟨rfl, b1⟩))
        go_roundw
        case rel => exact ⟨j + 1, _, by go_num, by omega, rfl, by simp [ByteArray.size_append, ht]; try rfl, HS, bch hB b1⟩
        case measure => simp [intOf]; omega
    · obtain rfl : j = n := by omega
      have HS := Lib.hid (show shB xs = t by rw [← hR.out, List.take_of_length_le (by rw [HN.out]; exact Nat.le_refl _)])
      clear hR
      go_wp2
      go_ret
      exact ⟨by rw [HS.out] <;> rfl, hB⟩
theorem rshape_none (a : Option Addr) (cap : Nat) (w : World) : Calls Try.prog 13 #[.slice a 0 cap] w fun e w' => e = .returned (.string (shB [])) ∧ Below w.heap.size w w' := by
  go_enter Try.func13, Try.ntmps13
  go_wp2
  refine wp_loop_rounds 1 ?_
  rw [rounds_succ]
  go_wp2
  go_ret
  exact ⟨rfl, Below.refl _ _⟩
theorem rshape_at (v : Value) (xs : Tks) (hm : xs.length ≤ 100000) (w : World) (hv : TksAt w v xs) : Calls Try.prog 13 #[v] w fun e w' => e = .returned (.string (shB xs)) ∧ Below w.heap.size w w' := by
  rcases hv with ⟨b, o, cap, rfl, _, hb, hc⟩ | ⟨rfl, a, cap, rfl⟩
  · exact rshape_some b o _ cap xs rfl hm w hb hc
  · exact rshape_none a cap w

/-- The words' texts. -/
def wdX (xs : Tks) : List ByteArray := (xs.filter fun x => isW x.1.data.toList).map (·.1)
theorem wdX_snoc (xs : Tks) (x : ByteArray × Int) : wdX (xs ++ [x]) = wdX xs ++ (if isW x.1.data.toList then [x.1] else []) := by
  unfold wdX
  rw [List.filter_append, List.map_append]
  by_cases h : isW x.1.data.toList = true
  · simp [h]
  · simp [h]
def stC (l : List ByteArray) : List Value := l.map Value.string
theorem stC_snoc (l : List ByteArray) (t : ByteArray) : stC (l ++ [t]) = stC l ++ [.string t] := by simp [stC]
theorem Try.info9 : (Try.prog.info? 9).map (fun i => (i.zero, i.size, i.bytes)) = some (some (.string ⟨#[]⟩), 1, 16) := by kernel_rfl
/-- A slice of texts that the call made. -/
def StP (w : World) (l : List ByteArray) (e : Ending) (w' : World) : Prop :=
  (∃ v, e = .returned v ∧ w'.ownsRow w.heap.size 9 1 v l.length (stC l)) ∧ Below w.heap.size w w'
set_option maxHeartbeats 4000000 in
set_option maxRecDepth 100000 in
theorem rwords_some (b o n cap : Nat) (xs : Tks) (hn : xs.length = n) (hm : n ≤ 100000) (w : World) (hb : b < w.heap.size) (hc : Tksat w b o xs) :
    Calls Try.prog 16 #[.slice (some ⟨b, o, none⟩) n cap] w fun e w' => StP w (wdX xs) e w' := by
  obtain ⟨i0, hi, hz0, hz1, hz2⟩ := info_parts Try.info9
  have HC := Lib.hid hc
  have HN := Lib.hid hn
  clear hc hn
  go_enter Try.func16, Try.ntmps16
  go_wp2
  go_loopw [3, 4] (fun sv a wr => ∃ (j m : Nat) (l : List ByteArray), a = .int .i64 (j : Int) ∧ j ≤ n ∧ m ≤ j ∧ wr.ownsRow w.heap.size 9 1 sv m (stC l) ∧ Hid (l.length = m) ∧ Hid (wdX (xs.take j) = l) ∧ Below w.heap.size w wr) (fun _ a _ => n - (intOf a).toNat)
  case atStart => exact ⟨0, 0, [], rfl, Nat.zero_le _, Nat.le_refl _, World.ownsRow_nil _ _ _ _, Lib.hid rfl, Lib.hid rfl, Below.refl _ _⟩
  case round =>
    obtain ⟨j, m, l, rfl, hj, hmj, hown, hL, hR, hB⟩ := hrel
    have hsz := hB.size
    by_cases hlt : j < n
    · have hjx : j < xs.length := by rw [HN.out]; exact hlt
      obtain ⟨T, hT⟩ : ∃ T, xs[j].1 = T := ⟨_, rfl⟩
      obtain ⟨q, hq⟩ : ∃ q, xs[j].2 = q := ⟨_, rfl⟩
      have hcc := (HC.out.below hb hB) j hjx
      rw [hT, hq] at hcc
      obtain ⟨c0, c1⟩ := hcc
      obtain ⟨v, hv⟩ : ∃ v, isW T.data.toList = v := ⟨_, rfl⟩
      have HW := Lib.hid (fun w => rword8_any T q v hv w)
      have hst : wdX (xs.take (j + 1)) = l ++ (if v then [T] else []) := by rw [take_snoc xs j hjx, wdX_snoc, hR.out, hT, hv]
      clear hv hT hq hR
      cases v
      · have HS := Lib.hid (show wdX (xs.take (j + 1)) = l by rw [hst]; simp)
        clear hst
        go_wp2_with (go_at_call 29; ((with_reducible refine (HW.out _).mono ?_); rintro e w1 ⟨rfl, b1⟩))
        go_roundw
        case rel => exact ⟨j + 1, m, l, by go_num, by omega, by omega, own_below hown b1, hL, HS, bch hB b1⟩
        case measure => simp [intOf]; omega
      · have HS := Lib.hid (show wdX (xs.take (j + 1)) = l ++ [T] by rw [hst]; simp)
        clear hst
        go_wp2_with (first | (go_at_call 29; ((with_reducible refine (HW.out _).mono ?_); rintro e w1 ⟨rfl, b1⟩; have c2 := (b1.cell (by exact Nat.lt_of_lt_of_le hb hB.size)).trans c0; have B1 := bch hB b1; have hown1 := own_below hown b1; have hs1 := B1.size)) | (at_builtin; refine wpList_append_own _ rfl _ _ 37 rfl w.heap.size 9 i0 (.string ⟨#[]⟩) 1 16 Try.underlying37 hi hz0 hz1 hz2 rfl (by decide) _ m _ rfl (hown1.alloc _) ⟨w1.heap.size, 0, none⟩ 1 1 [.string T] rfl rfl (World.news_of_block (cs := #[.string T]) (t := 9) (fr := (0, 0)) (heap_alloc_last w1 _)) (by simp [Value.oneCell']) (by unfold maxLen; omega) (by omega) (by simp; omega) ?_; intro v' w3 hown3 hgrow3 _))
        go_roundw
        case rel =>
          refine ⟨j + 1, m + 1, l ++ [T], by go_num, by omega, by omega, ?_, Lib.hid ?_, HS, ?_⟩
          · rw [stC_snoc]; exact hown3
          · rw [List.length_append, hL.out]; rfl
          · exact (B1.alloc hs1 _).grown hgrow3 (by simp; omega) (own_base hown1)
        case measure => simp [intOf]; omega
    · obtain rfl : j = n := by omega
      have HS := Lib.hid (show wdX xs = l by rw [← hR.out, List.take_of_length_le (by rw [HN.out]; exact Nat.le_refl _)])
      clear hR
      obtain ⟨va, vc, rfl⟩ := owns_slice hown
      go_wp2
      go_ret
      refine ⟨⟨_, rfl, ?_⟩, hB⟩
      rw [HS.out, hL.out]; exact hown
theorem rwords_none (a : Option Addr) (cap : Nat) (w : World) : Calls Try.prog 16 #[.slice a 0 cap] w fun e w' => StP w (wdX []) e w' := by
  go_enter Try.func16, Try.ntmps16
  go_wp2
  refine wp_loop_rounds 1 ?_
  rw [rounds_succ]
  go_wp2
  go_ret
  exact ⟨⟨_, rfl, World.ownsRow_nil _ _ _ _⟩, Below.refl _ _⟩
theorem rwords_at (v : Value) (xs : Tks) (hm : xs.length ≤ 100000) (w : World) (hv : TksAt w v xs) : Calls Try.prog 16 #[v] w fun e w' => StP w (wdX xs) e w' := by
  rcases hv with ⟨b, o, cap, rfl, _, hb, hc⟩ | ⟨rfl, a, cap, rfl⟩
  · exact rwords_some b o _ cap xs rfl hm w hb hc
  · exact rwords_none a cap w
/-- v is a slice of texts. -/
def StAt (w : World) (v : Value) (l : List ByteArray) : Prop :=
  (∃ b o cap, v = .slice (some ⟨b, o, none⟩) l.length cap ∧ b < w.heap.size ∧ ∀ j, j < l.length → w.cell? ⟨b, o + j, none⟩ = some (.string (l.getD j ByteArray.empty))) ∨ (l = [] ∧ ∃ a cap, v = .slice a 0 cap)
theorem StAt.below {w w' : World} {v : Value} {l : List ByteArray} (h : StAt w v l) (hb : Below w.heap.size w w') : StAt w' v l := by
  rcases h with ⟨b, o, cap, rfl, hlt, hc⟩ | h
  · exact .inl ⟨b, o, cap, rfl, Nat.lt_of_lt_of_le hlt hb.size, fun j hj => (hb.cell (by exact hlt)).trans (hc j hj)⟩
  · exact .inr h
theorem own_st {w : World} {base e : TypeId} {v : Value} {l : List ByteArray} (h : w.ownsRow base e 1 v l.length (stC l)) : StAt w v l := by
  rcases h.2 with ⟨rfl, h0⟩ | ⟨g, cap, cur, rfl, _, hh, hcp, _, _, _⟩
  · exact .inr ⟨List.eq_nil_of_length_eq_zero h0, _, _, rfl⟩
  · refine .inl ⟨g, 0, cap, rfl, lt_of_block hh, fun j hj => ?_⟩
    have k1 := h.cells (g := g) rfl j (.string (l.getD j ByteArray.empty)) (by simp [stC, List.getD, List.getElem?_eq_getElem hj])
    rw [Nat.zero_add]; rwa [add0] at k1

/-! ### what the program's functions are to return -/
/-- Tokens. -/
def PT (w : World) (s : ByteArray) (e : Ending) (w' : World) : Prop :=
  ∃ v at_ er, e = .returned (.tuple #[v, .int .i64 at_, .int .i64 er]) ∧ Below w.heap.size w w' ∧
    ((0 ≤ bad s ∧ at_ = bad s ∧ er = 2 ∧ ∃ a cap, v = .slice a 0 cap) ∨ (bad s = -1 ∧ at_ = 0 ∧ er = 0 ∧ TksAt w' v (tkX s (tks s))))
/-- A list of texts. -/
def PS (w : World) (l : List ByteArray) (e : Ending) (w' : World) : Prop := (∃ v, e = .returned v ∧ StAt w' v l) ∧ Below w.heap.size w w'
theorem PS_of {w w' : World} {l : List ByteArray} {e : Ending} (h : StP w l e w') : PS w l e w' := by
  obtain ⟨⟨v, he, ho⟩, hb⟩ := h
  exact ⟨⟨v, he, own_st ho⟩, hb⟩
theorem tkX_len (s : ByteArray) (ts : List (Nat × Nat)) : (tkX s ts).length = ts.length := by simp [tkX]
end Go.Proofs.Ytdpdeelnabomlaa.L8
