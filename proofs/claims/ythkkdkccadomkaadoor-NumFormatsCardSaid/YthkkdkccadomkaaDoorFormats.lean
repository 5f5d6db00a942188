/- NumFormats: for every number of 64 bits, the law 'Format returns the numeral of the reference, whose value is the number' returns true, and its argument reads as before; the row's listed variables are tied to the program's text. No other condition. -/
import Derived.Test.YthkkdkccadomkaaDoorRformat
import Derived.Test.YthkkdkccadomkaaDoorLaw
import Derived.Test.YthkkdkccadomkaaDoorCards
import Derived.Test.YthkkdkccadomkaaDoorTie
import Derived.SevenTiedAt
namespace Go.Proofs.YthkkdkccadomkaaDoor
open Go.ChangeShapes Go.WideShapes Go.ChangeAt Go.RowKit

theorem rd_append (base : Nat) : ∀ (l m : List UInt8) (v : Nat) (o : Bool), rd base (l ++ m) v o = (rd base l v o).bind fun p => rd base m p.1 p.2
  | [], m, v, o => rfl
  | c :: l, m, v, o => by
    simp only [List.cons_append, rd]
    split
    · exact rd_append base l m _ _
    · rfl

theorem dgn_dec (d : Nat) (h : d < 10) : dgn (UInt8.ofNat (48 + d)) = d := by
  rcases (show d = 0 ∨ d = 1 ∨ d = 2 ∨ d = 3 ∨ d = 4 ∨ d = 5 ∨ d = 6 ∨ d = 7 ∨ d = 8 ∨ d = 9 by omega) with rfl | rfl | rfl | rfl | rfl | rfl | rfl | rfl | rfl | rfl <;> decide

theorem rd_one (c : UInt8) (v d : Nat) (hc : dgn c = d) (hd : d < 10) (hv : v * 10 + d < 18446744073709551616) : rd 10 [c] v false = some (v * 10 + d, false) := by
  simp only [rd, hc, if_pos hd]
  rw [Nat.mod_eq_of_lt hv, decide_eq_false (by omega)]
  rfl

theorem rd_dec (n : Nat) : ∀ u, u ≤ n → u < 18446744073709551616 → rd 10 (Lib.decDigits u) 0 false = some (u, false) := by
  induction n with
  | zero =>
    intro u h _
    obtain rfl : u = 0 := by omega
    rw [Lib.decDigits, dif_pos (by decide)]
    exact rd_one _ 0 0 (dgn_dec 0 (by decide)) (by decide) (by decide)
  | succ n ih =>
    intro u h hu
    rw [Lib.decDigits]
    split
    · rename_i h10
      have := rd_one (UInt8.ofNat (48 + u)) 0 u (dgn_dec u h10) h10 (by omega)
      simpa using this
    · rename_i h10
      rw [rd_append, ih (u / 10) (by omega) (by omega)]
      have := rd_one (UInt8.ofNat (48 + u % 10)) (u / 10) (u % 10) (dgn_dec _ (by omega)) (by omega) (by omega)
      simp only [Option.bind_some, this]
      congr 2
      omega

theorem dec_chars (n : Nat) : ∀ u, u ≤ n → ∀ c ∈ Lib.decDigits u, dgn c < 10 := by
  induction n with
  | zero =>
    intro u h c hc
    obtain rfl : u = 0 := by omega
    rw [Lib.decDigits, dif_pos (by decide)] at hc
    simp only [List.mem_singleton] at hc
    rw [hc, dgn_dec 0 (by decide)]
    decide
  | succ n ih =>
    intro u h c hc
    rw [Lib.decDigits] at hc
    split at hc
    · rename_i h10
      simp only [List.mem_singleton] at hc
      rw [hc, dgn_dec u h10]
      exact h10
    · rename_i h10
      rcases List.mem_append.1 hc with h1 | h1
      · exact ih (u / 10) (by omega) c h1
      · simp only [List.mem_singleton] at h1
        rw [h1, dgn_dec _ (by omega)]
        omega

theorem dec_ne (u : Nat) : Lib.decDigits u ≠ [] := by
  intro h
  have := congrArg List.length h
  rw [Lib.decDigits] at this
  split at this
  · simp at this
  · simp at this

theorem dec_no (u : Nat) (p : List UInt8) (c : UInt8) (hc : c ∈ p) (hd : ¬ dgn c < 10) : Lib.hasPrefix (Lib.decDigits u) p = false := by
  cases h : Lib.hasPrefix (Lib.decDigits u) p with
  | false => rfl
  | true =>
    have h1 : p <+: Lib.decDigits u := List.isPrefixOf_iff_prefix.1 h
    exact absurd (dec_chars u u (Nat.le_refl _) c (h1.subset hc)) hd

theorem us_dec (u : Nat) (hu : u < 18446744073709551616) : us (Lib.decDigits u) = some (u, false) := by
  have h1 := dec_no u [48, 120] 120 (by decide) (by decide)
  have h2 : (Lib.decDigits u).isEmpty = false := by
    cases h : Lib.decDigits u with
    | nil => exact absurd h (dec_ne u)
    | cons a l => rfl
  simp only [us, h1, h2]
  exact rd_dec u u (Nat.le_refl _) hu

theorem ps_itoa (x : Int) (h0 : -9223372036854775808 ≤ x) (h1 : x ≤ 9223372036854775807) : ps (Lib.itoa x) 64 = (x, 0) := by
  by_cases hneg : x < 0
  · have e : Lib.itoa x = 45 :: Lib.decDigits x.natAbs := by rw [Lib.itoa, if_pos hneg]
    have hp : Lib.hasPrefix (45 :: Lib.decDigits x.natAbs) [45] = true := by simp [Lib.hasPrefix, List.isPrefixOf]
    have ht : Lib.trimPrefix (45 :: Lib.decDigits x.natAbs) [45] = Lib.decDigits x.natAbs := by rw [Lib.trimPrefix, hp]; rfl
    have hg : (x.natAbs : Int) ≤ gr true 64 := by rw [show gr true 64 = 9223372036854775808 from rfl]; omega
    have hs : sx 64 (-(x.natAbs : Int)) = x := by
      have : -(x.natAbs : Int) = x := by omega
      rw [this]
      simp only [sx]
      simp
      omega
    unfold ps
    rw [e, ht, us_dec _ (by omega), hp]
    simp only [show isW 64 = true from rfl, decide_eq_true hg, if_true, hs]
    rfl
  · have e : Lib.itoa x = Lib.decDigits x.toNat := by rw [Lib.itoa, if_neg hneg]
    have hp : Lib.hasPrefix (Lib.decDigits x.toNat) [45] = false := dec_no _ [45] 45 (by decide) (by decide)
    have ht : Lib.trimPrefix (Lib.decDigits x.toNat) [45] = Lib.decDigits x.toNat := by rw [Lib.trimPrefix, hp]; rfl
    have hg : (x.toNat : Int) ≤ gr false 64 := by rw [show gr false 64 = 18446744073709551615 from rfl]; omega
    have hs : sx 64 (x.toNat : Int) = x := by
      have : (x.toNat : Int) = x := by omega
      rw [this]
      simp only [sx]
      simp
      omega
    unfold ps
    rw [e, ht, us_dec _ (by omega), hp]
    simp only [show isW 64 = true from rfl, decide_eq_true hg]
    show (sx 64 (x.toNat : Int), (0 : Int)) = (x, 0)
    rw [hs]

theorem format_at (x : Int) (t : ByteArray) (w : World) (h0 : -9223372036854775808 ≤ x) (h1 : x ≤ 9223372036854775807) (ht : Tabs w) (h : t = ⟨(Lib.itoa x).toArray⟩) :
    Calls Tryd.prog 12 #[.int .i64 x] w fun e w' => e = .returned (.string t) ∧ Below w.heap.size w w' := by
  subst h; exact format_any x h0 h1 w ht
theorem rformat_at (x : Int) (t : ByteArray) (w : World) (h0 : -9223372036854775808 ≤ x) (h1 : x ≤ 9223372036854775807) (h : t = ⟨(Lib.itoa x).toArray⟩) :
    Calls Tryd.prog 13 #[.int .i64 x] w fun e w' => e = .returned (.string t) ∧ w = w' := by
  subst h; exact rformat_any x w h0 h1
theorem parse_is (s : ByteArray) (b X E : Int) (w : World) (hw : Wid w) (h : ps s.data.toList b = (X, E)) :
    Calls Tryd.prog 10 #[.string s, .int .i64 b] w fun e w' => e = .returned (.tuple #[.int .i64 X, .int .i64 E]) ∧ Below w.heap.size w w' := by
  have := parse_any s b w hw
  rwa [h] at this

set_option maxHeartbeats 1000000 in
set_option maxRecDepth 100000 in
theorem formats_walk (x : Int) (w0 : (Lit.int .i64 x).wf = true) (w : World) (ht : Tabs w) :
    Calls Tryd.prog 4 #[.int .i64 x] w fun e w' => e = .returned (.bool true) ∧ Below w.heap.size w w' := by
  obtain ⟨hx0, hx1⟩ := bounds_i64 w0
  obtain ⟨t, hte⟩ : ∃ t : ByteArray, t = ⟨(Lib.itoa x).toArray⟩ := ⟨_, rfl⟩
  have HP : Hid (ps t.data.toList 64 = (x, 0)) := Lib.hid (by rw [hte]; exact ps_itoa x hx0 hx1)
  have HT := Lib.hid hte
  clear hte w0
  go_enter Tryd.func4, Tryd.ntmps4
  go_wp2_with (go_at_call 12; refine (format_at _ t _ hx0 hx1 ht HT.out).mono ?_; rintro e w1 ⟨rfl, hb1⟩)
  have ht1 := ht.below hb1
  go_wp2_with (go_at_call 10; refine (parse_is _ _ x 0 _ ht1.wid HP.out).mono ?_; rintro e w2 ⟨rfl, hb2⟩)
  have ht2 := ht1.below hb2
  go_wp2_with (go_at_call 9; ((with_reducible refine (alive_any _ ht2).mono ?_); rintro e w3 ⟨rfl, hb3⟩))
  go_wp2_with (go_at_call 13; refine (rformat_at _ t _ hx0 hx1 HT.out).mono ?_; rintro e w' ⟨rfl, rfl⟩)
  go_ret
  exact ⟨rfl, bch (bch hb1 hb2) hb3⟩

set_option maxRecDepth 100000 in
theorem formats_lifted (os : Os) (started : os.Started) (H : Type) (enc : TypeId × Value → H) :
    ReturnsInHanded {} Tryd.checked os 4 .any (fun w args => (Rows.numFormatsSpec.pre enc Tryd.prog Tryd.f4 [] false w args ∧ laidMetH Tryd.prog laid4 w) ∧ sizedMet enc Tryd.prog Tryd.f4 (OpenSpec.ofChange Rows.numFormatsSpec) false w args)
      (Rows.numFormatsSpec.post enc Tryd.prog Tryd.f4 false true false false) := by
  refine returnsInHanded_of_change_and (C := Tryd.checked) (X := fun w _ => laidMetH Tryd.prog laid4 w) (fun _ _ _ hh h => h.of_heap hh) own started (by kernel_rfl) Tryd.func4
    (ChangeSpec.witness_shaped (enc := enc) (C := Tryd.checked) (os := os) (X := fun w _ => laidMetH Tryd.prog laid4 w) false (World.doorLaid Tryd.prog 4000 os) #[.int .i64 0] 8 rfl (World.shaped_of_RefB (by kernel_rfl) (by kernel_rfl)) (by kernel_rfl) (by kernel_rfl) (by kernel_rfl) (door_met os _)) ?_
  intro W base args ds gs before hval0 hW _ _ hL _
  have hval : ∀ (j : Nat) t v, Tryd.f4.params[j]? = some t → args[j]? = some v → Value.okWide Tryd.prog W .any base t v := hval0
  have hW' := hW
  obtain ⟨p, q, hA0, hV, rfl, hfz, hnd⟩ := hW
  have hA : DataW.TrodAll enc Tryd.prog W 0 (fun _ => true) true Tryd.f4.params.toList args.toList ds p := hA0
  rw [Tryd.params4] at hA hval
  obtain ⟨v0, vs0, d0, ds0, p0, q0, hargs, rfl, rfl, h0, r0⟩ := trodAll_cons hA
  obtain ⟨rfl, rfl, rfl⟩ := trodAll_nil r0
  obtain rfl : args = #[v0] := by cases args; simp_all
  obtain ⟨rfl, rfl⟩ := trodVars_none hV
  obtain ⟨a0, rfl, rfl, rfl, w0⟩ := open_int Tryd.underlying2 (hval 0 2 v0 rfl rfl) h0
  clear hA0 hval0
  simp only [List.append_nil] at hW'
  refine (formats_walk a0 w0 W (tabs_of hL)).mono fun e W' ⟨he, hg⟩ => ?_
  subst he
  exact ⟨_, rfl, law_post hW' rfl rfl Tryd.underlying4 rfl (fun sp _ => (trodAll_cons_mk (shut_int Tryd.underlying2 w0) trodAll_mk0)) hg⟩

theorem formats_said : Rows.NumFormatsSaid :=
  OpenClaim.holds_of_wide 4 Tryd.f4 rfl rfl rfl rfl rfl rfl rfl ⟨rfl, rfl, rfl, rfl, rfl⟩ rfl rfl rfl rfl rfl (by kernel_rfl) Tryd.func4 (by kernel_rfl)
    (of_decide_eq_true (by kernel_rfl)) (by unfold Func.isWrapper; first | (rw [if_pos (by decide +kernel)]; kernel_rfl) | (rw [if_neg (by decide +kernel)]; exact ⟨rfl, rfl⟩))
    (fun os started H enc _ => formats_lifted os started H enc)

/-- The card: the row's listed variables are tied to the program's text. -/
theorem formats_card : Rows.NumFormatsCardSaid :=
  Claim7.holds_tied_plain_at .later [] [.data, .data, .data, .data] true (true, "d95971b17b25aad7ef13338073ce59aea5934288314a033331a65b3218f77ede") false
    formats_said (fun _ h => by cases h) (by kernel_rfl) (fun _ h => by cases h) numFormats_row_tie rfl ⟨rfl, rfl⟩ (by kernel_rfl) rfl
    (fun f fn hf hfn => by
      obtain rfl : f = 4 := Option.some.inj ((show Tryd.prog.funcNamed "slotcode/slotcodelaw01.NumFormats" = some 4 by kernel_rfl).symm.trans hf) |>.symm
      obtain rfl : fn = Tryd.f4 := (Option.some.inj (Tryd.func4.symm.trans hfn)).symm
      exact ⟨by kernel_rfl, fun j t ht => by
        rw [Tryd.params4] at ht
        have hm : t ∈ [2] := by simpa using Array.mem_of_getElem? ht
        have hall : ([2].all fun u => !Tryd.prog.wantsStandIn u) = true := by kernel_rfl
        exact (show Tryd.prog.wantsStandIn t = false by simpa using List.all_eq_true.1 hall t hm)⟩)
    (by kernel_rfl)
#print axioms formats_card
end Go.Proofs.YthkkdkccadomkaaDoor
