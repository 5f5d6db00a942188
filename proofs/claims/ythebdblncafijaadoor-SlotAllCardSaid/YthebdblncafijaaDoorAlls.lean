/- SlotAll: for all bytes, the law 'All returns the instructions of the reference, or the slot and the error; Join returns the bytes again' returns true, and its argument reads as before; the row's listed variable is tied to the program's text. No other condition. -/
import Derived.Test.YthebdblncafijaaDoorRall
import Derived.Test.YthebdblncafijaaDoorLaw
import Derived.Test.YthebdblncafijaaDoorCards
import Derived.Test.YthebdblncafijaaDoorTie
import Derived.SevenTiedAt
namespace Go.Proofs.YthebdblncafijaaDoor
open Go.ChangeShapes Go.WideShapes Go.ChangeAt Go.RowKit

open L3 L1 L4

theorem allP_ok {w : World} {r : List Rdg} {e : Ending} {w' : World} (h : AllP w r e w') (h0 : (la r).e = 0) :
    ∃ a c, e = .returned (.tuple #[.slice a r.length c, .int .i64 0, .int .i64 0]) ∧ InAt w' (.slice a r.length c) (r.map fun x => x.x) ∧ Below w.heap.size w w' := by
  obtain ⟨h, hb⟩ := h
  rcases h with ⟨h, -⟩ | ⟨-, v', rfl, ho⟩
  · exact absurd h0 h
  · obtain ⟨a, c, rfl⟩ := owns_slice ho
    rw [insL_map] at ho
    exact ⟨a, c, rfl, own_ins ho, hb⟩
theorem allP_no {w : World} {r : List Rdg} {e : Ending} {w' : World} (h : AllP w r e w') (h0 : (la r).e ≠ 0) :
    e = .returned (.tuple #[.slice none 0 0, .int .i64 ((la r).at' : Int), .int .i64 (la r).e]) ∧ Below w.heap.size w w' := by
  obtain ⟨h, hb⟩ := h
  rcases h with ⟨-, rfl⟩ | ⟨h, -⟩
  · exact ⟨rfl, hb⟩
  · refine absurd ?_ h0
    cases r with
    | nil => rfl
    | cons y q => exact h _ (by simp only [la]; rw [List.getLastD_eq_getLast?, List.getLast?_eq_some_getLast (by simp)]; exact List.getLast_mem _)
theorem la_cons (x y : Rdg) (q : List Rdg) : la (x :: y :: q) = la (y :: q) := rfl
/-- Where all readings are good, their encodings are the bytes. -/
theorem rds_join : ∀ (n a : Nat) (l : List UInt8), l.length ≤ n → (la (rds n a l)).e = 0 → joinB ((rds n a l).map fun x => x.x) = l ∧ ∀ x ∈ (rds n a l).map (fun x => x.x), x.err = 0 ∧ x.fits
  | 0, a, l, h, _ => by
    have : l = [] := List.eq_nil_of_length_eq_zero (by omega)
    subst this
    simp [rds, joinB]
  | n + 1, a, l, h, he => by
    by_cases hl : l = []
    · subst hl
      simp [rds, joinB]
    by_cases hd : (decF l).2.2 = 0
    · obtain ⟨s, hs, h1, h2, h8, g1, g2, g3⟩ := dec_good l hd
      rw [rds_go n a s l hl hd hs] at he ⊢
      have he' : (la (rds n (a + s) (l.drop (8 * s)))).e = 0 := by
        cases hq : rds n (a + s) (l.drop (8 * s)) with
        | nil => rfl
        | cons y q => rw [hq, la_cons] at he; exact he
      obtain ⟨i1, i2⟩ := rds_join n (a + s) (l.drop (8 * s)) (by rw [List.length_drop]; omega) he'
      refine ⟨?_, ?_⟩
      · simp only [List.map_cons]
        rw [show ∀ (x : Ix) (q : List Ix), joinB (x :: q) = x.bytes ++ joinB q from fun _ _ => rfl, i1, g3, List.take_append_drop]
      · intro x hx
        rcases List.mem_cons.1 hx with rfl | hx
        · exact ⟨g1, g2⟩
        · exact i2 x hx
    · rw [rds_bad n a l hl hd] at he
      exact absurd he hd

set_option maxHeartbeats 4000000 in
set_option maxRecDepth 100000 in
theorem all_long (a : Option Addr) (n cap : Nat) (w : World) (hn : 4000 < n) (hw : Wid w) : Calls Tryd.prog 7 #[.slice a n cap] w fun e w' => e = .returned (.bool true) ∧ Below w.heap.size w w' := by
  have hn' : (4000 : Int) < (n : Int) := by omega
  go_enter Tryd.func7, Tryd.ntmps7
  go_wp2_with (go_at_call 11; ((with_reducible refine (alive_any _ hw).mono ?_); rintro e w3 ⟨rfl, b3⟩))
  go_ret
  exact ⟨rfl, b3⟩
set_option maxHeartbeats 4000000 in
set_option maxRecDepth 100000 in
theorem all_good (a : Option Addr) (n cap : Nat) (l : List UInt8) (w : World) (hn : l.length = n) (hm : n ≤ 4000) (hw : Wid w) (hv : BsAt w (.slice a n cap) l) (r : List Rdg) (hr : rds l.length 0 l = r) (h0 : (la r).e = 0) : Calls Tryd.prog 7 #[.slice a n cap] w fun e w' => e = .returned (.bool true) ∧ Below w.heap.size w w' := by
  have HW := Lib.hid hw
  have HV := Lib.hid hv
  have hrl : r.length ≤ 4000 := by have := rds_length l.length 0 l; rw [hr] at this; omega
  obtain ⟨j1, j2⟩ := rds_join l.length 0 l (Nat.le_refl _) (by rw [hr]; exact h0)
  rw [hr] at j1 j2
  obtain ⟨m, hm'⟩ : ∃ m, r.length = m := ⟨_, rfl⟩
  rw [hm'] at hrl
  have HA := Lib.hid (fun (w : World) (hw : Wid w) (hv : BsAt w (.slice a n cap) l) => ((by have := all_at a cap l l.length (Nat.le_refl _) (by omega) w hw (by rw [hn]; exact hv); rw [hr, hn] at this; exact this : Calls Tryd.prog 17 #[.slice a n cap] w fun e w' => AllP w r e w')).mono fun e w' h => (by have := allP_ok h h0; rw [hm'] at this; exact this : ∃ a c, e = .returned (.tuple #[.slice a m c, .int .i64 0, .int .i64 0]) ∧ InAt w' (.slice a m c) (r.map fun x => x.x) ∧ Below w.heap.size w w'))
  have HR := Lib.hid (fun (w : World) (hv : BsAt w (.slice a n cap) l) => ((by have := rall_at _ l l.length (Nat.le_refl _) (by omega) w hv; rw [hr] at this; exact this : Calls Tryd.prog 18 #[.slice a n cap] w fun e w' => AllP w r e w')).mono fun e w' h => (by have := allP_ok h h0; rw [hm'] at this; exact this : ∃ a c, e = .returned (.tuple #[.slice a m c, .int .i64 0, .int .i64 0]) ∧ InAt w' (.slice a m c) (r.map fun x => x.x) ∧ Below w.heap.size w w'))
  obtain ⟨xs, hxs⟩ : ∃ xs, (r.map fun x => x.x) = xs := ⟨_, rfl⟩
  have hxl : xs.length = m := by rw [← hxs, List.length_map]; exact hm'
  rw [hxs] at HA HR j1 j2
  have HS := Lib.hid (fun v v' w h h' => isame_at v v' xs w (by omega) h h')
  have HJ := Lib.hid (fun (v : Value) (w : World) hw hv => (by have := join_ok v xs n w hw (by omega) hv (fun x hx => (j2 x hx).2) (fun x hx => (j2 x hx).1) (by rw [j1]; exact hn); rw [j1] at this; exact this : Calls Tryd.prog 20 #[v] w fun e w' => ∃ a c, e = .returned (.tuple #[.slice a n c, .int .i64 0, .int .i64 0]) ∧ BsAt w' (.slice a n c) l ∧ Below w.heap.size w w'))
  have HE := Lib.hid (fun v v' w h h' => same_at v v' l w (by omega) h h')
  have hn' : ¬ (4000 : Int) < (n : Int) := by omega
  clear hw hv hr h0 j1 j2 hm' hxs hxl hn hm
  go_enter Tryd.func7, Tryd.ntmps7
  go_wp2_with (first | (go_at_call 17; ((with_reducible refine (HA.out _ HW.out HV.out).mono ?_); rintro e w1 ⟨a1, c1, rfl, i1, b1⟩)) | (go_at_call 18; ((with_reducible refine (HR.out _ (HV.out.below b1)).mono ?_); rintro e w2 ⟨a2, c2, rfl, i2, b2⟩; have B2 := bch b1 b2; have i1' := i1.below b2)) | (go_at_call 19; ((with_reducible refine (HS.out _ _ _ i1' i2).mono ?_); rintro e w3 ⟨rfl, b3⟩; have B3 := bch B2 b3; have i3 := i1'.below b3)) | (go_at_call 20; ((with_reducible refine (HJ.out _ _ (wid_below HW.out B3) i3).mono ?_); rintro e w4 ⟨a4, c4, rfl, i4, b4⟩; have B4 := bch B3 b4)) | (go_at_call 11; ((with_reducible refine (alive_any _ (wid_below HW.out B4)).mono ?_); rintro e w5 ⟨rfl, b5⟩; have B5 := bch B4 b5; have i5 := (i4.below b5).v; have v5 := (HV.out.below B5).v)) | (go_at_call 12; ((with_reducible refine (HE.out _ _ _ i5 v5).mono ?_); rintro e w6 ⟨rfl, b6⟩)))
  go_ret
  exact ⟨rfl, bch B5 b6⟩
set_option maxHeartbeats 4000000 in
set_option maxRecDepth 100000 in
theorem all_bad (a : Option Addr) (n cap : Nat) (l : List UInt8) (w : World) (hn : l.length = n) (hm : n ≤ 4000) (hw : Wid w) (hv : BsAt w (.slice a n cap) l) (r : List Rdg) (hr : rds l.length 0 l = r) (h0 : (la r).e ≠ 0) : Calls Tryd.prog 7 #[.slice a n cap] w fun e w' => e = .returned (.bool true) ∧ Below w.heap.size w w' := by
  have HW := Lib.hid hw
  have HV := Lib.hid hv
  have hne : ((la r).e != 0) = true := by simpa using h0
  have HA := Lib.hid (fun (w : World) (hw : Wid w) (hv : BsAt w (.slice a n cap) l) => ((by have := all_at a cap l l.length (Nat.le_refl _) (by omega) w hw (by rw [hn]; exact hv); rw [hr, hn] at this; exact this : Calls Tryd.prog 17 #[.slice a n cap] w fun e w' => AllP w r e w')).mono fun e w' h => allP_no h h0)
  have HR := Lib.hid (fun (w : World) (hv : BsAt w (.slice a n cap) l) => ((by have := rall_at _ l l.length (Nat.le_refl _) (by omega) w hv; rw [hr] at this; exact this : Calls Tryd.prog 18 #[.slice a n cap] w fun e w' => AllP w r e w')).mono fun e w' h => allP_no h h0)
  have HS := Lib.hid (fun w => isame_at (.slice none 0 0) (.slice none 0 0) [] w (by decide) ⟨none, 0, rfl, .inl rfl⟩ ⟨none, 0, rfl, .inl rfl⟩)
  have HJ := Lib.hid (fun (w : World) hw => join_ok (.slice none 0 0) [] 0 w hw (by decide) ⟨none, 0, rfl, .inl rfl⟩ (by simp) (by simp) rfl)
  generalize (la r).at' = at' at HA HR
  generalize (la r).e = er at HA HR hne
  have hn' : ¬ (4000 : Int) < (n : Int) := by omega
  clear hw hv hr h0 hn hm
  go_enter Tryd.func7, Tryd.ntmps7
  go_wp2_with (first | (go_at_call 17; ((with_reducible refine (HA.out _ HW.out HV.out).mono ?_); rintro e w1 ⟨rfl, b1⟩)) | (go_at_call 18; ((with_reducible refine (HR.out _ (HV.out.below b1)).mono ?_); rintro e w2 ⟨rfl, b2⟩; have B2 := bch b1 b2)) | (go_at_call 19; ((with_reducible refine (HS.out _).mono ?_); rintro e w3 ⟨rfl, b3⟩; have B3 := bch B2 b3)) | (go_at_call 20; ((with_reducible refine (HJ.out _ (wid_below HW.out B3)).mono ?_); rintro e w4 ⟨a4, c4, rfl, i4, b4⟩; have B4 := bch B3 b4)) | (go_at_call 11; ((with_reducible refine (alive_any _ (wid_below HW.out B4)).mono ?_); rintro e w5 ⟨rfl, b5⟩; have B5 := bch B4 b5)))
  go_ret
  exact ⟨rfl, B5⟩
theorem alls_walk (v : Value) (l : List UInt8) (w : World) (hv : BsAt w v l) (hw : Wid w) : Calls Tryd.prog 7 #[v] w fun e w' => e = .returned (.bool true) ∧ Below w.heap.size w w' := by
  have hv' := hv
  obtain ⟨a, cap, rfl, -⟩ := hv'
  by_cases hl : 4000 < l.length
  · exact all_long a _ cap w hl hw
  · by_cases h0 : (la (rds l.length 0 l)).e = 0
    · exact all_good a _ cap l w rfl (by omega) hw hv _ rfl h0
    · exact all_bad a _ cap l w rfl (by omega) hw hv _ rfl h0

set_option maxRecDepth 100000 in
theorem alls_lifted (os : Os) (started : os.Started) (H : Type) (enc : TypeId × Value → H) :
    ReturnsInHanded {} Tryd.checked os 7 .any (fun w args => (Rows.slotAllSpec.pre enc Tryd.prog Tryd.f7 [] false w args ∧ laidMetH Tryd.prog laid4 w) ∧ sizedMet enc Tryd.prog Tryd.f7 (OpenSpec.ofChange Rows.slotAllSpec) false w args)
      (Rows.slotAllSpec.post enc Tryd.prog Tryd.f7 false true false false) := by
  refine returnsInHanded_of_change_and (C := Tryd.checked) (X := fun w _ => laidMetH Tryd.prog laid4 w) (fun _ _ _ hh h => h.of_heap hh) own started (by kernel_rfl) Tryd.func7
    (ChangeSpec.witness_shaped (enc := enc) (C := Tryd.checked) (os := os) (X := fun w _ => laidMetH Tryd.prog laid4 w) false (World.doorLaid Tryd.prog 4000 os) #[.slice none 0 0] 8 rfl (World.shaped_of_RefB (by kernel_rfl) (by kernel_rfl)) (by kernel_rfl) (by kernel_rfl) (by kernel_rfl) (door_met os _)) ?_
  intro W base args ds gs before hval0 hW _ _ hL _
  have hval : ∀ (j : Nat) t v, Tryd.f7.params[j]? = some t → args[j]? = some v → Value.okWide Tryd.prog W .any base t v := hval0
  have hW' := hW
  obtain ⟨p, q, hA0, hV, rfl, hfz, hnd⟩ := hW
  have hA : DataW.TrodAll enc Tryd.prog W 0 (fun _ => true) true Tryd.f7.params.toList args.toList ds p := hA0
  rw [Tryd.params7] at hA hval
  obtain ⟨v0, vs0, d0, ds0, p0, q0, hargs, rfl, rfl, h0, r0⟩ := trodAll_cons hA
  obtain ⟨rfl, rfl, rfl⟩ := trodAll_nil r0
  obtain rfl : args = #[v0] := by cases args; simp_all
  obtain ⟨rfl, rfl⟩ := trodVars_none hV
  clear hA0 hval0
  simp only [List.append_nil] at hW'
  obtain ⟨l0, hl0⟩ := open_bytes (hval 0 24 v0 rfl rfl) h0
  have hlt0 : ∀ x ∈ p0, x.block < W.heap.size := fun x hx => by simpa using hW'.lt x (by simp [hx])
  refine (alls_walk v0 l0 W hl0 (tabs_of hL)).mono fun e W' ⟨he, hg⟩ => ?_
  subst he
  exact ⟨_, rfl, law_post_at hW' rfl rfl Tryd.underlying4 rfl (trodAll_mk1 (Below.trod laidOut (by kernel_rfl) (of_decide_eq_true (by kernel_rfl)) h0 hg hlt0)) hg⟩

theorem alls_said : Rows.SlotAllSaid :=
  OpenClaim.holds_of_wide 7 Tryd.f7 rfl rfl rfl rfl rfl rfl rfl ⟨rfl, rfl, rfl, rfl, rfl⟩ rfl rfl rfl rfl rfl (by kernel_rfl) Tryd.func7 (by kernel_rfl)
    (of_decide_eq_true (by kernel_rfl)) (by unfold Func.isWrapper; first | (rw [if_pos (by decide +kernel)]; kernel_rfl) | (rw [if_neg (by decide +kernel)]; exact ⟨rfl, rfl⟩))
    (fun os started H enc _ => alls_lifted os started H enc)

/-- The card: the row's listed variables are tied to the program's text. -/
theorem alls_card : Rows.SlotAllCardSaid :=
  Claim7.holds_tied_plain_at .later [] [.data] true (true, "7370c7ef35dfd77f2708cd0bf30d598406eb0cdf23cc79e1c137fbfec0eccda5") false
    alls_said (fun _ h => by cases h) (by kernel_rfl) (fun _ h => by cases h) slotAll_row_tie rfl ⟨rfl, rfl⟩ (by kernel_rfl) rfl
    (fun f fn hf hfn => by
      obtain rfl : f = 7 := Option.some.inj ((show Tryd.prog.funcNamed "slotcode/slotcodelaw05.SlotAll" = some 7 by kernel_rfl).symm.trans hf) |>.symm
      obtain rfl : fn = Tryd.f7 := (Option.some.inj (Tryd.func7.symm.trans hfn)).symm
      exact ⟨by kernel_rfl, fun j t ht => by
        rw [Tryd.params7] at ht
        have hm : t ∈ [24] := by simpa using Array.mem_of_getElem? ht
        have hall : ([24].all fun u => !Tryd.prog.wantsStandIn u) = true := by kernel_rfl
        exact (show Tryd.prog.wantsStandIn t = false by simpa using List.all_eq_true.1 hall t hm)⟩)
    (by kernel_rfl)
#print axioms alls_card
end Go.Proofs.YthebdblncafijaaDoor
