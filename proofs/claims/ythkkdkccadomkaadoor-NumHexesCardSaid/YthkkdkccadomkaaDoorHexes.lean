/- NumHexes: for all bytes, the law 'Hex returns the text of the reference, which Unhex inverts' returns true, and its argument reads as before; the row's listed variables are tied to the program's text. No other condition. -/
import Derived.Test.YthkkdkccadomkaaDoorRhex
import Derived.Test.YthkkdkccadomkaaDoorBytes
import Derived.Test.YthkkdkccadomkaaDoorLaw
import Derived.Test.YthkkdkccadomkaaDoorCards
import Derived.Test.YthkkdkccadomkaaDoorTie
import Derived.SevenTiedAt
namespace Go.Proofs.YthkkdkccadomkaaDoor
open Go.ChangeShapes Go.WideShapes Go.ChangeAt Go.RowKit

theorem ix_hx (k : Nat) (h : k < 16) : ix (hx k) = (k : Int) := by
  rcases (show k = 0 ∨ k = 1 ∨ k = 2 ∨ k = 3 ∨ k = 4 ∨ k = 5 ∨ k = 6 ∨ k = 7 ∨ k = 8 ∨ k = 9 ∨ k = 10 ∨ k = 11 ∨ k = 12 ∨ k = 13 ∨ k = 14 ∨ k = 15 by omega) with rfl | rfl | rfl | rfl | rfl | rfl | rfl | rfl | rfl | rfl | rfl | rfl | rfl | rfl | rfl | rfl <;> decide

theorem unh_hexOf : ∀ l : List UInt8, unh (hexOf l) = some l
  | [] => rfl
  | c :: l => by
    have e : hexOf (c :: l) = hx (c.toNat / 16) :: hx (c.toNat % 16) :: hexOf l := rfl
    have hc := c.toNat_lt
    rw [e]
    simp only [unh]
    rw [ix_hx _ (by omega), ix_hx _ (by omega), if_neg (by omega), unh_hexOf l]
    simp only [Option.map_some, Option.some.injEq, List.cons.injEq, and_true]
    have h1 : 16 * ((c.toNat / 16 : Nat) : Int).toNat + ((c.toNat % 16 : Nat) : Int).toNat = c.toNat := by omega
    rw [h1]
    exact UInt8.ofNat_toNat

theorem hex_of (v : Value) (l : List UInt8) (t : ByteArray) (w : World) (hn : l.length ≤ 3000) (hv : BytesAt w v l) (ht : t = ⟨(hexOf l).toArray⟩) :
    Calls Tryd.prog 14 #[v] w fun e w' => e = .returned (.string t) ∧ Below w.heap.size w w' := by
  subst ht
  rcases hv with ⟨b, off, cap, rfl, hc⟩ | ⟨rfl, a, cap, rfl⟩
  · by_cases h0 : l = []
    · subst h0; exact hex_nil _ cap w
    · have hp : 0 < l.length := List.length_pos_iff.2 h0
      exact hex_any b off _ cap l w rfl hn (World.block_lt_of_cell? w _ (hc 0 hp)) hc
  · exact hex_nil a cap w

theorem rhex_of (v : Value) (l : List UInt8) (t : ByteArray) (w : World) (hn : l.length ≤ 3000) (hv : BytesAt w v l) (ht : t = ⟨(hexOf l).toArray⟩) :
    Calls Tryd.prog 16 #[v] w fun e w' => e = .returned (.string t) ∧ ∃ m, w' = w.drewN m := by
  subst ht
  rcases hv with ⟨b, off, cap, rfl, hc⟩ | ⟨rfl, a, cap, rfl⟩
  · exact rhex_any b off _ cap l w rfl hn hc
  · exact rhex_nil a cap w

theorem bytes_drewN {w : World} {v : Value} {xs : List UInt8} (h : BytesAt w v xs) (m : Nat) : BytesAt (w.drewN m) v xs := h

set_option maxHeartbeats 2000000 in
set_option maxRecDepth 100000 in
theorem hexes_walk (a : Option Addr) (n cap : Nat) (l : List UInt8) (hl : l.length = n) (hn : n ≤ maxLen) (w : World) (hv : BytesAt w (.slice a n cap) l) (ht : Tabs w) :
    Calls Tryd.prog 5 #[.slice a n cap] w fun e w' => e = .returned (.bool true) ∧ Below w.heap.size w w' := by
  unfold maxLen at hn
  by_cases hbig : 3000 < n
  · clear hl hv
    go_enter Tryd.func5, Tryd.ntmps5
    go_wp2_with (go_at_call 9; ((with_reducible refine (alive_any _ ht).mono ?_); rintro e w1 ⟨rfl, hb1⟩))
    go_ret
    exact ⟨rfl, hb1⟩
  · have hl3 : l.length ≤ 3000 := by omega
    obtain ⟨t, hte⟩ : ∃ t : ByteArray, t = ⟨(hexOf l).toArray⟩ := ⟨_, rfl⟩
    have hts : t.size ≤ 6000 := by
      rw [hte]; show (hexOf l).toArray.size ≤ 6000
      rw [List.size_toArray, hexOf_len]; omega
    have HU : Hid (unh t.data.toList = some l) := Lib.hid (by rw [hte]; exact unh_hexOf l)
    have HT := Lib.hid hte
    clear hte hl
    go_enter Tryd.func5, Tryd.ntmps5
    go_wp2_with (go_at_call 14; refine (hex_of _ l t _ hl3 hv HT.out).mono ?_; rintro e w1 ⟨rfl, hb1⟩)
    have ht1 := ht.below hb1
    go_wp2_with (go_at_call 15; refine (unhex_some _ _ l hts HU.out).mono ?_; rintro e w2 ⟨⟨v1, rfl, hv1⟩, hb2⟩)
    have ht2 := ht1.below hb2
    go_wp2_with (go_at_call 9; ((with_reducible refine (alive_any _ ht2).mono ?_); rintro e w3 ⟨rfl, hb3⟩))
    have hv3 := bytes_below hv1 hb3
    have hva := bytes_below (bytes_below (bytes_below hv hb1) hb2) hb3
    go_wp2_with (go_at_call 16; refine (rhex_of _ l t _ hl3 hva HT.out).mono ?_; rintro e w4 ⟨rfl, m, rfl⟩)
    go_wp2_with (go_at_call 17; refine (same_any _ _ l _ (by omega) (bytes_drewN hva m) (bytes_drewN hv3 m)).mono ?_; rintro e w5 ⟨rfl, m2, rfl⟩)
    go_ret
    exact ⟨rfl, below_drewN (bch (bch hb1 hb2) hb3) (m + m2)⟩

theorem cells5 : Tryd.prog.cellsOf 5 = 1 := by kernel_rfl

theorem byte_of {z : Int} (h : (Lit.int .u8 z).wf = true) : ((UInt8.ofNat z.toNat).toNat : Int) = z := by
  have := bounds_u8 h
  rw [UInt8.toNat_ofNat', Nat.mod_eq_of_lt (by omega)]
  omega

set_option maxRecDepth 100000 in
theorem hexes_lifted (os : Os) (started : os.Started) (H : Type) (enc : TypeId × Value → H) :
    ReturnsInHanded {} Tryd.checked os 5 .any (fun w args => (Rows.numHexesSpec.pre enc Tryd.prog Tryd.f5 [] false w args ∧ laidMetH Tryd.prog laid4 w) ∧ sizedMet enc Tryd.prog Tryd.f5 (OpenSpec.ofChange Rows.numHexesSpec) false w args)
      (Rows.numHexesSpec.post enc Tryd.prog Tryd.f5 false true false false) := by
  refine returnsInHanded_of_change_and (C := Tryd.checked) (X := fun w _ => laidMetH Tryd.prog laid4 w) (fun _ _ _ hh h => h.of_heap hh) own started (by kernel_rfl) Tryd.func5
    (ChangeSpec.witness_shaped (enc := enc) (C := Tryd.checked) (os := os) (X := fun w _ => laidMetH Tryd.prog laid4 w) false (World.doorLaid Tryd.prog 4000 os) #[.slice none 0 0] 8 rfl (World.shaped_of_RefB (by kernel_rfl) (by kernel_rfl)) (by kernel_rfl) (by kernel_rfl) (by kernel_rfl) (door_met os _)) ?_
  intro W base args ds gs before hval0 hW _ _ hL _
  have hval : ∀ (j : Nat) t v, Tryd.f5.params[j]? = some t → args[j]? = some v → Value.okWide Tryd.prog W .any base t v := hval0
  have hW' := hW
  obtain ⟨p, q, hA0, hV, rfl, hfz, hnd⟩ := hW
  have hA : DataW.TrodAll enc Tryd.prog W 0 (fun _ => true) true Tryd.f5.params.toList args.toList ds p := hA0
  rw [Tryd.params5] at hA hval
  obtain ⟨v0, d0, rfl, rfl, h0⟩ := trodAll_one hA
  obtain ⟨rfl, rfl⟩ := trodVars_none hV
  obtain ⟨a0, len, cap, rfl⟩ := okWide_slice Tryd.underlying31 (hval 0 31 v0 rfl rfl)
  obtain ⟨fuel, hf⟩ := h0
  clear hA0 hval0
  simp only [List.append_nil] at hW'
  rcases open_ints Tryd.underlying31 Tryd.underlying5 cells5 hf with ⟨hcs, hx⟩ | ⟨a, len', cap', zs, hcs, _, hl, hm, hz, hx, hcell, hwz⟩
  · simp [Value.cells] at hcs
    obtain ⟨rfl, rfl, rfl⟩ := hcs
    simp only [Prod.mk.injEq] at hx
    obtain ⟨rfl, rfl⟩ := hx
    refine (hexes_walk none 0 0 [] rfl (by decide) W (Or.inr ⟨rfl, none, 0, rfl⟩) (tabs_of hL)).mono fun e W' ⟨he, hg⟩ => ?_
    subst he
    exact ⟨_, rfl, law_post hW' rfl rfl Tryd.underlying4 rfl (fun sp _ => trodAll_mk1 (shut_slice_nil Tryd.underlying31)) hg⟩
  · simp [Value.cells] at hcs
    obtain ⟨rfl, rfl, rfl⟩ := hcs
    simp only [Prod.mk.injEq] at hx
    obtain ⟨rfl, rfl⟩ := hx
    simp only [if_true] at hz
    obtain ⟨l, hle⟩ : ∃ l : List UInt8, l = (zs.take len).map fun z => UInt8.ofNat z.toNat := ⟨_, rfl⟩
    have hll : l.length = len := by rw [hle, List.length_map, List.length_take]; omega
    have hget : ∀ j, j < len → ((l.getD j 0).toNat : Int) = zs.getD j 0 := by
      intro j hj
      have hjz : j < zs.length := by omega
      have h1 : l.getD j 0 = UInt8.ofNat (zs[j]).toNat := by
        rw [hle]
        simp [List.getD, hj, hjz]
      rw [h1, byte_of (hwz _ (List.getElem_mem hjz))]
      simp [List.getD, hjz]
    have hV1 : BytesAt W (.slice (some a) len cap) l := by
      by_cases hl0 : len = 0
      · exact Or.inr ⟨List.eq_nil_of_length_eq_zero (by omega), some a, cap, by rw [hl0]⟩
      · obtain ⟨b, off, spot⟩ := a
        have hspot : spot = none := by simpa [Addr.add] using World.cell?_spot (hcell 0 (by omega))
        subst hspot
        exact Or.inl ⟨b, off, cap, by rw [hll], fun j hj => by
          rw [hll] at hj
          rw [hget j hj, ← add_plain]
          exact hcell j (by omega)⟩
    have again : ∀ W', Below W.heap.size W W' → ∀ sp : Nat → Bool, (∀ p ∈ MemPlace.row a zs.length, sp p.block = true) → DataW.TrodAll enc Tryd.prog W' 0 sp true [31] [.slice (some a) len cap] [.slice (lits .u8 (zs.take len)) (lits .u8 (zs.drop len))] (MemPlace.row a zs.length) := by
      intro W' hb sp hsp
      have hcell' : ∀ i, i < zs.length → W'.cell? (a.add i) = some (.int .u8 (zs.getD i 0)) := fun i hi => by
        rw [hb.cell (World.block_lt_of_cell? W _ (hcell i hi))]
        exact hcell i hi
      by_cases hz0 : zs.length = 0
      · have hc0 : cap = 0 := by omega
        have hl0 : len = 0 := by omega
        subst hc0; subst hl0
        have t0 := shut_ints (enc := enc) (w := W') (base := 0) (spare := sp) (held := true) (a := a) (len := 0) (cap := 0) (zs := zs) 0 Tryd.underlying31 Tryd.underlying5 cells5 (Nat.zero_le _) (Nat.le_refl _) hm (by simp [hz0]) hcell' hwz
        exact trodAll_mk1 ⟨2, by simpa [Value.cells] using t0⟩
      · have hspb : sp a.block = true := hsp (.cell a.block a.off) (MemPlace.mem_row.2 ⟨0, by omega, by simp⟩)
        have t0 := shut_ints (enc := enc) (w := W') (base := 0) (spare := sp) (held := true) (a := a) (len := len) (cap := cap) (zs := zs) 0 Tryd.underlying31 Tryd.underlying5 cells5 (Nat.zero_le _) hl hm (by simp [hspb, hz]) hcell' hwz
        exact trodAll_mk1 ⟨2, by simpa [Value.cells] using t0⟩
    refine (hexes_walk (some a) len cap l hll (by omega) W hV1 (tabs_of hL)).mono fun e W' ⟨he, hg⟩ => ?_
    subst he
    exact ⟨_, rfl, law_post hW' rfl rfl Tryd.underlying4 rfl (fun sp hsp => again W' hg sp hsp) hg⟩

theorem hexes_said : Rows.NumHexesSaid :=
  OpenClaim.holds_of_wide 5 Tryd.f5 rfl rfl rfl rfl rfl rfl rfl ⟨rfl, rfl, rfl, rfl, rfl⟩ rfl rfl rfl rfl rfl (by kernel_rfl) Tryd.func5 (by kernel_rfl)
    (of_decide_eq_true (by kernel_rfl)) (by unfold Func.isWrapper; first | (rw [if_pos (by decide +kernel)]; kernel_rfl) | (rw [if_neg (by decide +kernel)]; exact ⟨rfl, rfl⟩))
    (fun os started H enc _ => hexes_lifted os started H enc)

/-- The card: the row's listed variables are tied to the program's text. -/
theorem hexes_card : Rows.NumHexesCardSaid :=
  Claim7.holds_tied_plain_at .later [] [.data, .data, .data, .data] true (true, "d95971b17b25aad7ef13338073ce59aea5934288314a033331a65b3218f77ede") false
    hexes_said (fun _ h => by cases h) (by kernel_rfl) (fun _ h => by cases h) numHexes_row_tie rfl ⟨rfl, rfl⟩ (by kernel_rfl) rfl
    (fun f fn hf hfn => by
      obtain rfl : f = 5 := Option.some.inj ((show Tryd.prog.funcNamed "slotcode/slotcodelaw01.NumHexes" = some 5 by kernel_rfl).symm.trans hf) |>.symm
      obtain rfl : fn = Tryd.f5 := (Option.some.inj (Tryd.func5.symm.trans hfn)).symm
      exact ⟨by kernel_rfl, fun j t ht => by
        rw [Tryd.params5] at ht
        have hm : t ∈ [31] := by simpa using Array.mem_of_getElem? ht
        have hall : ([31].all fun u => !Tryd.prog.wantsStandIn u) = true := by kernel_rfl
        exact (show Tryd.prog.wantsStandIn t = false by simpa using List.all_eq_true.1 hall t hm)⟩)
    (by kernel_rfl)
#print axioms hexes_card
end Go.Proofs.YthkkdkccadomkaaDoor
