/- ProgLabels: for every program and text, the law 'Labels has the index of the statement with a label' returns true, and its arguments read as before. Condition: the two listed variables read as the program's text lays them (tied by the card). -/
import Derived.Test.YtakblmonbeflmaaGreatDoorL10Lbl
import Derived.Test.YtakblmonbeflmaaGreatDoorL10Opw
import Derived.Test.YtakblmonbeflmaaGreatDoorLaw
import Derived.Test.YtakblmonbeflmaaGreatDoorCards
import Derived.Test.YtakblmonbeflmaaGreatDoorTie
import Derived.SevenTiedAt
namespace Go.Proofs.YtakblmonbeflmaaGreatDoor
open Go.ChangeShapes Go.WideShapes Go.ChangeAt Go.RowKit

theorem lbl_walk (w : World) (m0 s0 : Value) (g0 : L10.Pg) (hp0 : L10.PgAt w m0 s0 g0) (_ : L10.PgFit g0) (hr0 : ∀ s ∈ g0.stmts, L10.TxRoom s.labs) (hc0 : L10.LabCap w s0) (a1 : ByteArray) (h1 : a1.size ≤ maxLen) (hT : L9.Tab w) : Calls Tryz.prog 6 #[.agg #[m0, s0], .string a1] w fun e w' => e = .returned (.bool true) ∧ Below w.heap.size w w' :=
  L10.labels_walk m0 s0 g0 a1 w hT hT.lt hp0 hr0 h1 hc0
set_option maxRecDepth 100000 in
theorem lbl_lifted (os : Os) (started : os.Started) (H : Type) (enc : TypeId × Value → H) :
    ReturnsInHanded {} Tryz.checked os 6 .any (fun w args => (Rows.progLabelsSpec.pre enc Tryz.prog Tryz.f6 [] false w args ∧ laidMetH Tryz.prog laid4 w) ∧ sizedMet enc Tryz.prog Tryz.f6 (OpenSpec.ofChange Rows.progLabelsSpec) false w args)
      (Rows.progLabelsSpec.post enc Tryz.prog Tryz.f6 false true false false) := by
  refine returnsInHanded_of_change_and (C := Tryz.checked) (X := fun w _ => laidMetH Tryz.prog laid4 w) (fun _ _ _ hh h => h.of_heap hh) own started (by kernel_rfl) Tryz.func6
    (ChangeSpec.witness_shaped (enc := enc) (C := Tryz.checked) (os := os) (X := fun w _ => laidMetH Tryz.prog laid4 w) false (World.doorLaid Tryz.prog 4000 os) #[.agg #[.slice none 0 0, .slice none 0 0], .string ⟨#[]⟩] 8 rfl (World.shaped_of_RefB (by kernel_rfl) (by kernel_rfl)) (by kernel_rfl) (by kernel_rfl) (by kernel_rfl) (door_met os _)) ?_
  intro W base args ds gs before hval0 hW _ hwt hL _
  have hval : ∀ (j : Nat) t v, Tryz.f6.params[j]? = some t → args[j]? = some v → Value.okWide Tryz.prog W .any base t v := hval0
  have hW' := hW
  obtain ⟨p, q, hA0, hV, rfl, hfz, hnd⟩ := hW
  have hA : DataW.TrodAll enc Tryz.prog W 0 (fun _ => true) true Tryz.f6.params.toList args.toList ds p := hA0
  rw [Tryz.params6] at hA hval hwt
  obtain ⟨v0, vs0, d0, ds0, p0, q0, hargs, rfl, rfl, h0, r0⟩ := trodAll_cons hA
  obtain ⟨v1, vs1, d1, ds1, p1, q1, rfl, rfl, rfl, h1, r1⟩ := trodAll_cons r0
  obtain ⟨rfl, rfl, rfl⟩ := trodAll_nil r1
  obtain rfl : args = #[v0, v1] := by cases args; simp_all
  obtain ⟨rfl, rfl⟩ := trodVars_none hV
  have k0 := h0
  obtain ⟨m0, s0, g0, rfl, hp0, hf0, hr0⟩ := L10.open_pgw (hval 0 25 v0 rfl rfl) h0
  have hw0 : L10.Wt 25 d0 := fun n hn => by simpa using List.all_eq_true.1 hwt n (List.mem_append_left _ hn)
  obtain ⟨a1, rfl, rfl, rfl, w1⟩ := Go.ChangeMaps.open_string Tryz.underlying9 (hval 1 9 v1 rfl rfl) h1
  clear hA0 hval0
  simp only [List.append_nil] at hW'
  have l0 : ∀ x ∈ p0, x.block < W.heap.size := fun x hx => by simpa using hW'.lt x (by simp [hx])
  refine (lbl_walk W m0 s0 g0 hp0 hf0 (hr0 hw0) (L10.cap_pg h0) a1 w1 (tabs_of hL)).mono fun e W' ⟨he, hg⟩ => ?_
  subst he
  have hTA : DataW.TrodAll enc Tryz.prog W' 0 (fun b => decide (b < W.heap.size)) true [25, 9] [.agg #[m0, s0], .string a1] [d0, .lit (.string a1.data.toList)] (p0) := by
    simpa only [List.append_nil, List.nil_append] using (trodAll_cons_mk (Below.trod laidOut (by kernel_rfl) (of_decide_eq_true (by kernel_rfl)) k0 hg l0) (trodAll_cons_mk (Go.ChangeMaps.shut_string Tryz.underlying9 w1) trodAll_mk0))
  exact ⟨_, rfl, law_post_at hW' rfl rfl Tryz.underlying4 rfl hTA hg⟩
theorem lbl_said : Rows.ProgLabelsSaid :=
  OpenClaim.holds_of_wide 6 Tryz.f6 rfl rfl rfl rfl rfl rfl rfl ⟨rfl, rfl, rfl, rfl, rfl⟩ rfl rfl rfl rfl rfl (by kernel_rfl) Tryz.func6 (by kernel_rfl)
    (of_decide_eq_true (by kernel_rfl)) (by unfold Func.isWrapper; first | (rw [if_pos (by decide +kernel)]; kernel_rfl) | (rw [if_neg (by decide +kernel)]; exact ⟨rfl, rfl⟩))
    (fun os started H enc _ => lbl_lifted os started H enc)

/-- The card: the row's listed variables are tied to the program's text. -/
theorem lbl_card : Rows.ProgLabelsCardSaid :=
  Claim7.holds_tied_plain_at .later [] [.data, .data] true (true, "d7ccb89ed62bd3a96f9b8bc6887a2c09e8718da0d7639bdfa6eff8b5f6bb84dd") true
    lbl_said (fun _ h => by cases h) (by kernel_rfl) (fun _ h => by cases h) progLabels_row_tie rfl ⟨rfl, rfl⟩ (by kernel_rfl) rfl
    (fun f fn hf hfn => by
      obtain rfl : f = 6 := Option.some.inj ((show Tryz.prog.funcNamed "slotcode/slotcodelaw10.ProgLabels" = some 6 by kernel_rfl).symm.trans hf) |>.symm
      obtain rfl : fn = Tryz.f6 := (Option.some.inj (Tryz.func6.symm.trans hfn)).symm
      exact ⟨by kernel_rfl, fun j t ht => by
        rw [Tryz.params6] at ht
        have hm : t ∈ [25, 9] := by simpa using Array.mem_of_getElem? ht
        have hall : ([25, 9].all fun u => !Tryz.prog.wantsStandIn u) = true := by kernel_rfl
        exact (show Tryz.prog.wantsStandIn t = false by simpa using List.all_eq_true.1 hall t hm)⟩)
    (by kernel_rfl)
#print axioms lbl_card
end Go.Proofs.YtakblmonbeflmaaGreatDoor
