/- CondMirror: for every instruction and values, the law 'the mirror condition holds for exchanged values exactly if the condition holds' returns true, and its arguments read as before. No condition. -/
import Derived.Test.YtiklgnokojkoeaaFacts
import Derived.BigRegion
import Derived.Test.YtiklgnokojkoeaaLaw
namespace Go.Proofs.Ytiklgnokojkoeaa
open Go.ChangeShapes Go.WideShapes Go.ChangeAt Go.RowKit

open L3
open L6 (opd cells6 row_up)

/-- The case and two instructions lie boxed. -/
def Bw (w W : World) (g : Nat) (cs : Array Value) (j : Nat) (ds : Array Value) (j2 : Nat) (es : Array Value) : Prop := By w W g cs ∧ W.heap[j]? = some (.cells ds 23) ∧ W.heap[j2]? = some (.cells es 23)
theorem Bw.below {w W W' : World} {g j j2 : Nat} {cs ds es : Array Value} (h : Bw w W g cs j ds j2 es) (hb : Below W.heap.size W W') : Bw w W' g cs j ds j2 es := ⟨h.1.below hb, row_up h.2.1 hb, row_up h.2.2 hb⟩
theorem keepwB {w W W' : World} {k j j2 : Nat} {a b c d e f g h a' b' c' d' e' f' a2 b2 c2 d2 e2 f2 : Value} (hb : Below W.heap.size W W') (x : Bw w W k #[a, b, c, d, e, f, g, h] j #[a', b', c', d', e', f'] j2 #[a2, b2, c2, d2, e2, f2]) :
    Bw w W' k #[a, b, c, d, e, f, g, h] j #[a', b', c', d', e', f'] j2 #[a2, b2, c2, d2, e2, f2] ∧ (W'.cell? ⟨k, 6, none⟩ = some g ∧ W'.cell? ⟨k, 7, none⟩ = some h) ∧ (W'.cell? ⟨j, 0, none⟩ = some a' ∧ W'.cell? ⟨j, 1, none⟩ = some b' ∧ W'.cell? ⟨j, 2, none⟩ = some c' ∧ W'.cell? ⟨j, 3, none⟩ = some d' ∧ W'.cell? ⟨j, 4, none⟩ = some e' ∧ W'.cell? ⟨j, 5, none⟩ = some f') ∧ (W'.cell? ⟨j2, 0, none⟩ = some a2 ∧ W'.cell? ⟨j2, 1, none⟩ = some b2 ∧ W'.cell? ⟨j2, 2, none⟩ = some c2 ∧ W'.cell? ⟨j2, 3, none⟩ = some d2 ∧ W'.cell? ⟨j2, 4, none⟩ = some e2 ∧ W'.cell? ⟨j2, 5, none⟩ = some f2) :=
  ⟨x.below hb, ⟨(cells8 (x.below hb).1.2).2.2.2.2.2.2.1, (cells8 (x.below hb).1.2).2.2.2.2.2.2.2⟩, cells6 (x.below hb).2.1, cells6 (x.below hb).2.2⟩
theorem keepwC {w W W' : World} {k j j2 : Nat} {a b c d e f g h a' b' c' d' e' f' a2 b2 c2 d2 e2 f2 : Value} (hb : Below W.heap.size W W') (x : Bw w W k #[a, b, c, d, e, f, g, h] j #[a', b', c', d', e', f'] j2 #[a2, b2, c2, d2, e2, f2] ∧ (W.cell? ⟨k, 6, none⟩ = some g ∧ W.cell? ⟨k, 7, none⟩ = some h) ∧ (W.cell? ⟨j, 0, none⟩ = some a' ∧ W.cell? ⟨j, 1, none⟩ = some b' ∧ W.cell? ⟨j, 2, none⟩ = some c' ∧ W.cell? ⟨j, 3, none⟩ = some d' ∧ W.cell? ⟨j, 4, none⟩ = some e' ∧ W.cell? ⟨j, 5, none⟩ = some f') ∧ (W.cell? ⟨j2, 0, none⟩ = some a2 ∧ W.cell? ⟨j2, 1, none⟩ = some b2 ∧ W.cell? ⟨j2, 2, none⟩ = some c2 ∧ W.cell? ⟨j2, 3, none⟩ = some d2 ∧ W.cell? ⟨j2, 4, none⟩ = some e2 ∧ W.cell? ⟨j2, 5, none⟩ = some f2)) :
    Bw w W' k #[a, b, c, d, e, f, g, h] j #[a', b', c', d', e', f'] j2 #[a2, b2, c2, d2, e2, f2] ∧ (W'.cell? ⟨k, 6, none⟩ = some g ∧ W'.cell? ⟨k, 7, none⟩ = some h) ∧ (W'.cell? ⟨j, 0, none⟩ = some a' ∧ W'.cell? ⟨j, 1, none⟩ = some b' ∧ W'.cell? ⟨j, 2, none⟩ = some c' ∧ W'.cell? ⟨j, 3, none⟩ = some d' ∧ W'.cell? ⟨j, 4, none⟩ = some e' ∧ W'.cell? ⟨j, 5, none⟩ = some f') ∧ (W'.cell? ⟨j2, 0, none⟩ = some a2 ∧ W'.cell? ⟨j2, 1, none⟩ = some b2 ∧ W'.cell? ⟨j2, 2, none⟩ = some c2 ∧ W'.cell? ⟨j2, 3, none⟩ = some d2 ∧ W'.cell? ⟨j2, 4, none⟩ = some e2 ∧ W'.cell? ⟨j2, 5, none⟩ = some f2) := keepwB hb x.1
theorem two_last (w : World) (a b : Obj) : ((w.alloc a).alloc b).heap[w.heap.size + 1]? = some b := by
  have h := heap_alloc_last (w.alloc a) b
  have e : (w.alloc a).heap.size = w.heap.size + 1 := by simp
  rwa [e] at h
set_option maxHeartbeats 4000000 in
set_option maxRecDepth 100000 in
theorem mirr_no (op : Int) (reg : Bool) (dst src off imm a s : Int) (hw : (Lit.int .i64 op).wf = true) (_ : 0 ≤ a ∧ a < 18446744073709551616) (_ : 0 ≤ s ∧ s < 18446744073709551616) (w : World) (ho : mir op = none) :
    Calls Try.prog 6 #[.agg #[.int .i64 op, .bool reg, .int .i64 dst, .int .i64 src, .int .i64 off, .int .i64 imm, .int .u64 a, .int .u64 s]] w fun e w' => e = .returned (.bool true) ∧ Below w.heap.size w w' := by
  have b0 := bnew w (.cells #[.int .i64 op, .bool reg, .int .i64 dst, .int .i64 src, .int .i64 off, .int .i64 imm, .int .u64 a, .int .u64 s] 26)
  obtain ⟨x0, x1, x2, x3, x4, x5, x6, x7⟩ := cells8 (heap_alloc_last w (.cells #[.int .i64 op, .bool reg, .int .i64 dst, .int .i64 src, .int .i64 off, .int .i64 imm, .int .u64 a, .int .u64 s] 26))
  have E1 := Lib.hid (fun w => mirror_at op 0 false hw (by rw [ho]; rfl) (by rw [ho]; rfl) w)
  clear ho hw
  go_enter Try.func6, Try.ntmps6
  go_wp2_with (first | (go_at_call 13; ((with_reducible refine (E1.out _).mono ?_); rintro e w1 ⟨rfl, b1⟩; have B1 := bch b0 b1)) | (go_at_call 9; ((with_reducible refine (alive_any _).mono ?_); rintro e w2 ⟨rfl, b2⟩)))
  go_ret
  exact ⟨rfl, bch B1 b2⟩
set_option maxHeartbeats 4000000 in
set_option maxRecDepth 100000 in
theorem mirr_yes (op : Int) (reg : Bool) (dst src off imm a s : Int) (hw : (Lit.int .i64 op).wf = true) (ha : 0 ≤ a ∧ a < 18446744073709551616) (hs : 0 ≤ s ∧ s < 18446744073709551616) (w : World) (j : Int) (ho : mir op = some j) :
    Calls Try.prog 6 #[.agg #[.int .i64 op, .bool reg, .int .i64 dst, .int .i64 src, .int .i64 off, .int .i64 imm, .int .u64 a, .int .u64 s]] w fun e w' => e = .returned (.bool true) ∧ Below w.heap.size w w' := by
  have b0 := bnew w (.cells #[.int .i64 op, .bool reg, .int .i64 dst, .int .i64 src, .int .i64 off, .int .i64 imm, .int .u64 a, .int .u64 s] 26)
  have hx0 := heap_alloc_last w (.cells #[.int .i64 op, .bool reg, .int .i64 dst, .int .i64 src, .int .i64 off, .int .i64 imm, .int .u64 a, .int .u64 s] 26)
  obtain ⟨x0, x1, x2, x3, x4, x5, x6, x7⟩ := cells8 hx0
  have E1 := Lib.hid (fun w => mirror_at op j true hw (by rw [ho]; rfl) (by rw [ho]; rfl) w)
  obtain ⟨v, hv⟩ : ∃ v, hoV op true imm a s = v := ⟨_, rfl⟩
  have hv' := mir_hoV ho imm a s
  rw [hv] at hv'
  have HP := Lib.hid (fun w => holds_any op true dst src off imm a s v w ha.1 ha.2 hs.1 hs.2 hv)
  have HQ := Lib.hid (fun w => holds_any j true dst src off imm s a v w hs.1 hs.2 ha.1 ha.2 hv')
  clear hv hv' ha hs ho hw
  go_enter Try.func6, Try.ntmps6
  go_upto_region 4 with (go_at_call 13; ((with_reducible refine (E1.out _).mono ?_); rintro e w1 ⟨rfl, b1⟩; have B1 := bch b0 b1; have hx1 := row_up hx0 b1))
  clear x0 x1 x2 x3 x4 x5 x6 x7
  obtain ⟨x0, x1, x2, x3, x4, x5, x6, x7⟩ := cells8 hx1
  clear hx0 b0 b1
  obtain ⟨g, hg⟩ : ∃ g, g = w.heap.size := ⟨_, rfl⟩
  rw [← hg] at x0 x1 x2 x3 x4 x5 x6 x7 hx1 ⊢
  have l0 : g < w1.heap.size := by rw [hg]; exact lt_of_block (by rw [← hg]; exact hx1)
  clear hg
  have l1 : g < w1.heap.size + 1 := by omega
  have n0 : ¬ g = w1.heap.size := by omega
  have n1 : ¬ g = w1.heap.size + 1 := by omega
  have n2 : ¬ w1.heap.size = g := by omega
  have n3 : ¬ w1.heap.size + 1 = g := by omega
  go_region
  all_goals go_upto_region 6 with (fail)
  · have X : Bw w (((w1.alloc (.cells #[.int .i64 j, .bool true, .int .i64 dst, .int .i64 src, .int .i64 off, .int .i64 imm] 23)).alloc (.cells #[.int .i64 op, .bool true, .int .i64 dst, .int .i64 src, .int .i64 off, .int .i64 imm] 23)).drew) g #[.int .i64 op, .bool reg, .int .i64 dst, .int .i64 src, .int .i64 off, .int .i64 imm, .int .u64 a, .int .u64 s] w1.heap.size #[.int .i64 j, .bool true, .int .i64 dst, .int .i64 src, .int .i64 off, .int .i64 imm] (w1.heap.size + 1) #[.int .i64 op, .bool true, .int .i64 dst, .int .i64 src, .int .i64 off, .int .i64 imm] := ⟨⟨(bch B1 (bch (bnew _ _) (bnew _ _))).drew, row_up (row_up hx1 (bnew _ _)) (bnew _ _).drew⟩, row_up (heap_alloc_last _ _) (bnew _ _).drew, two_last _ _ _⟩
    generalize ((w1.alloc (.cells #[.int .i64 j, .bool true, .int .i64 dst, .int .i64 src, .int .i64 off, .int .i64 imm] 23)).alloc (.cells #[.int .i64 op, .bool true, .int .i64 dst, .int .i64 src, .int .i64 off, .int .i64 imm] 23)).drew = W1 at X ⊢
    clear l0 l1 n0 n1 n2 n3 hx1 x0 x1 x2 x3 x4 x5 x6 x7
    generalize w1.heap.size + 1 = x2 at X ⊢
    generalize w1.heap.size = x1 at X ⊢
    cases v
    all_goals
      go_region_held3 (fun W => Bw w W g #[.int .i64 op, .bool reg, .int .i64 dst, .int .i64 src, .int .i64 off, .int .i64 imm, .int .u64 a, .int .u64 s] x1 #[.int .i64 j, .bool true, .int .i64 dst, .int .i64 src, .int .i64 off, .int .i64 imm] x2 #[.int .i64 op, .bool true, .int .i64 dst, .int .i64 src, .int .i64 off, .int .i64 imm] ∧ (W.cell? ⟨g, 6, none⟩ = some (.int .u64 a) ∧ W.cell? ⟨g, 7, none⟩ = some (.int .u64 s)) ∧ (W.cell? ⟨x1, 0, none⟩ = some (.int .i64 j) ∧ W.cell? ⟨x1, 1, none⟩ = some (.bool true) ∧ W.cell? ⟨x1, 2, none⟩ = some (.int .i64 dst) ∧ W.cell? ⟨x1, 3, none⟩ = some (.int .i64 src) ∧ W.cell? ⟨x1, 4, none⟩ = some (.int .i64 off) ∧ W.cell? ⟨x1, 5, none⟩ = some (.int .i64 imm)) ∧ (W.cell? ⟨x2, 0, none⟩ = some (.int .i64 op) ∧ W.cell? ⟨x2, 1, none⟩ = some (.bool true) ∧ W.cell? ⟨x2, 2, none⟩ = some (.int .i64 dst) ∧ W.cell? ⟨x2, 3, none⟩ = some (.int .i64 src) ∧ W.cell? ⟨x2, 4, none⟩ = some (.int .i64 off) ∧ W.cell? ⟨x2, 5, none⟩ = some (.int .i64 imm)))
        (first | exact keepwB (Below.refl _ _).drew X | exact keepwC hb9 (by assumption) | assumption)
        (first | (go_at_call 9; ((with_reducible refine (alive_any _).mono ?_); rintro e w9 ⟨rfl, hb9⟩)) | (go_at_call 10; ((with_reducible refine (HP.out _).mono ?_); rintro e w9 ⟨rfl, hb9⟩)) | (go_at_call 10; ((with_reducible refine (HQ.out _).mono ?_); rintro e w9 ⟨rfl, hb9⟩)))
      all_goals
        rename_i hh
        go_wp2
        go_ret
        exact ⟨rfl, hh.1.1.1⟩
  · have X : Bw w (((w1.alloc (.cells #[.int .i64 op, .bool true, .int .i64 dst, .int .i64 src, .int .i64 off, .int .i64 imm] 23)).alloc (.cells #[.int .i64 j, .bool true, .int .i64 dst, .int .i64 src, .int .i64 off, .int .i64 imm] 23)).drew) g #[.int .i64 op, .bool reg, .int .i64 dst, .int .i64 src, .int .i64 off, .int .i64 imm, .int .u64 a, .int .u64 s] (w1.heap.size + 1) #[.int .i64 j, .bool true, .int .i64 dst, .int .i64 src, .int .i64 off, .int .i64 imm] w1.heap.size #[.int .i64 op, .bool true, .int .i64 dst, .int .i64 src, .int .i64 off, .int .i64 imm] := ⟨⟨(bch B1 (bch (bnew _ _) (bnew _ _))).drew, row_up (row_up hx1 (bnew _ _)) (bnew _ _).drew⟩, two_last _ _ _, row_up (heap_alloc_last _ _) (bnew _ _).drew⟩
    generalize ((w1.alloc (.cells #[.int .i64 op, .bool true, .int .i64 dst, .int .i64 src, .int .i64 off, .int .i64 imm] 23)).alloc (.cells #[.int .i64 j, .bool true, .int .i64 dst, .int .i64 src, .int .i64 off, .int .i64 imm] 23)).drew = W1 at X ⊢
    clear l0 l1 n0 n1 n2 n3 hx1 x0 x1 x2 x3 x4 x5 x6 x7
    generalize w1.heap.size + 1 = x1 at X ⊢
    generalize w1.heap.size = x2 at X ⊢
    cases v
    all_goals
      go_region_held3 (fun W => Bw w W g #[.int .i64 op, .bool reg, .int .i64 dst, .int .i64 src, .int .i64 off, .int .i64 imm, .int .u64 a, .int .u64 s] x1 #[.int .i64 j, .bool true, .int .i64 dst, .int .i64 src, .int .i64 off, .int .i64 imm] x2 #[.int .i64 op, .bool true, .int .i64 dst, .int .i64 src, .int .i64 off, .int .i64 imm] ∧ (W.cell? ⟨g, 6, none⟩ = some (.int .u64 a) ∧ W.cell? ⟨g, 7, none⟩ = some (.int .u64 s)) ∧ (W.cell? ⟨x1, 0, none⟩ = some (.int .i64 j) ∧ W.cell? ⟨x1, 1, none⟩ = some (.bool true) ∧ W.cell? ⟨x1, 2, none⟩ = some (.int .i64 dst) ∧ W.cell? ⟨x1, 3, none⟩ = some (.int .i64 src) ∧ W.cell? ⟨x1, 4, none⟩ = some (.int .i64 off) ∧ W.cell? ⟨x1, 5, none⟩ = some (.int .i64 imm)) ∧ (W.cell? ⟨x2, 0, none⟩ = some (.int .i64 op) ∧ W.cell? ⟨x2, 1, none⟩ = some (.bool true) ∧ W.cell? ⟨x2, 2, none⟩ = some (.int .i64 dst) ∧ W.cell? ⟨x2, 3, none⟩ = some (.int .i64 src) ∧ W.cell? ⟨x2, 4, none⟩ = some (.int .i64 off) ∧ W.cell? ⟨x2, 5, none⟩ = some (.int .i64 imm)))
        (first | exact keepwB (Below.refl _ _).drew X | exact keepwC hb9 (by assumption) | assumption)
        (first | (go_at_call 9; ((with_reducible refine (alive_any _).mono ?_); rintro e w9 ⟨rfl, hb9⟩)) | (go_at_call 10; ((with_reducible refine (HP.out _).mono ?_); rintro e w9 ⟨rfl, hb9⟩)) | (go_at_call 10; ((with_reducible refine (HQ.out _).mono ?_); rintro e w9 ⟨rfl, hb9⟩)))
      all_goals
        rename_i hh
        go_wp2
        go_ret
        exact ⟨rfl, hh.1.1.1⟩
theorem mirr_walk (op : Int) (reg : Bool) (dst src off imm a s : Int) (hw : (Lit.int .i64 op).wf = true) (ha : 0 ≤ a ∧ a < 18446744073709551616) (hs : 0 ≤ s ∧ s < 18446744073709551616) (w : World) :
    Calls Try.prog 6 #[.agg #[.int .i64 op, .bool reg, .int .i64 dst, .int .i64 src, .int .i64 off, .int .i64 imm, .int .u64 a, .int .u64 s]] w fun e w' => e = .returned (.bool true) ∧ Below w.heap.size w w' := by
  cases ho : mir op with
  | none => exact mirr_no op reg dst src off imm a s hw ha hs w ho
  | some j => exact mirr_yes op reg dst src off imm a s hw ha hs w j ho

set_option maxRecDepth 100000 in
theorem mirr_lifted (os : Os) (started : os.Started) (H : Type) (enc : TypeId × Value → H) :
    ReturnsInHanded {} Try.checked os 6 .any (Rows.condMirrorSpec.pre6 enc Try.prog Try.f6 Rows.condMirrorRow.domain false) (Rows.condMirrorSpec.post enc Try.prog Try.f6 false true false false) := by
  refine returnsInHanded_of_change (C := Try.checked) own started (by kernel_rfl) Try.func6
    (ChangeSpec.witness6 (enc := enc) (C := Try.checked) false ⟨#[], #[.agg #[.int .i64 0, .bool false, .int .i64 0, .int .i64 0, .int .i64 0, .int .i64 0, .int .u64 0, .int .u64 0]], []⟩ 8 (by kernel_rfl) (by kernel_rfl) (by kernel_rfl) (by kernel_rfl)) ?_
  intro W base args ds gs before hval0 hW _ _
  have hval : ∀ (j : Nat) t v, Try.f6.params[j]? = some t → args[j]? = some v → Value.okWide Try.prog W .any base t v := hval0
  have hW' := hW
  obtain ⟨p, q, hA0, hV, rfl, hfz, hnd⟩ := hW
  have hA : DataW.TrodAll enc Try.prog W 0 (fun _ => true) true Try.f6.params.toList args.toList ds p := hA0
  rw [Try.params6] at hA hval
  obtain ⟨v0, vs0, d0, ds0, p0, q0, hargs, rfl, rfl, h0, r0⟩ := trodAll_cons hA
  obtain ⟨rfl, rfl, rfl⟩ := trodAll_nil r0
  obtain rfl : args = #[v0] := by cases args; simp_all
  obtain ⟨rfl, rfl⟩ := trodVars_none hV
  obtain ⟨op, reg, dst, src, off, imm, ca, cs, rfl, rfl, rfl, k0, k6, k7⟩ := open_case (hval 0 26 v0 rfl rfl) h0
  clear hA0 hval0
  simp only [List.append_nil] at hW'
  refine (mirr_walk op reg dst src off imm ca cs k0.1 (bu64 k6) (bu64 k7) W).mono fun e W' ⟨he, hg⟩ => ?_
  subst he
  exact ⟨_, rfl, law_post hW' rfl rfl Try.underlying4 rfl (fun sp _ => (trodAll_cons_mk (shut_case k0 k6 k7) trodAll_mk0)) hg⟩

theorem mirr_said : Rows.CondMirrorSaid :=
  OpenClaim.holds_of_wide 6 Try.f6 rfl rfl rfl rfl rfl rfl rfl ⟨rfl, rfl, rfl, rfl, rfl⟩ rfl rfl rfl rfl rfl (by kernel_rfl) Try.func6 (by kernel_rfl)
    (of_decide_eq_true (by kernel_rfl)) (by unfold Func.isWrapper; first | (rw [if_pos (by decide +kernel)]; kernel_rfl) | (rw [if_neg (by decide +kernel)]; exact ⟨rfl, rfl⟩))
    (fun os started H enc _ => mirr_lifted os started H enc)
#print axioms mirr_said
end Go.Proofs.Ytiklgnokojkoeaa
