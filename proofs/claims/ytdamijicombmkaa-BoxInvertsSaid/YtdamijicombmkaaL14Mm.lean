/- Slices in memory whose elements are known; what the library's IndexByte, Index, Cut, Equal and HasSuffix of bytes, Contains of texts and Equal of slices return for them, as far as the layer on tables of texts asks for it. Conditions: memory holds the elements, which are no more than 1000000000. -/
import Derived.Test.YtdamijicombmkaaL14Sm
import Derived.OwnWalk
import Derived.WalkSpells
import Derived.Deep.DeepCutAuto
import Derived.Deep.Slices
import Derived.ProofKit
import Derived.OpenShut
import Derived.SliceStrings
import Derived.Deep.QuietTactic
import Derived.BigQuiet
import Derived.Lib.Hide
import Derived.Lib.BytesEntry
import Derived.Laws.BytesArg
import Derived.Laws.IdiomStrings
namespace Go.Proofs.Ytdamijicombmkaa.L14
open Go.RowKit
attribute [local go_sem] Oper.semAt_some

theorem bch {w a b : World} (h : Below w.heap.size w a) (k : Below a.heap.size a b) : Below w.heap.size w b := h.trans (k.mono h.size)
theorem bnew (w : World) (o : Obj) : Below w.heap.size w (w.alloc o) := (Below.refl _ _).alloc (Nat.le_refl _) _
theorem bdN {B : Nat} {w w' : World} (h : Below B w w') (m : Nat) : Below B w (w'.drewN m) := ⟨h.1, h.2, h.3, h.4, h.5⟩
theorem add0 (g o j : Nat) : (⟨g, o, none⟩ : Addr).add j = ⟨g, o + j, none⟩ := by
  unfold Addr.add; split <;> simp_all
theorem cell_new (w : World) (v : Value) (t : TypeId) : (w.alloc (.cells #[v] t)).cell? ⟨w.heap.size, 0, none⟩ = some v := by
  have h := heap_alloc_new w (.cells #[v] t)
  unfold World.cell?
  simp only [h]; rfl
theorem own_below {w w' : World} {base e : TypeId} {size : Nat} {v : Value} {n : Nat} {xs : List Value} (h : w.ownsRow base e size v n xs) (hb : Below w.heap.size w w') : w'.ownsRow base e size v n xs := by
  refine ⟨h.1, ?_⟩
  rcases h.2 with h | ⟨g, cap, cur, hv, hg, hh, r⟩
  · exact .inl h
  · exact .inr ⟨g, cap, cur, hv, hg, (hb.block _ (lt_of_block hh)).trans hh, r⟩
theorem txt_ne {a b : ByteArray} (h : ¬ a = b) : (a.toList == b.toList) = false := by
  rw [Lib.toList_data, Lib.toList_data, beq_eq_false_iff_ne]
  intro e
  apply h
  cases a; cases b
  simp only [ByteArray.mk.injEq]
  exact Array.toList_inj.1 e
theorem txt_eq {a b : ByteArray} (h : a = b) : (a.toList == b.toList) = true := by
  rw [h]; exact beq_self_eq_true _

/-! ### texts and bytes -/
/-- The text of some bytes. -/
def mkB (l : List UInt8) : ByteArray := ⟨l.toArray⟩
theorem mkB_of (s : ByteArray) : mkB s.data.toList = s := by unfold mkB; rw [Array.toArray_toList]
theorem mkB_list (l : List UInt8) : (mkB l).data.toList = l := by simp [mkB]
theorem mkB_size (l : List UInt8) : (mkB l).size = l.length := by simp [mkB, ByteArray.size]
theorem mkB_inj {a b : List UInt8} (h : mkB a = mkB b) : a = b := by rw [← mkB_list a, h, mkB_list]
theorem mkB_app (a b : List UInt8) : mkB a ++ mkB b = mkB (a ++ b) := by
  apply ByteArray.ext; simp [mkB]
/-- A byte, a text, a number as a value. -/
abbrev eB (c : UInt8) : Value := .int .u8 (c.toNat : Int)
abbrev eT (t : List UInt8) : Value := .string (mkB t)
abbrev eN (n : Nat) : Value := .int .i64 (n : Int)
theorem byte_ne {c d : UInt8} (h : ¬ c = d) : ((c.toNat : Int) == (d.toNat : Int)) = false := by
  rw [beq_eq_false_iff_ne]
  intro e
  exact h (UInt8.toNat_inj.1 (by omega))

/-- v is a slice of the elements l. -/
def Rw {α : Type} (enc : α → Value) (w : World) (v : Value) (l : List α) : Prop :=
  ∃ a c, v = .slice a l.length c ∧ l.length ≤ c ∧ (a = none → c = 0) ∧ (0 < l.length → ∃ b o, a = some ⟨b, o, none⟩ ∧ b < w.heap.size ∧ ∀ j, (h : j < l.length) → w.cell? ⟨b, o + j, none⟩ = some (enc l[j]))
theorem Rw.below {α : Type} {enc : α → Value} {w w' : World} {v : Value} {l : List α} (h : Rw enc w v l) (hb : Below w.heap.size w w') : Rw enc w' v l := by
  obtain ⟨a, c, hv, h1, h2, h3⟩ := h
  refine ⟨a, c, hv, h1, h2, fun hp => ?_⟩
  obtain ⟨b, o, e, hlt, hc⟩ := h3 hp
  exact ⟨b, o, e, Nat.lt_of_lt_of_le hlt hb.size, fun j hj => (hb.cell (by exact hlt)).trans (hc j hj)⟩
theorem Rw.form {α : Type} {enc : α → Value} {w : World} {v : Value} {l : List α} {n : Nat} (hn : l.length = n) (h : Rw enc w v l) : ∃ a c, v = .slice a n c ∧ n ≤ c ∧ (a = none → c = 0) ∧ (0 < n → ∃ b o, a = some ⟨b, o, none⟩ ∧ b < w.heap.size ∧ ∀ j, (h : j < l.length) → w.cell? ⟨b, o + j, none⟩ = some (enc l[j])) := by
  subst hn; exact h
theorem Rw.at {α : Type} {enc : α → Value} {w : World} {a : Option Addr} {n c : Nat} {l : List α} (h : Rw enc w (.slice a n c) l) : l.length = n ∧ n ≤ c ∧ (a = none → c = 0) ∧ (0 < n → ∃ b o, a = some ⟨b, o, none⟩ ∧ b < w.heap.size ∧ ∀ j, (h : j < l.length) → w.cell? ⟨b, o + j, none⟩ = some (enc l[j])) := by
  obtain ⟨a', c', hv, h1, h2, h3⟩ := h
  cases hv
  exact ⟨rfl, h1, h2, h3⟩
theorem Rw.nil {α : Type} (enc : α → Value) (w : World) : Rw enc w (.slice none 0 0) ([] : List α) := ⟨none, 0, rfl, Nat.le_refl _, fun _ => rfl, fun h => absurd h (by simp)⟩
theorem Rw.own {α : Type} {enc : α → Value} {w : World} {B e : TypeId} {v : Value} {l : List α} (h : w.ownsRow B e 1 v l.length (l.map enc)) : Rw enc w v l := by
  rcases h.2 with ⟨rfl, hn⟩ | ⟨g, cap, cur, rfl, hb, hg, hnc, hcm, hcs, htk⟩
  · have h0 : l = [] := List.eq_nil_of_length_eq_zero hn
    subst h0
    exact Rw.nil _ _
  · refine ⟨_, _, rfl, by omega, fun h => (by cases h), fun _ => ⟨g, 0, rfl, lt_of_block hg, fun j hj => ?_⟩⟩
    have h1 : (cur.toList.take (l.length * 1))[j]? = some (enc l[j]) := by
      rw [htk]; simp [hj]
    rw [List.getElem?_take] at h1
    split at h1
    · rw [Nat.zero_add]
      simpa [World.cell?, hg] using h1
    · cases h1
/-- A part of a slice, from a place on. -/
theorem Rw.drop {α : Type} {enc : α → Value} {w : World} {a : Option Addr} {n c : Nat} {l : List α} (h : Rw enc w (.slice a n c) l) (k : Nat) (hk : k ≤ n) : Rw enc w (.slice (if c = k then a else a.map (·.add k)) (n - k) (c - k)) (l.drop k) := by
  obtain ⟨h0, h1, h2, h3⟩ := h.at
  refine ⟨_, _, by rw [List.length_drop, h0], by rw [List.length_drop]; omega, fun e => ?_, fun hp => ?_⟩
  · split at e
    · have := h2 e; omega
    · have := h2 (by simpa using e); omega
  · rw [List.length_drop, h0] at hp
    obtain ⟨b, o, rfl, hb, hc⟩ := h3 (by omega)
    rw [if_neg (by omega)]
    refine ⟨b, o + k, by simp [add0], hb, fun j hj => ?_⟩
    rw [List.length_drop] at hj
    have := hc (k + j) (by omega)
    rw [List.getElem_drop, ← this, Nat.add_assoc]
/-- .. up to a place. -/
theorem Rw.take {α : Type} {enc : α → Value} {w : World} {a : Option Addr} {n c : Nat} {l : List α} (h : Rw enc w (.slice a n c) l) (k : Nat) (hk : k ≤ n) : Rw enc w (.slice a k c) (l.take k) := by
  obtain ⟨h0, h1, h2, h3⟩ := h.at
  have hl : (l.take k).length = k := by rw [List.length_take]; omega
  refine ⟨_, _, by rw [hl], by omega, h2, fun hp => ?_⟩
  rw [hl] at hp
  obtain ⟨b, o, rfl, hb, hc⟩ := h3 (by omega)
  refine ⟨b, o, rfl, hb, fun j hj => ?_⟩
  rw [hl] at hj
  rw [hc j (by omega), List.getElem_take]
theorem run_from {t : TypeId} (ht : Try.prog.underlying t = some (.slice (Try.prog.elem t))) (hz : ∀ w, (Go.sizeOf (Try.prog.elem t)).run Try.prog w = .ok 1 w) (a : Option Addr) (n c k : Nat) (hk : k ≤ n) (_ : n ≤ c) (W : World) :
    (Instr.slice t (.slice a n c) (some (.int .i64 (k : Int))) none none).run Try.prog W = .ok (.slice (if c = k then a else a.map (·.add k)) (n - k) (c - k)) W := by
  rw [run_slice_l W t a n c ht .i64 (k : Int) (by omega) (by omega)]
  simp [hz, Result.andThen, sliced]
theorem run_upto {t : TypeId} (ht : Try.prog.underlying t = some (.slice (Try.prog.elem t))) (hz : ∀ w, (Go.sizeOf (Try.prog.elem t)).run Try.prog w = .ok 1 w) (a : Option Addr) (n c k : Nat) (hk : k ≤ n) (hc : n ≤ c) (W : World) :
    (Instr.slice t (.slice a n c) none (some (.int .i64 (k : Int))) none).run Try.prog W = .ok (.slice a k c) W := by
  rw [run_slice_h W t a n c ht .i64 (k : Int) (by omega) (by omega)]
  by_cases h : c = 0
  · simp [hz, Result.andThen, sliced, h]
  · simp [hz, Result.andThen, sliced, h, Addr.add]
theorem run_part {t : TypeId} (ht : Try.prog.underlying t = some (.slice (Try.prog.elem t))) (hz : ∀ w, (Go.sizeOf (Try.prog.elem t)).run Try.prog w = .ok 1 w) (a : Option Addr) (n c k m : Nat) (hk : k ≤ m) (hm : m ≤ n) (hc : n ≤ c) (W : World) :
    (Instr.slice t (.slice a n c) (some (.int .i64 (k : Int))) (some (.int .i64 (m : Int))) none).run Try.prog W = .ok (.slice (if c = k then a else a.map (·.add k)) (m - k) (c - k)) W := by
  rw [run_slice_lh W t a n c ht .i64 .i64 (k : Int) (m : Int) (by omega) (by omega) (by omega)]
  simp [hz, Result.andThen, sliced]
theorem size8 (w : World) : (Go.sizeOf (Try.prog.elem 25)).run Try.prog w = .ok 1 w := by kernel_rfl
theorem und8 : Try.prog.underlying 25 = some (.slice (Try.prog.elem 25)) := Try.underlying25

/-- string(b), b a slice of bytes. -/
theorem conv_at {w : World} {v : Value} {l : List UInt8} (h : Rw eB w v l) : (convert 25 9 v).run Try.prog w = .ok (.string (mkB l)) w := by
  obtain ⟨a, c, rfl, h1, h2, h3⟩ := h
  by_cases hp : 0 < l.length
  · obtain ⟨b, o, rfl, hb, hc⟩ := h3 hp
    exact run_convert_bytes_back w 25 9 5 ⟨b, o, none⟩ c l Try.underlying25 Try.underlying5 Try.underlying9 (fun j hj => by rw [add0]; exact hc j hj)
  · have h0 : l = [] := List.eq_nil_of_length_eq_zero (by omega)
    subst h0
    cases a with
    | none => exact run_convert_bytes_nil w 25 5 Try.underlying25 Try.underlying5 _ c 9 Try.underlying9
    | some a => exact run_convert_bytes_back w 25 9 5 a c [] Try.underlying25 Try.underlying5 Try.underlying9 (fun j hj => by cases hj)

/-! ### where a zero byte stands -/
/-- Where the first zero byte stands, or -1. -/
def ixI (l : List UInt8) : Int := match fz l with
  | none => -1
  | some i => (i : Int)
theorem ix_is : ∀ l : List UInt8, Lib.indexByte l 0 = ixI l
  | [] => rfl
  | c :: r => by
    have ih := ix_is r
    unfold Lib.indexByte ixI fz
    by_cases hc : c = 0
    · rw [if_pos (by simpa using hc), if_pos hc]; rfl
    · rw [if_neg (by simpa using hc), if_neg hc, ih]
      unfold ixI
      cases fz r with
      | none => rfl
      | some i =>
        simp only [Option.map_some]
        rw [if_neg (by rw [beq_iff_eq]; omega)]; rfl
theorem run_ix {w : World} {v : Value} {l : List UInt8} (h : Rw eB w v l) (P : Program) : (Extern.BytealgIndexByte.indexByte #[v, .int .u8 0]).run P w = .ok (.int .i64 (ixI l)) w := by
  obtain ⟨a, c, rfl, h1, h2, h3⟩ := h
  by_cases hp : 0 < l.length
  · obtain ⟨b, o, rfl, hb, hc⟩ := h3 hp
    have := Lib.run_indexByteSlice (P := P) w b o l.length c (l.map fun x => (x.toNat : Int)) (by simp) (fun i hi => by rw [hc i hi]; simp [eB, List.getD, hi]) 0
    have e : Lib.bytesOf (l.map fun x => (x.toNat : Int)) = l := by
      simp [Lib.bytesOf, Function.comp_def]
    rw [e] at this
    rw [← ix_is]; exact this
  · have h0 : l = [] := List.eq_nil_of_length_eq_zero (by omega)
    subst h0
    cases a with
    | none => exact Lib.run_indexByteNil w _ c 0
    | some a =>
      have hs := Lib.run_indexByteString (P := P) .empty 0 w
      exact hs

theorem ixI_some {l : List UInt8} {i : Nat} (h : fz l = some i) : ixI l = (i : Int) := by unfold ixI; rw [h]
theorem ixI_none {l : List UInt8} (h : fz l = none) : ixI l = -1 := by unfold ixI; rw [h]

end Go.Proofs.Ytdamijicombmkaa.L14
