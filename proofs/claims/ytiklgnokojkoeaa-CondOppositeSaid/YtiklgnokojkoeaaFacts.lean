/- What the statements share: conditions of opposite and of mirror operations, conditions that depend on the last bits, and what a drawn region keeps of the blocks that it reads. No condition. -/
import Derived.Test.YtiklgnokojkoeaaLaw
namespace Go.Proofs.Ytiklgnokojkoeaa
open Go.RowKit L3
open L6 (opd cells6 row_up)

theorem opI_lt {i j : Nat} (h : opI i = some j) : j < 11 := by
  unfold opI at h
  split at h <;> cases h <;> decide
theorem miI_lt {i j : Nat} (h : miI i = some j) : j < 11 := by
  unfold miI at h
  split at h <;> cases h <;> decide
/-- An operation that has a partner is a jump, and the partner a jump of the same number of bits. -/
theorem mv_some {f : Nat → Option Nat} {op j : Int} (h : mv f op = some j) : ∃ i k : Nat, i < 11 ∧ f i = some k ∧ ((op = 45 + (i : Int) ∧ j = 45 + (k : Int)) ∨ (op = 56 + (i : Int) ∧ j = 56 + (k : Int))) := by
  unfold mv at h
  split at h
  · cases hk : f (op - 45).toNat with
    | none => rw [hk] at h; cases h
    | some k => rw [hk] at h; cases h; exact ⟨(op - 45).toNat, k, by omega, hk, .inl ⟨by omega, Int.add_comm _ _⟩⟩
  · split at h
    · cases hk : f (op - 56).toNat with
      | none => rw [hk] at h; cases h
      | some k => rw [hk] at h; cases h; exact ⟨(op - 56).toNat, k, by omega, hk, .inr ⟨by omega, Int.add_comm _ _⟩⟩
    · cases h
theorem opp_hoV {op j : Int} (h : opp op = some j) (reg : Bool) (imm a s : Int) : hoV j reg imm a s = !hoV op reg imm a s := by
  obtain ⟨i, k, hi, hk, ⟨rfl, rfl⟩ | ⟨rfl, rfl⟩⟩ := mv_some h
  · rw [hoV_64 i hi, hoV_64 k (opI_lt hk), cnd_opp _ _ _ _ _ hk]
  · rw [hoV_32 i hi, hoV_32 k (opI_lt hk), cnd_opp _ _ _ _ _ hk]
theorem opd_reg (f imm s : Int) : opd true f imm s = s := rfl
theorem mir_hoV {op j : Int} (h : mir op = some j) (imm a s : Int) : hoV j true imm s a = hoV op true imm a s := by
  obtain ⟨i, k, hi, hk, ⟨rfl, rfl⟩ | ⟨rfl, rfl⟩⟩ := mv_some h
  · rw [hoV_64 i hi, hoV_64 k (miI_lt hk), opd_reg, opd_reg, cnd_mir _ _ _ _ _ hk]
  · rw [hoV_32 i hi, hoV_32 k (miI_lt hk), opd_reg, opd_reg, cnd_mir _ _ _ _ _ hk]
theorem mv_wf {f : Nat → Option Nat} {op j : Int} (hf : ∀ i k, f i = some k → k < 11) (h : mv f op = some j) : 0 ≤ j ∧ j < 100 := by
  obtain ⟨i, k, hi, hk, ⟨rfl, rfl⟩ | ⟨rfl, rfl⟩⟩ := mv_some h
  · have := hf i k hk; omega
  · have := hf i k hk; omega
theorem inv_of {q : Int → Option Int} {l : List (Int × Int)} (hok : OkL q l) (hc : Cov q l) {op j : Int} (h : q op = some j) : q j = some op := by
  obtain ⟨p, hp, h2⟩ := hc op j h
  obtain ⟨_, _, k1, k2, k3, k4⟩ := hok p hp
  rcases h2 with rfl | rfl | rfl | rfl
  · rw [k1] at h; cases h; exact k2
  · rw [k2] at h; cases h; exact k1
  · rw [k3] at h; cases h; exact k4
  · rw [k4] at h; cases h; exact k3

theorem low_up (d a : Int) : (d % 4294967296 + a * 4294967296) % 4294967296 = d % 4294967296 := by omega
theorem opd_low (reg : Bool) (f imm s a : Int) : opd reg f imm (s % 4294967296 + a * 4294967296) % 4294967296 = opd reg f imm s % 4294967296 := by
  unfold opd
  split
  · exact low_up s a
  · rfl
theorem low_hoV {op : Int} (hf : frm (ix op) = 4) (hb : bt (ix op) = 32) (reg : Bool) (imm d s a b : Int) : hoV op reg imm (d % 4294967296 + a * 4294967296) (s % 4294967296 + b * 4294967296) = hoV op reg imm d s := by
  rcases kinds op with ⟨_, h⟩ | ⟨i, hi, rfl, _, h⟩ | ⟨i, hi, rfl, _, _⟩ | ⟨_, _, _, h⟩
  · rw [hf] at h; cases h
  · rw [hb] at h; cases h
  · rw [hoV_32 i hi, hoV_32 i hi, low_up, opd_low]
  · exact absurd hf h
theorem up_b (d a : Int) (ha : 0 ≤ a ∧ a < 4294967296) : 0 ≤ d % 4294967296 + a * 4294967296 ∧ d % 4294967296 + a * 4294967296 < 18446744073709551616 := by omega

/-! ### what a drawn region keeps -/
theorem cells8 {w : World} {k : Nat} {a b c d e f g h : Value} {t : TypeId} (hk : w.heap[k]? = some (.cells #[a, b, c, d, e, f, g, h] t)) :
    w.cell? ⟨k, 0, none⟩ = some a ∧ w.cell? ⟨k, 1, none⟩ = some b ∧ w.cell? ⟨k, 2, none⟩ = some c ∧ w.cell? ⟨k, 3, none⟩ = some d ∧ w.cell? ⟨k, 4, none⟩ = some e ∧ w.cell? ⟨k, 5, none⟩ = some f ∧ w.cell? ⟨k, 6, none⟩ = some g ∧ w.cell? ⟨k, 7, none⟩ = some h := by
  simp [World.cell?, hk]
/-- The case lies boxed. -/
def By (w W : World) (g : Nat) (cs : Array Value) : Prop := Below w.heap.size w W ∧ W.heap[g]? = some (.cells cs 26)
theorem By.below {w W W' : World} {g : Nat} {cs : Array Value} (h : By w W g cs) (hb : Below W.heap.size W W') : By w W' g cs := ⟨bch h.1 hb, row_up h.2 hb⟩
theorem keep8B {w W W' : World} {k : Nat} {a b c d e f g h : Value} (hb : Below W.heap.size W W') (x : By w W k #[a, b, c, d, e, f, g, h]) :
    By w W' k #[a, b, c, d, e, f, g, h] ∧ W'.cell? ⟨k, 0, none⟩ = some a ∧ W'.cell? ⟨k, 1, none⟩ = some b ∧ W'.cell? ⟨k, 2, none⟩ = some c ∧ W'.cell? ⟨k, 3, none⟩ = some d ∧ W'.cell? ⟨k, 4, none⟩ = some e ∧ W'.cell? ⟨k, 5, none⟩ = some f ∧ W'.cell? ⟨k, 6, none⟩ = some g ∧ W'.cell? ⟨k, 7, none⟩ = some h :=
  ⟨x.below hb, cells8 (x.below hb).2⟩
theorem keep8C {w W W' : World} {k : Nat} {a b c d e f g h : Value} (hb : Below W.heap.size W W') (x : By w W k #[a, b, c, d, e, f, g, h] ∧ W.cell? ⟨k, 0, none⟩ = some a ∧ W.cell? ⟨k, 1, none⟩ = some b ∧ W.cell? ⟨k, 2, none⟩ = some c ∧ W.cell? ⟨k, 3, none⟩ = some d ∧ W.cell? ⟨k, 4, none⟩ = some e ∧ W.cell? ⟨k, 5, none⟩ = some f ∧ W.cell? ⟨k, 6, none⟩ = some g ∧ W.cell? ⟨k, 7, none⟩ = some h) :
    By w W' k #[a, b, c, d, e, f, g, h] ∧ W'.cell? ⟨k, 0, none⟩ = some a ∧ W'.cell? ⟨k, 1, none⟩ = some b ∧ W'.cell? ⟨k, 2, none⟩ = some c ∧ W'.cell? ⟨k, 3, none⟩ = some d ∧ W'.cell? ⟨k, 4, none⟩ = some e ∧ W'.cell? ⟨k, 5, none⟩ = some f ∧ W'.cell? ⟨k, 6, none⟩ = some g ∧ W'.cell? ⟨k, 7, none⟩ = some h := keep8B hb x.1
/-- The case and one instruction lie boxed. -/
def Bz (w W : World) (g : Nat) (cs : Array Value) (j : Nat) (ds : Array Value) : Prop := By w W g cs ∧ W.heap[j]? = some (.cells ds 23)
theorem Bz.below {w W W' : World} {g j : Nat} {cs ds : Array Value} (h : Bz w W g cs j ds) (hb : Below W.heap.size W W') : Bz w W' g cs j ds := ⟨h.1.below hb, row_up h.2 hb⟩
theorem keepzB {w W W' : World} {k j : Nat} {a b c d e f g h a' b' c' d' e' f' : Value} (hb : Below W.heap.size W W') (x : Bz w W k #[a, b, c, d, e, f, g, h] j #[a', b', c', d', e', f']) :
    Bz w W' k #[a, b, c, d, e, f, g, h] j #[a', b', c', d', e', f'] ∧ (W'.cell? ⟨k, 0, none⟩ = some a ∧ W'.cell? ⟨k, 1, none⟩ = some b ∧ W'.cell? ⟨k, 2, none⟩ = some c ∧ W'.cell? ⟨k, 3, none⟩ = some d ∧ W'.cell? ⟨k, 4, none⟩ = some e ∧ W'.cell? ⟨k, 5, none⟩ = some f ∧ W'.cell? ⟨k, 6, none⟩ = some g ∧ W'.cell? ⟨k, 7, none⟩ = some h) ∧ (W'.cell? ⟨j, 0, none⟩ = some a' ∧ W'.cell? ⟨j, 1, none⟩ = some b' ∧ W'.cell? ⟨j, 2, none⟩ = some c' ∧ W'.cell? ⟨j, 3, none⟩ = some d' ∧ W'.cell? ⟨j, 4, none⟩ = some e' ∧ W'.cell? ⟨j, 5, none⟩ = some f') :=
  ⟨x.below hb, cells8 (x.below hb).1.2, cells6 (x.below hb).2⟩
theorem keepzC {w W W' : World} {k j : Nat} {a b c d e f g h a' b' c' d' e' f' : Value} (hb : Below W.heap.size W W') (x : Bz w W k #[a, b, c, d, e, f, g, h] j #[a', b', c', d', e', f'] ∧ (W.cell? ⟨k, 0, none⟩ = some a ∧ W.cell? ⟨k, 1, none⟩ = some b ∧ W.cell? ⟨k, 2, none⟩ = some c ∧ W.cell? ⟨k, 3, none⟩ = some d ∧ W.cell? ⟨k, 4, none⟩ = some e ∧ W.cell? ⟨k, 5, none⟩ = some f ∧ W.cell? ⟨k, 6, none⟩ = some g ∧ W.cell? ⟨k, 7, none⟩ = some h) ∧ (W.cell? ⟨j, 0, none⟩ = some a' ∧ W.cell? ⟨j, 1, none⟩ = some b' ∧ W.cell? ⟨j, 2, none⟩ = some c' ∧ W.cell? ⟨j, 3, none⟩ = some d' ∧ W.cell? ⟨j, 4, none⟩ = some e' ∧ W.cell? ⟨j, 5, none⟩ = some f')) :
    Bz w W' k #[a, b, c, d, e, f, g, h] j #[a', b', c', d', e', f'] ∧ (W'.cell? ⟨k, 0, none⟩ = some a ∧ W'.cell? ⟨k, 1, none⟩ = some b ∧ W'.cell? ⟨k, 2, none⟩ = some c ∧ W'.cell? ⟨k, 3, none⟩ = some d ∧ W'.cell? ⟨k, 4, none⟩ = some e ∧ W'.cell? ⟨k, 5, none⟩ = some f ∧ W'.cell? ⟨k, 6, none⟩ = some g ∧ W'.cell? ⟨k, 7, none⟩ = some h) ∧ (W'.cell? ⟨j, 0, none⟩ = some a' ∧ W'.cell? ⟨j, 1, none⟩ = some b' ∧ W'.cell? ⟨j, 2, none⟩ = some c' ∧ W'.cell? ⟨j, 3, none⟩ = some d' ∧ W'.cell? ⟨j, 4, none⟩ = some e' ∧ W'.cell? ⟨j, 5, none⟩ = some f') := keepzB hb x.1
end Go.Proofs.Ytiklgnokojkoeaa
