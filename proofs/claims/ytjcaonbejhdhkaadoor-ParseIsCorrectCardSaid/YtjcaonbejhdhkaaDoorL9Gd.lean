/- An instruction that is read is correct: its registers, its offset, its immediate and its names are those of its form. It speaks of no program; condition: the texts are tokens'. -/
import Derived.Test.YtjcaonbejhdhkaaDoorL9Sta
import Derived.Test.YtjcaonbejhdhkaaDoorL4Facts
namespace Go.Proofs.YtjcaonbejhdhkaaDoor.L9
open Go.RowKit

theorem rgFrom_lt (s : ByteArray) : ∀ n k, (L2.rgFrom n k s).2 = true → (L2.rgFrom n k s).1 < k + n
  | 0, _, h => by cases h
  | n + 1, k, h => by
    rw [L2.rgFrom] at h ⊢
    split
    · show k < k + (n + 1); omega
    · rename_i hne
      rw [if_neg hne] at h
      have := rgFrom_lt s n (k + 1) h
      omega
theorem rg_isG {s : ByteArray} (h : (L2.rg s).2 = true) : L4.isG (((L2.rg s).1 : Int)) = true := by
  have := rgFrom_lt s 11 0 h
  have e : L2.rg s = L2.rgFrom 11 0 s := rfl
  unfold L4.isG
  rw [e]
  simp
  omega
theorem re_isG {s : ByteArray} (h : (reV s).2 = 0) : L4.isG (reV s).1 = true := by
  rcases reV_rg s with ⟨h1, e⟩ | ⟨h1, e⟩
  · rw [e]; exact rg_isG h1
  · rw [e] at h; cases h
theorem sx_idem (b x : Int) : L1.sx b (L1.sx b x) = L1.sx b x := by
  unfold L1.sx
  split
  · omega
  split
  · omega
  split
  · omega
  · omega
theorem sx_64 (b x : Int) : -9223372036854775808 ≤ L1.sx b x ∧ L1.sx b x ≤ 9223372036854775807 := by
  unfold L1.sx
  split
  · omega
  split
  · omega
  split
  · omega
  · omega
theorem nu_sx {t : ByteArray} {b : Int} (h : (nuV t b).2 = 0) : L1.sx b (nuV t b).1 = (nuV t b).1 ∧ -9223372036854775808 ≤ (nuV t b).1 ∧ (nuV t b).1 ≤ 9223372036854775807 := by
  unfold nuV L1.ps at h ⊢
  split at h
  · cases h
  · split at h
    · rename_i v o heq hc
      rw [if_pos hc]
      exact ⟨sx_idem _ _, sx_64 _ _⟩
    · cases h
theorem na_ne {t : ByteArray} (h : naV t = 0) : t ≠ ⟨#[]⟩ := by
  rintro rfl
  revert h
  decide +kernel
theorem he_rng {t : ByteArray} : 0 ≤ heV t ∧ heV t ≤ 3 := by
  unfold heV
  split
  · omega
  split
  · omega
  split
  · omega
  · omega
/-- What is asked of an instruction with its names. -/
def Good (f : Int) (x : Ins) (tg mp : ByteArray) : Prop :=
  L4.chkF f x.reg x.dst x.src x.off x.imm = 0 ∧ (-9223372036854775808 ≤ x.imm ∧ x.imm ≤ 9223372036854775807) ∧ (L4.jmpF f = true → x.off = 0) ∧ decide (tg ≠ ⟨#[]⟩) = L4.jmpF f ∧ decide (mp ≠ ⟨#[]⟩) = decide (f = 11)
theorem b0 : -9223372036854775808 ≤ (0:Int) ∧ (0:Int) ≤ 9223372036854775807 := by omega
theorem g0G : L4.isG 0 = true := by decide
theorem s160 : L1.sx 16 0 = 0 := by decide
theorem s320 : L1.sx 32 0 = 0 := by decide
theorem good_second {f op : Int} (hf : f = 0 ∨ f = 4) {d : Int} (hd : L4.isG d = true) {t : ByteArray} {y : Ins} {e : Int} (h : seV ⟨op, false, d, 0, 0, 0⟩ t = (y, e)) (he : e = 0) : L4.chkF f y.reg y.dst y.src y.off y.imm = 0 ∧ (-9223372036854775808 ≤ y.imm ∧ y.imm ≤ 9223372036854775807) ∧ y.off = 0 := by
  unfold seV at h
  cases hb : (L2.rg t).2
  · rw [hb, if_neg (by simp)] at h
    cases h
    obtain ⟨h1, h2⟩ := nu_sx he
    refine ⟨?_, h2, rfl⟩
    rcases hf with rfl | rfl <;> simp [L4.chkF, L4.firstBad, L4.uD, L4.uS, L4.uO, L4.uI, L4.rng, hd, g0G, s160, h1]
  · rw [hb, if_pos rfl] at h
    cases h
    refine ⟨?_, ⟨by show _ ≤ (0 : Int); omega, by show (0 : Int) ≤ _; omega⟩, rfl⟩
    rcases hf with rfl | rfl <;> simp [L4.chkF, L4.firstBad, L4.uD, L4.uS, L4.uO, L4.uI, L4.rng, hd, rg_isG hb, s160, s320]
theorem opV_good {f op : Int} {q : List ByteArray} (h : Ops f q) {r : Rs} (hv : opV f op (spl q) (offV (joi q)) = (r, 0)) : Good f r.x r.tg r.mp := by
  have z0 : decide ((eB : ByteArray) ≠ ⟨#[]⟩) = false := by decide
  cases h with
  | none f h =>
    subst h
    cases hv
    refine ⟨?_, b0, fun _ => rfl, z0, z0⟩
    show L4.chkF 6 false 0 0 0 0 = 0
    decide
  | one f a h ha =>
    rw [spl_one ha] at hv
    rcases h with rfl | rfl | rfl
    · by_cases e1 : (reV a).2 = 0
      · simp [opV, g0, e1] at hv
        subst hv
        refine ⟨?_, b0, fun h => rfl, z0, z0⟩
        simp [L4.chkF, L4.firstBad, L4.uD, L4.uS, L4.uO, L4.uI, L4.rng, re_isG e1, g0G, s160, s320]
      · simp [opV, g0, e1] at hv
    · simp [opV, g0] at hv
      obtain ⟨rfl, hn⟩ := hv
      refine ⟨(by show L4.chkF 3 false 0 0 0 0 = 0; decide), b0, fun _ => rfl, ?_, z0⟩
      have := na_ne hn
      simpa [L4.jmpF] using this
    · by_cases e1 : heV a = 0
      · simp [opV, g0, e1] at hv
      · simp [opV, g0, e1] at hv
        subst hv
        have := he_rng (t := a)
        refine ⟨?_, ⟨by show _ ≤ heV a; omega, by show heV a ≤ _; omega⟩, fun _ => rfl, z0, z0⟩
        have h1 : 1 ≤ heV a := by omega
        simp [L4.chkF, L4.firstBad, L4.uD, L4.uS, L4.uO, L4.uI, L4.rng, g0G, s160, h1, this.2]
  | two f a b h ha hb =>
    rw [spl_two ha hb] at hv
    rcases h with rfl | rfl | rfl | rfl
    · by_cases e1 : (reV a).2 = 0
      · obtain ⟨y, z, hs⟩ : ∃ y z, seV ⟨op, false, (reV a).1, 0, 0, 0⟩ b = (y, z) := ⟨_, _, rfl⟩
        simp [opV, g0, e1, hs] at hv
        obtain ⟨rfl, rfl⟩ := hv
        obtain ⟨k1, k2, k3⟩ := good_second (f := 0) (.inl rfl) (re_isG e1) hs rfl
        exact ⟨k1, k2, fun _ => k3, z0, z0⟩
      · simp [opV, g0, e1] at hv
    · by_cases e1 : (reV a).2 = 0
      · simp [opV, g0, e1] at hv
        obtain ⟨rfl, hn⟩ := hv
        obtain ⟨k1, k2⟩ := nu_sx hn
        refine ⟨?_, k2, fun _ => rfl, z0, z0⟩
        simp [L4.chkF, L4.firstBad, L4.uD, L4.uS, L4.uO, L4.uI, L4.rng, re_isG e1, g0G, s160, k1]
      · simp [opV, g0, e1] at hv
    · by_cases e1 : (reV a).2 = 0
      · simp [opV, g0, e1] at hv
        obtain ⟨rfl, hn⟩ := hv
        refine ⟨?_, b0, fun _ => rfl, z0, z0⟩
        simp [L4.chkF, L4.firstBad, L4.uD, L4.uS, L4.uO, L4.uI, L4.rng, re_isG e1, re_isG hn, s160, s320]
      · simp [opV, g0, e1] at hv
    · by_cases e1 : (reV a).2 = 0
      · simp [opV, g0, e1] at hv
        obtain ⟨rfl, hn⟩ := hv
        refine ⟨?_, b0, fun _ => rfl, z0, by have := na_ne hn; simpa using this⟩
        simp [L4.chkF, L4.firstBad, L4.uD, L4.uS, L4.uO, L4.uI, L4.rng, re_isG e1, g0G, s160]
      · simp [opV, g0, e1] at hv
  | neg f a b h ha hb =>
    rw [spl_neg ha hb] at hv
    rcases h with rfl | rfl
    · by_cases e1 : (reV a).2 = 0
      · obtain ⟨y, z, hs⟩ : ∃ y z, seV ⟨op, false, (reV a).1, 0, 0, 0⟩ (tMin ++ b) = (y, z) := ⟨_, _, rfl⟩
        simp [opV, g0, e1, hs] at hv
        obtain ⟨rfl, rfl⟩ := hv
        obtain ⟨k1, k2, k3⟩ := good_second (f := 0) (.inl rfl) (re_isG e1) hs rfl
        exact ⟨k1, k2, fun _ => k3, z0, z0⟩
      · simp [opV, g0, e1] at hv
    · by_cases e1 : (reV a).2 = 0
      · simp [opV, g0, e1] at hv
        obtain ⟨rfl, hn⟩ := hv
        obtain ⟨k1, k2⟩ := nu_sx hn
        refine ⟨?_, k2, fun _ => rfl, z0, z0⟩
        simp [L4.chkF, L4.firstBad, L4.uD, L4.uS, L4.uO, L4.uI, L4.rng, re_isG e1, g0G, s160, k1]
      · simp [opV, g0, e1] at hv
  | three a b c ha hb hc =>
    rw [spl_three ha hb hc] at hv
    by_cases e1 : (reV a).2 = 0
    · obtain ⟨y, z, hs⟩ : ∃ y z, seV ⟨op, false, (reV a).1, 0, 0, 0⟩ b = (y, z) := ⟨_, _, rfl⟩
      by_cases e2 : z = 0
      · simp [opV, g0, e1, hs, e2] at hv
        obtain ⟨rfl, hn⟩ := hv
        obtain ⟨k1, k2, k3⟩ := good_second (f := 4) (.inr rfl) (re_isG e1) hs e2
        exact ⟨k1, k2, fun _ => k3, by have := na_ne hn; simpa [L4.jmpF] using this, z0⟩
      · simp [opV, g0, e1, hs, e2] at hv
    · simp [opV, g0, e1] at hv
  | threen a b c ha hb hc =>
    rw [spl_threen ha hb hc] at hv
    by_cases e1 : (reV a).2 = 0
    · obtain ⟨y, z, hs⟩ : ∃ y z, seV ⟨op, false, (reV a).1, 0, 0, 0⟩ (tMin ++ b) = (y, z) := ⟨_, _, rfl⟩
      by_cases e2 : z = 0
      · simp [opV, g0, e1, hs, e2] at hv
        obtain ⟨rfl, hn⟩ := hv
        obtain ⟨k1, k2, k3⟩ := good_second (f := 4) (.inr rfl) (re_isG e1) hs e2
        exact ⟨k1, k2, fun _ => k3, by have := na_ne hn; simpa [L4.jmpF] using this, z0⟩
      · simp [opV, g0, e1, hs, e2] at hv
    · simp [opV, g0, e1] at hv
  | load a b ha hb =>
    rw [spl_load ha hb, off_load ha hb] at hv
    by_cases e1 : (reV a).2 = 0
    · simp [opV, meV, g0, e1] at hv
      obtain ⟨rfl, hn⟩ := hv
      refine ⟨?_, b0, fun _ => rfl, z0, z0⟩
      simp [L4.chkF, L4.firstBad, L4.uD, L4.uS, L4.uO, L4.uI, L4.rng, re_isG e1, re_isG hn, s160, s320]
    · simp [opV, g0, e1] at hv
  | loadp a b c ha hb hc =>
    rw [spl_loadp ha hb hc, off_loadp] at hv
    by_cases e1 : (reV a).2 = 0
    · by_cases e2 : (reV b).2 = 0
      · simp [opV, meV, g0, e1, e2] at hv
        obtain ⟨rfl, hn⟩ := hv
        refine ⟨?_, b0, (fun h => by cases h), z0, z0⟩
        simp [L4.chkF, L4.firstBad, L4.uD, L4.uS, L4.uO, L4.uI, L4.rng, re_isG e1, re_isG e2, (nu_sx hn).1, s320]
      · simp [opV, meV, g0, e1, e2] at hv
    · simp [opV, g0, e1] at hv
  | loadm a b c ha hb hc =>
    rw [spl_loadm ha hb hc, off_loadm hb] at hv
    by_cases e1 : (reV a).2 = 0
    · by_cases e2 : (reV b).2 = 0
      · simp [opV, meV, g0, e1, e2] at hv
        obtain ⟨rfl, hn⟩ := hv
        refine ⟨?_, b0, (fun h => by cases h), z0, z0⟩
        simp [L4.chkF, L4.firstBad, L4.uD, L4.uS, L4.uO, L4.uI, L4.rng, re_isG e1, re_isG e2, (nu_sx hn).1, s320]
      · simp [opV, meV, g0, e1, e2] at hv
    · simp [opV, g0, e1] at hv
  | stor f a b h ha hb =>
    rw [spl_stor ha hb, off_stor ha hb] at hv
    rcases h with rfl | rfl
    · by_cases e1 : (reV a).2 = 0
      · simp [opV, meV, g0, e1] at hv
        obtain ⟨rfl, hn⟩ := hv
        obtain ⟨k1, k2⟩ := nu_sx hn
        refine ⟨?_, k2, (fun h => by cases h), z0, z0⟩
        simp [L4.chkF, L4.firstBad, L4.uD, L4.uS, L4.uO, L4.uI, L4.rng, re_isG e1, g0G, s160, k1]
      · simp [opV, meV, g0, e1] at hv
    · by_cases e1 : (reV a).2 = 0
      · simp [opV, meV, g0, e1] at hv
        obtain ⟨rfl, hn⟩ := hv
        refine ⟨?_, b0, (fun h => by cases h), z0, z0⟩
        simp [L4.chkF, L4.firstBad, L4.uD, L4.uS, L4.uO, L4.uI, L4.rng, re_isG e1, re_isG hn, s160, s320]
      · simp [opV, meV, g0, e1] at hv
  | storp f a b c h ha hb hc =>
    rw [spl_storp ha hb hc, off_storp] at hv
    rcases h with rfl | rfl
    · by_cases e1 : (reV a).2 = 0
      · by_cases e2 : (nuV b 16).2 = 0
        · simp [opV, meV, g0, e1, e2] at hv
          obtain ⟨rfl, hn⟩ := hv
          obtain ⟨k1, k2⟩ := nu_sx hn
          refine ⟨?_, k2, (fun h => by cases h), z0, z0⟩
          simp [L4.chkF, L4.firstBad, L4.uD, L4.uS, L4.uO, L4.uI, L4.rng, re_isG e1, g0G, (nu_sx e2).1, k1]
        · simp [opV, meV, g0, e1, e2] at hv
      · simp [opV, meV, g0, e1] at hv
    · by_cases e1 : (reV a).2 = 0
      · by_cases e2 : (nuV b 16).2 = 0
        · simp [opV, meV, g0, e1, e2] at hv
          obtain ⟨rfl, hn⟩ := hv
          refine ⟨?_, b0, (fun h => by cases h), z0, z0⟩
          simp [L4.chkF, L4.firstBad, L4.uD, L4.uS, L4.uO, L4.uI, L4.rng, re_isG e1, re_isG hn, (nu_sx e2).1, s320]
        · simp [opV, meV, g0, e1, e2] at hv
      · simp [opV, meV, g0, e1] at hv
  | storm f a b c h ha hb hc =>
    rw [spl_storm ha hb hc, off_storm ha] at hv
    rcases h with rfl | rfl
    · by_cases e1 : (reV a).2 = 0
      · by_cases e2 : (nuV (tMin ++ b) 16).2 = 0
        · simp [opV, meV, g0, e1, e2] at hv
          obtain ⟨rfl, hn⟩ := hv
          obtain ⟨k1, k2⟩ := nu_sx hn
          refine ⟨?_, k2, (fun h => by cases h), z0, z0⟩
          simp [L4.chkF, L4.firstBad, L4.uD, L4.uS, L4.uO, L4.uI, L4.rng, re_isG e1, g0G, (nu_sx e2).1, k1]
        · simp [opV, meV, g0, e1, e2] at hv
      · simp [opV, meV, g0, e1] at hv
    · by_cases e1 : (reV a).2 = 0
      · by_cases e2 : (nuV (tMin ++ b) 16).2 = 0
        · simp [opV, meV, g0, e1, e2] at hv
          obtain ⟨rfl, hn⟩ := hv
          refine ⟨?_, b0, (fun h => by cases h), z0, z0⟩
          simp [L4.chkF, L4.firstBad, L4.uD, L4.uS, L4.uO, L4.uI, L4.rng, re_isG e1, re_isG hn, (nu_sx e2).1, s320]
        · simp [opV, meV, g0, e1, e2] at hv
      · simp [opV, meV, g0, e1] at hv
  | storn a b ha hb =>
    rw [spl_storn ha hb, off_storn ha hb] at hv
    by_cases e1 : (reV a).2 = 0
    · simp [opV, meV, g0, e1] at hv
      obtain ⟨rfl, hn⟩ := hv
      obtain ⟨k1, k2⟩ := nu_sx hn
      refine ⟨?_, k2, (fun h => by cases h), z0, z0⟩
      simp [L4.chkF, L4.firstBad, L4.uD, L4.uS, L4.uO, L4.uI, L4.rng, re_isG e1, g0G, s160, k1]
    · simp [opV, meV, g0, e1] at hv
  | storpn a b c ha hb hc =>
    rw [spl_storpn ha hb hc, off_storpn] at hv
    by_cases e1 : (reV a).2 = 0
    · by_cases e2 : (nuV b 16).2 = 0
      · simp [opV, meV, g0, e1, e2] at hv
        obtain ⟨rfl, hn⟩ := hv
        obtain ⟨k1, k2⟩ := nu_sx hn
        refine ⟨?_, k2, (fun h => by cases h), z0, z0⟩
        simp [L4.chkF, L4.firstBad, L4.uD, L4.uS, L4.uO, L4.uI, L4.rng, re_isG e1, g0G, (nu_sx e2).1, k1]
      · simp [opV, meV, g0, e1, e2] at hv
    · simp [opV, meV, g0, e1] at hv
  | stormn a b c ha hb hc =>
    rw [spl_stormn ha hb hc, off_stormn ha] at hv
    by_cases e1 : (reV a).2 = 0
    · by_cases e2 : (nuV (tMin ++ b) 16).2 = 0
      · simp [opV, meV, g0, e1, e2] at hv
        obtain ⟨rfl, hn⟩ := hv
        obtain ⟨k1, k2⟩ := nu_sx hn
        refine ⟨?_, k2, (fun h => by cases h), z0, z0⟩
        simp [L4.chkF, L4.firstBad, L4.uD, L4.uS, L4.uO, L4.uI, L4.rng, re_isG e1, g0G, (nu_sx e2).1, k1]
      · simp [opV, meV, g0, e1, e2] at hv
    · simp [opV, meV, g0, e1] at hv
end Go.Proofs.YtjcaonbejhdhkaaDoor.L9
