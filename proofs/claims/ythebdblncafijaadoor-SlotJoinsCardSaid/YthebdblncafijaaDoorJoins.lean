/- SlotJoins: for every list of instructions, the law 'Join returns the bytes of the reference, which All reads, or the index and the error of the first one that is not correct' returns true, and its argument reads as before; the row's listed variable is tied to the program's text. No other condition. -/
import Derived.Test.YthebdblncafijaaDoorRjoin
import Derived.Test.YthebdblncafijaaDoorLaw
import Derived.Test.YthebdblncafijaaDoorCards
import Derived.Test.YthebdblncafijaaDoorTie
import Derived.SevenTiedAt
namespace Go.Proofs.YthebdblncafijaaDoor
open Go.ChangeShapes Go.WideShapes Go.ChangeAt Go.RowKit

open Go.Deep
open L3 L1 L4

section
variable {H : Type} {enc : TypeId × Value → H} {P : Program} {w : World} {base : Nat} {spare : Nat → Bool} {held : Bool}
theorem open_fields {t e : TypeId} {fs : Array Field} {fuel : Nat} {cs : List Value} {x : DataW H × List MemPlace} (ht : P.underlying t = some (.slice e)) (he : P.underlying e = some (.struct fs))
    (hone : oneCellFields P fs = true) (hC : P.cellsOf e = fs.size) (h : DataW.trod enc P w base spare held fuel t cs = some x) :
    cs = [.slice none 0 0] ∨
    ∃ (a : Addr) (len cap : Nat), cs = [.slice (some a) len cap] ∧ ∀ i, i < len → ∃ n : Nat, ∀ (j : Nat) (f : Field), fs[j]? = some f → ∃ (v : Value) (y : DataW H × List MemPlace), w.cell? (a.add (i * fs.size + j)) = some v ∧ DataW.trod enc P w base spare held n f.type [v] = some y := by
  rcases open_slice ht h with h0 | ⟨a, len, cap, m, n, D, Pl, hcs, -, hl, -, hmm, -, hi⟩
  · exact .inl h0.1
  · refine .inr ⟨a, len, cap, hcs, fun i him => ?_⟩
    obtain ⟨cs', hc, ht'⟩ := hi i (by split at hmm <;> omega)
    rw [hC] at hc
    obtain ⟨ys, n', _, _, hlen, hyl, hf⟩ := DataW.trod_struct he ht'
    obtain ⟨_, hcl, hat⟩ := World.cells?_some hc
    refine ⟨n', fun j f hj => ?_⟩
    obtain ⟨ho, hk⟩ := hone_of hone j f hj
    have hjl : j < fs.size := (Array.getElem?_eq_some_iff.1 hj).1
    have hcell := hat j hjl
    have hv : cs'[j]? = some (cs'[j]'(by omega)) := List.getElem?_eq_getElem (by omega)
    have h1 := hf j f hj
    rw [ho, hk] at h1
    have hone' : (cs'.drop j).take 1 = [cs'[j]'(by omega)] := by
      rw [List.drop_eq_getElem_cons (by omega)]
      rfl
    rw [hone'] at h1
    have hys : ys[j]? = some (ys[j]'(by omega)) := List.getElem?_eq_getElem (by omega)
    refine ⟨_, _, ?_, h1.trans hys⟩
    rw [← Go.Deep.add_add, hcell, hv]
end
theorem list_of {α : Type} {P : Nat → α → Prop} : ∀ n : Nat, (∀ i, i < n → ∃ x, P i x) → ∃ l : List α, l.length = n ∧ ∀ i, (hi : i < l.length) → P i l[i]
  | 0, _ => ⟨[], rfl, fun i hi => absurd hi (by simp)⟩
  | n + 1, h => by
    obtain ⟨l, hl, hp⟩ := list_of n (fun i hi => h i (by omega))
    obtain ⟨x, hx⟩ := h n (by omega)
    refine ⟨l ++ [x], by simp [hl], fun i hi => ?_⟩
    by_cases hlt : i < l.length
    · rw [List.getElem_append_left hlt]; exact hp i hlt
    · have : i = n := by simp at hi; omega
      subst this
      rw [List.getElem_append_right (by omega)]
      simpa [hl] using hx
/-- A slice of instructions that is handed over reads as some instructions. -/
theorem open_inss {H : Type} {enc : TypeId × Value → H} {W : World} {r : Reach} {b0 base : Nat} {v : Value} {d : DataW H} {ps : List MemPlace} {sp : Nat → Bool}
    (hval : Value.okWide Tryd.prog W r b0 40 v) (hd : DataW.Trod enc Tryd.prog W base sp true 40 v d ps) : ∃ l, InAt W v l ∧ ∀ x ∈ l, x.fits := by
  obtain ⟨a0, len, cap, rfl⟩ := okWide_slice Tryd.underlying40 hval
  obtain ⟨fuel, hf⟩ := hd
  rcases open_fields Tryd.underlying40 Tryd.underlying23 (by kernel_rfl) (by kernel_rfl) hf with hcs | ⟨a, len', cap', hcs, hi⟩
  · simp [Value.cells] at hcs
    obtain ⟨rfl, rfl, rfl⟩ := hcs
    exact ⟨[], ⟨none, 0, rfl, .inl rfl⟩, by simp⟩
  · simp [Value.cells] at hcs
    obtain ⟨rfl, rfl, rfl⟩ := hcs
    have each : ∀ i, i < len → ∃ x : Ix, x.fits ∧ ∀ j u, x.cs[j]? = some u → W.cell? (a.add (i * 6 + j)) = some u := by
      intro i hil
      obtain ⟨n, hfl⟩ := hi i hil
      obtain ⟨c0, y0, q0, g0⟩ := hfl 0 _ rfl
      obtain ⟨c1, y1, q1, g1⟩ := hfl 1 _ rfl
      obtain ⟨c2, y2, q2, g2⟩ := hfl 2 _ rfl
      obtain ⟨c3, y3, q3, g3⟩ := hfl 3 _ rfl
      obtain ⟨c4, y4, q4, g4⟩ := hfl 4 _ rfl
      obtain ⟨c5, y5, q5, g5⟩ := hfl 5 _ rfl
      obtain ⟨n0, e0, -, -⟩ := DataW.trod_int Tryd.underlying3 g0
      obtain ⟨n1, e1, -⟩ := DataW.trod_bool Tryd.underlying4 g1
      obtain ⟨n2, e2, -, -⟩ := DataW.trod_int Tryd.underlying3 g2
      obtain ⟨n3, e3, -, -⟩ := DataW.trod_int Tryd.underlying3 g3
      obtain ⟨n4, e4, -, -⟩ := DataW.trod_int Tryd.underlying3 g4
      obtain ⟨n5, e5, -, k5⟩ := DataW.trod_int Tryd.underlying2 g5
      simp only [List.cons.injEq, and_true] at e0 e1 e2 e3 e4 e5
      subst e0 e1 e2 e3 e4 e5
      refine ⟨⟨n0, n1, n2, n3, n4, n5⟩, bounds_i64 k5, fun j u hu => ?_⟩
      have hj : j < 6 := by
        have := (Array.getElem?_eq_some_iff.1 hu).1
        simpa using this
      rcases (by omega : j = 0 ∨ j = 1 ∨ j = 2 ∨ j = 3 ∨ j = 4 ∨ j = 5) with rfl | rfl | rfl | rfl | rfl | rfl
      · cases hu; exact q0
      · cases hu; exact q1
      · cases hu; exact q2
      · cases hu; exact q3
      · cases hu; exact q4
      · cases hu; exact q5
    obtain ⟨l, hl, hp⟩ := list_of len each
    subst hl
    refine ⟨l, ⟨_, _, rfl, ?_⟩, fun x hx => ?_⟩
    · by_cases h0 : l = []
      · exact .inl h0
      · have hpos : 0 < l.length := List.length_pos_iff.2 h0
        obtain ⟨b, off, spot⟩ := a
        have hspot : spot = none := by simpa [Addr.add] using World.cell?_spot ((hp 0 hpos).2 0 _ rfl)
        subst hspot
        refine .inr ⟨b, off, rfl, fun i hil m u hu => ?_⟩
        rw [Nat.add_assoc, ← add_plain]
        exact (hp i hil).2 m u hu
    · obtain ⟨i, hil, rfl⟩ := List.getElem_of_mem hx
      exact (hp i hil).1

set_option maxHeartbeats 4000000 in
set_option maxRecDepth 100000 in
theorem joins_long (a : Option Addr) (n cap : Nat) (w : World) (hn : 300 < n) (hw : Wid w) : Calls Tryd.prog 8 #[.slice a n cap] w fun e w' => e = .returned (.bool true) ∧ Below w.heap.size w w' := by
  have hn' : (300 : Int) < (n : Int) := by omega
  go_enter Tryd.func8, Tryd.ntmps8
  go_wp2_with (go_at_call 11; ((with_reducible refine (alive_any _ hw).mono ?_); rintro e w3 ⟨rfl, b3⟩))
  go_ret
  exact ⟨rfl, b3⟩

theorem join_no (v : Value) (p : List Ix) (x : Ix) (q : List Ix) (w : World) (hw : Wid w) (hm : (p ++ x :: q).length ≤ 100000) (hv : InAt w v (p ++ x :: q)) (hf : ∀ y ∈ p ++ x :: q, y.fits) (h0 : ∀ y ∈ p, y.err = 0) (hx : x.err ≠ 0) :
    Calls Tryd.prog 20 #[v] w fun e w' => e = .returned (.tuple #[.slice none 0 0, .int .i64 (p.length : Int), .int .i64 x.err]) ∧ Below w.heap.size w w' := by
  refine (join_at v _ w hw hm hv hf).mono fun e w' h => ?_
  obtain ⟨h, hb⟩ := h
  refine ⟨?_, hb⟩
  rcases h with ⟨p', x', q', he, hp', hx', rfl⟩ | ⟨hall, -⟩
  · have key : ∀ (p p' : List Ix) (x x' : Ix) (q q' : List Ix), p ++ x :: q = p' ++ x' :: q' → (∀ y ∈ p, y.err = 0) → (∀ y ∈ p', y.err = 0) → x.err ≠ 0 → x'.err ≠ 0 → p.length = p'.length ∧ x = x' := by
      intro p
      induction p with
      | nil =>
        intro p' x x' q q' he _ hp' hx _
        cases p' with
        | nil => simp at he; exact ⟨rfl, he.1⟩
        | cons y r => simp at he; exact absurd (by rw [he.1]; exact hp' y (by simp)) hx
      | cons z s ih =>
        intro p' x x' q q' he hp hp' hx hx'
        cases p' with
        | nil => simp at he; exact absurd (by rw [← he.1]; exact hp z (by simp)) hx'
        | cons y r =>
          simp at he
          obtain ⟨i1, i2⟩ := ih r x x' q q' he.2 (fun y hy => hp y (by simp [hy])) (fun y hy => hp' y (by simp [hy])) hx hx'
          exact ⟨by simp [i1], i2⟩
    obtain ⟨k1, k2⟩ := key p p' x x' q q' he h0 hp' hx hx'
    rw [k1, k2]
  · exact absurd (hall x (by simp)) hx

set_option maxHeartbeats 4000000 in
set_option maxRecDepth 100000 in
theorem joins_bad (k o n cap : Nat) (p : List Ix) (x : Ix) (q : List Ix) (w : World) (hn : (p ++ x :: q).length = n) (hm : n ≤ 300) (hw : Wid w) (hi : Inss w k o (p ++ x :: q)) (hf : ∀ y ∈ p ++ x :: q, y.fits) (h0 : ∀ y ∈ p, y.err = 0) (hx : x.err ≠ 0) :
    Calls Tryd.prog 8 #[.slice (some ⟨k, o, none⟩) n cap] w fun e w' => e = .returned (.bool true) ∧ Below w.heap.size w w' := by
  have HW := Lib.hid hw
  have hv : InAt w (.slice (some ⟨k, o, none⟩) n cap) (p ++ x :: q) := ⟨_, cap, by rw [hn], .inr ⟨k, o, rfl, hi⟩⟩
  have HJ := Lib.hid (join_no _ p x q w hw (by omega) hv hf h0 hx)
  have HI := Lib.hid hi
  have hc : ∀ y ∈ p ++ x :: q, ∀ R w, y.err = R → Calls Tryd.prog 10 #[.agg #[.int .i64 y.op, .bool y.reg, .int .i64 y.dst, .int .i64 y.src, .int .i64 y.off, .int .i64 y.imm]] w fun e w' => e = .returned (.int .i64 R) ∧ Below w.heap.size w w' := fun y hy R w h => rchk_is y R w (hf y hy) h
  have HC := Lib.hid hc
  have hxe : (x.err != 0) = true := by simpa using hx
  have hpn : p.length < n := by rw [← hn, List.length_append, List.length_cons]; omega
  have hn' : ¬ (300 : Int) < (n : Int) := by omega
  have hg : ∀ j, (h : j < p.length) → ∃ y, (p ++ x :: q)[j]? = some y ∧ y.err = 0 ∧ y ∈ p ++ x :: q := fun j h => ⟨p[j], by rw [List.getElem?_append_left h, List.getElem?_eq_getElem h], h0 _ (List.getElem_mem _), by simp⟩
  have HG := Lib.hid hg
  have HL := Lib.hid (show (p ++ x :: q)[p.length]? = some x by simp)
  have HM := Lib.hid (show x ∈ p ++ x :: q by simp)
  obtain ⟨m, hm'⟩ : ∃ m, p.length = m := ⟨_, rfl⟩
  rw [hm'] at HJ HG HL hpn
  obtain ⟨xs, hxs⟩ : ∃ xs, p ++ x :: q = xs := ⟨_, rfl⟩
  rw [hxs] at HI HC HG HL HM
  clear hw hv hi hc hg hm' hxs hn hf h0 hx
  go_enter Tryd.func8, Tryd.ntmps8
  go_upto_region 5 with (go_at_call 20; ((with_reducible refine (HJ.out).mono ?_); rintro e w1 ⟨rfl, b1⟩))
  go_loopw [24] (fun i wr => ∃ j : Nat, j ≤ m ∧ i = .int .i64 (j : Int) ∧ Below w.heap.size w wr) (fun i _ => m - (intOf i).toNat)
  case atStart => exact ⟨0, Nat.zero_le _, rfl, b1⟩
  case round =>
    obtain ⟨j, hj, rfl, hB⟩ := hrel
    have hjn : j < n := by omega
    have hlt' : (j : Int) < (n : Int) := by omega
    by_cases hlt : j < m
    · obtain ⟨y, hy, hye, hym⟩ := HG.out j hlt
      obtain ⟨hjl, hyj⟩ := List.getElem?_eq_some_iff.1 hy
      have hI := (HI.out.up hB) j hjl
      rw [hyj] at hI
      have a0 := hI 0 _ rfl
      have a1 := hI 1 _ rfl
      have a2 := hI 2 _ rfl
      have a3 := hI 3 _ rfl
      have a4 := hI 4 _ rfl
      have a5 := hI 5 _ rfl
      rw [Nat.add_zero] at a0
      have HE := Lib.hid (fun w => HC.out y hym 0 w hye)
      clear hI hy hye hym hyj hjl
      go_wp2_with (go_at_call 10; ((with_reducible refine (HE.out _).mono ?_); rintro e w2 ⟨rfl, b2⟩))
      go_roundw
      case rel => exact ⟨j + 1, by omega, by go_num, bch hB (bch (bnew wr _) b2)⟩
      case measure => simp [intOf]; omega
    · obtain rfl : j = m := by omega
      obtain ⟨hjl, hyj⟩ := List.getElem?_eq_some_iff.1 HL.out
      have hI := (HI.out.up hB) j hjl
      rw [hyj] at hI
      have a0 := hI 0 _ rfl
      have a1 := hI 1 _ rfl
      have a2 := hI 2 _ rfl
      have a3 := hI 3 _ rfl
      have a4 := hI 4 _ rfl
      have a5 := hI 5 _ rfl
      rw [Nat.add_zero] at a0
      have HE := Lib.hid (fun w => HC.out x HM.out x.err w rfl)
      clear hI hyj hjl hlt
      go_wp2_with (first | (go_at_call 10; ((with_reducible refine (HE.out _).mono ?_); rintro e w2 ⟨rfl, b2⟩; have B2 := bch hB (bch (bnew wr (.cells x.cs 23)) b2))) | (go_at_call 11; ((with_reducible refine (alive_any _ (wid_below HW.out B2)).mono ?_); rintro e w3 ⟨rfl, b3⟩)))
      go_ret
      exact ⟨rfl, bch B2 b3⟩

set_option maxHeartbeats 4000000 in
set_option maxRecDepth 100000 in
theorem joins_good (ad : Option Addr) (n cap : Nat) (xs : List Ix) (w : World) (hn : xs.length = n) (hm : n ≤ 300) (hw : Wid w) (hv : InAt w (.slice ad n cap) xs) (hf : ∀ y ∈ xs, y.fits) (h0 : ∀ y ∈ xs, y.err = 0) :
    Calls Tryd.prog 8 #[.slice ad n cap] w fun e w' => e = .returned (.bool true) ∧ Below w.heap.size w w' := by
  have HW := Lib.hid hw
  have HV := Lib.hid hv
  obtain ⟨e1, e2⟩ := rds_enc xs (joinB xs).length 0 (Nat.le_refl _) h0 hf
  have hjl := joinB_length xs
  obtain ⟨r, hr⟩ : ∃ r, rds (joinB xs).length 0 (joinB xs) = r := ⟨_, rfl⟩
  rw [hr] at e1 e2
  have hrl : r.length = n := by rw [← hn, ← e1, List.length_map]
  have HJ := Lib.hid (join_ok _ xs _ w hw (by omega) hv hf h0 rfl)
  have HA := Lib.hid (fun (v : Value) (w : World) (hw : Wid w) (hv : BsAt w v (joinB xs)) => (by have := all_ok v (joinB xs) r n w hw (by omega) hv hr e2 hrl; rw [e1] at this; exact this : Calls Tryd.prog 17 #[v] w fun e w' => ∃ a c, e = .returned (.tuple #[.slice a n c, .int .i64 0, .int .i64 0]) ∧ InAt w' (.slice a n c) xs ∧ Below w.heap.size w w'))
  have HR := Lib.hid (fun (w : World) (hv : InAt w (.slice ad n cap) xs) => rjoin_at _ xs w (by omega) hv h0)
  have HS := Lib.hid (fun v v' w h h' => same_at v v' (joinB xs) w (by omega) h h')
  have HT := Lib.hid (fun v v' w h h' => isame_at v v' xs w (by omega) h h')
  have hc : ∀ j, (h : j < n) → ∃ (k o : Nat) (y : Ix), ad = some ⟨k, o, none⟩ ∧ (∀ W : World, Below w.heap.size w W → ∀ m u, y.cs[m]? = some u → W.cell? ⟨k, o + j * 6 + m, none⟩ = some u) ∧ ∀ w, Calls Tryd.prog 10 #[.agg #[.int .i64 y.op, .bool y.reg, .int .i64 y.dst, .int .i64 y.src, .int .i64 y.off, .int .i64 y.imm]] w fun e w' => e = .returned (.int .i64 0) ∧ Below w.heap.size w w' := by
    intro j hj
    obtain ⟨a, c, hs, h⟩ := hv
    rw [hn] at hs
    obtain ⟨rfl, rfl⟩ : ad = a ∧ cap = c := by cases hs; exact ⟨rfl, rfl⟩
    rcases h with rfl | ⟨k, o, rfl, h⟩
    · simp at hn; omega
    · have hjx : j < xs.length := by omega
      exact ⟨k, o, xs[j], rfl, fun W hb m u hu => (h.up hb) j hjx m u hu, fun w => rchk_is _ 0 w (hf _ (List.getElem_mem _)) (h0 _ (List.getElem_mem _))⟩
  have HC := Lib.hid hc
  have hn' : ¬ (300 : Int) < (n : Int) := by omega
  generalize joinB xs = B at HJ HA HR HS
  clear hw hv hf h0 hc e1 e2 hr hrl hjl hn
  go_enter Tryd.func8, Tryd.ntmps8
  go_upto_region 5 with (go_at_call 20; ((with_reducible refine (HJ.out).mono ?_); rintro e w1 ⟨a1, c1, rfl, i1, b1⟩))
  go_loopw [24] (fun i wr => ∃ j : Nat, j ≤ n ∧ i = .int .i64 (j : Int) ∧ Below w.heap.size w wr ∧ Below w1.heap.size w1 wr) (fun i _ => n - (intOf i).toNat)
  case atStart => exact ⟨0, Nat.zero_le _, rfl, b1, Below.refl _ _⟩
  case round =>
    obtain ⟨j, hj, rfl, hB, hB1⟩ := hrel
    by_cases hlt : j < n
    · have hlt' : (j : Int) < (n : Int) := by omega
      obtain ⟨k, o, y, rfl, hcell, hchk⟩ := HC.out j hlt
      have hI := hcell _ hB
      have a0 := hI 0 _ rfl
      have a1 := hI 1 _ rfl
      have a2 := hI 2 _ rfl
      have a3 := hI 3 _ rfl
      have a4 := hI 4 _ rfl
      have a5 := hI 5 _ rfl
      rw [Nat.add_zero] at a0
      have HE := Lib.hid hchk
      clear hI hcell hchk
      go_wp2_with (go_at_call 10; ((with_reducible refine (HE.out _).mono ?_); rintro e w2 ⟨rfl, b2⟩))
      go_roundw
      case rel => exact ⟨j + 1, by omega, by go_num, bch hB (bch (bnew wr _) b2), bch hB1 (bch (bnew wr _) b2)⟩
      case measure => simp [intOf]; omega
    · have hge : ¬ (j : Int) < (n : Int) := by omega
      have i1' := Lib.hid (i1.below hB1)
      go_wp2_with (first | (go_at_call 17; ((with_reducible refine (HA.out _ _ (wid_below HW.out hB) i1'.out).mono ?_); rintro e w3 ⟨a3, c3, rfl, i3, b3⟩; have B3 := bch hB b3; have j1 := i1'.out.below b3)) | (go_at_call 11; ((with_reducible refine (alive_any _ (wid_below HW.out B3)).mono ?_); rintro e w4 ⟨rfl, b4⟩; have B4 := bch B3 b4; have j2 := j1.below b4; have i4 := i3.below b4)) | (go_at_call 21; ((with_reducible refine (HR.out _ (HV.out.below B4)).mono ?_); rintro e w5 ⟨v5, rfl, i5, b5⟩; have B5 := bch B4 b5; have j3 := (j2.below b5).v; have i6 := i4.below b5; have j5 := i5.v)) | (go_at_call 12; ((with_reducible refine (HS.out _ _ _ j3 j5).mono ?_); rintro e w6 ⟨rfl, b6⟩; have B6 := bch B5 b6; have i7 := i6.below b6; have V6 := HV.out.below B6)) | (go_at_call 19; ((with_reducible refine (HT.out _ _ _ V6 i7).mono ?_); rintro e w7 ⟨rfl, b7⟩)))
      go_ret
      exact ⟨rfl, bch B6 b7⟩
theorem joins_walk (v : Value) (xs : List Ix) (w : World) (hv : InAt w v xs) (hf : ∀ x ∈ xs, x.fits) (hw : Wid w) : Calls Tryd.prog 8 #[v] w fun e w' => e = .returned (.bool true) ∧ Below w.heap.size w w' := by
  have hv' := hv
  obtain ⟨a, cap, rfl, h⟩ := hv'
  by_cases hl : 300 < xs.length
  · exact joins_long a _ cap w hl hw
  · by_cases h0 : ∀ y ∈ xs, y.err = 0
    · exact joins_good a _ cap xs w rfl (by omega) hw hv hf h0
    · have first : ∀ l : List Ix, ¬ (∀ y ∈ l, y.err = 0) → ∃ p x q, l = p ++ x :: q ∧ (∀ y ∈ p, y.err = 0) ∧ x.err ≠ 0 := by
        intro l
        induction l with
        | nil => intro h; exact absurd (fun y hy => by cases hy) h
        | cons z s ih =>
          intro h
          by_cases hz : z.err = 0
          · obtain ⟨p, x, q, rfl, h1, h2⟩ := ih (fun hs => h (fun y hy => by
              rcases List.mem_cons.1 hy with rfl | hy
              · exact hz
              · exact hs y hy))
            exact ⟨z :: p, x, q, rfl, fun y hy => by
              rcases List.mem_cons.1 hy with rfl | hy
              · exact hz
              · exact h1 y hy, h2⟩
          · exact ⟨[], z, s, rfl, by simp, hz⟩
      obtain ⟨p, x, q, rfl, h1, h2⟩ := first xs h0
      rcases h with h | ⟨k, o, rfl, h⟩
      · simp at h
      · exact joins_bad k o _ cap p x q w rfl (by omega) hw h hf h1 h2

set_option maxRecDepth 100000 in
theorem joins_lifted (os : Os) (started : os.Started) (H : Type) (enc : TypeId × Value → H) :
    ReturnsInHanded {} Tryd.checked os 8 .any (fun w args => (Rows.slotJoinsSpec.pre enc Tryd.prog Tryd.f8 [] false w args ∧ laidMetH Tryd.prog laid4 w) ∧ sizedMet enc Tryd.prog Tryd.f8 (OpenSpec.ofChange Rows.slotJoinsSpec) false w args)
      (Rows.slotJoinsSpec.post enc Tryd.prog Tryd.f8 false true false false) := by
  refine returnsInHanded_of_change_and (C := Tryd.checked) (X := fun w _ => laidMetH Tryd.prog laid4 w) (fun _ _ _ hh h => h.of_heap hh) own started (by kernel_rfl) Tryd.func8
    (ChangeSpec.witness_shaped (enc := enc) (C := Tryd.checked) (os := os) (X := fun w _ => laidMetH Tryd.prog laid4 w) false (World.doorLaid Tryd.prog 4000 os) #[.slice none 0 0] 8 rfl (World.shaped_of_RefB (by kernel_rfl) (by kernel_rfl)) (by kernel_rfl) (by kernel_rfl) (by kernel_rfl) (door_met os _)) ?_
  intro W base args ds gs before hval0 hW _ _ hL _
  have hval : ∀ (j : Nat) t v, Tryd.f8.params[j]? = some t → args[j]? = some v → Value.okWide Tryd.prog W .any base t v := hval0
  have hW' := hW
  obtain ⟨p, q, hA0, hV, rfl, hfz, hnd⟩ := hW
  have hA : DataW.TrodAll enc Tryd.prog W 0 (fun _ => true) true Tryd.f8.params.toList args.toList ds p := hA0
  rw [Tryd.params8] at hA hval
  obtain ⟨v0, vs0, d0, ds0, p0, q0, hargs, rfl, rfl, h0, r0⟩ := trodAll_cons hA
  obtain ⟨rfl, rfl, rfl⟩ := trodAll_nil r0
  obtain rfl : args = #[v0] := by cases args; simp_all
  obtain ⟨rfl, rfl⟩ := trodVars_none hV
  clear hA0 hval0
  simp only [List.append_nil] at hW'
  obtain ⟨l0, hl0, hf0⟩ := open_inss (hval 0 40 v0 rfl rfl) h0
  have hlt0 : ∀ x ∈ p0, x.block < W.heap.size := fun x hx => by simpa using hW'.lt x (by simp [hx])
  refine (joins_walk v0 l0 W hl0 hf0 (tabs_of hL)).mono fun e W' ⟨he, hg⟩ => ?_
  subst he
  exact ⟨_, rfl, law_post_at hW' rfl rfl Tryd.underlying4 rfl (trodAll_mk1 (Below.trod laidOut (by kernel_rfl) (of_decide_eq_true (by kernel_rfl)) h0 hg hlt0)) hg⟩

theorem joins_said : Rows.SlotJoinsSaid :=
  OpenClaim.holds_of_wide 8 Tryd.f8 rfl rfl rfl rfl rfl rfl rfl ⟨rfl, rfl, rfl, rfl, rfl⟩ rfl rfl rfl rfl rfl (by kernel_rfl) Tryd.func8 (by kernel_rfl)
    (of_decide_eq_true (by kernel_rfl)) (by unfold Func.isWrapper; first | (rw [if_pos (by decide +kernel)]; kernel_rfl) | (rw [if_neg (by decide +kernel)]; exact ⟨rfl, rfl⟩))
    (fun os started H enc _ => joins_lifted os started H enc)

/-- The card: the row's listed variables are tied to the program's text. -/
theorem joins_card : Rows.SlotJoinsCardSaid :=
  Claim7.holds_tied_plain_at .later [] [.data] true (true, "7370c7ef35dfd77f2708cd0bf30d598406eb0cdf23cc79e1c137fbfec0eccda5") false
    joins_said (fun _ h => by cases h) (by kernel_rfl) (fun _ h => by cases h) slotJoins_row_tie rfl ⟨rfl, rfl⟩ (by kernel_rfl) rfl
    (fun f fn hf hfn => by
      obtain rfl : f = 8 := Option.some.inj ((show Tryd.prog.funcNamed "slotcode/slotcodelaw05.SlotJoins" = some 8 by kernel_rfl).symm.trans hf) |>.symm
      obtain rfl : fn = Tryd.f8 := (Option.some.inj (Tryd.func8.symm.trans hfn)).symm
      exact ⟨by kernel_rfl, fun j t ht => by
        rw [Tryd.params8] at ht
        have hm : t ∈ [40] := by simpa using Array.mem_of_getElem? ht
        have hall : ([40].all fun u => !Tryd.prog.wantsStandIn u) = true := by kernel_rfl
        exact (show Tryd.prog.wantsStandIn t = false by simpa using List.all_eq_true.1 hall t hm)⟩)
    (by kernel_rfl)
#print axioms joins_card
end Go.Proofs.YthebdblncafijaaDoor
