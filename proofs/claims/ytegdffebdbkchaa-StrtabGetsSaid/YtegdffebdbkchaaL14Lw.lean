/- The walks of the laws on bytes: Gets, Parses, IsCanonical. Condition: memory holds the bytes. -/
import Derived.Test.YtegdffebdbkchaaL14Al
namespace Go.Proofs.Ytegdffebdbkchaa.L14
open Go.RowKit
attribute [local go_sem] Oper.semAt_some

theorem parse_none (v : Value) (l : List UInt8) (w : World) (h : Rw eB w v l) (hl : l.length ≤ 100000) (hp : prV l = none) :
    Calls Try.prog 16 #[v] w fun e w' => e = .returned (.tuple #[.slice none 0 0, .slice none 0 0, .int .i64 19]) ∧ Below w.heap.size w w' := by
  refine (parse_at v l w h hl).mono fun e w' hP => ?_
  obtain ⟨⟨-, he⟩ | ⟨ts, _, _, _, _, hq, -⟩, hb⟩ := hP
  · exact ⟨he, hb⟩
  · rw [hp] at hq; cases hq
theorem parse_some (v : Value) (l : List UInt8) (ts : List (List UInt8)) (n : Nat) (w : World) (h : Rw eB w v l) (hl : l.length ≤ 100000) (hp : prV l = some ts) (hn : ts.length = n) :
    Calls Try.prog 16 #[v] w fun e w' => (∃ a c a2 c2, e = .returned (.tuple #[.slice a n c, .slice a2 n c2, .int .i64 0]) ∧ Rw eT w' (.slice a n c) ts ∧ Rw eN w' (.slice a2 n c2) (ofs 1 ts)) ∧ Below w.heap.size w w' := by
  subst hn
  refine (parse_at v l w h hl).mono fun e w' hP => ?_
  obtain ⟨⟨hq, -⟩ | ⟨us, a, c, a2, c2, hq, he, h1, h2⟩, hb⟩ := hP
  · rw [hp] at hq; cases hq
  · rw [hp] at hq; cases hq
    exact ⟨⟨a, c, a2, c2, he, h1, h2⟩, hb⟩
theorem rparse_none (v : Value) (l : List UInt8) (w : World) (h : Rw eB w v l) (hl : l.length ≤ 100000) (hp : prV l = none) :
    Calls Try.prog 17 #[v] w fun e w' => e = .returned (.tuple #[.slice none 0 0, .bool false]) ∧ Below w.heap.size w w' := by
  refine (rparse_at v l w h hl).mono fun e w' hP => ?_
  obtain ⟨⟨-, he⟩ | ⟨ts, _, _, hq, -⟩, hb⟩ := hP
  · exact ⟨he, hb⟩
  · rw [hp] at hq; cases hq
theorem rparse_some (v : Value) (l : List UInt8) (ts : List (List UInt8)) (n : Nat) (w : World) (h : Rw eB w v l) (hl : l.length ≤ 100000) (hp : prV l = some ts) (hn : ts.length = n) :
    Calls Try.prog 17 #[v] w fun e w' => (∃ a c, e = .returned (.tuple #[.slice a n c, .bool true]) ∧ Rw eT w' (.slice a n c) ts) ∧ Below w.heap.size w w' := by
  subst hn
  refine (rparse_at v l w h hl).mono fun e w' hP => ?_
  obtain ⟨⟨hq, -⟩ | ⟨us, a, c, hq, he, h1⟩, hb⟩ := hP
  · rw [hp] at hq; cases hq
  · rw [hp] at hq; cases hq
    exact ⟨⟨a, c, he, h1⟩, hb⟩
theorem build_no (v : Value) (l : List (List UInt8)) (w : World) (h : Rw eT w v l) (hl : l.length ≤ 10000) (ht : tot l ≤ 100000) (hb : ∃ t ∈ l, rt t = false) :
    Calls Try.prog 11 #[v] w fun e w' => e = .returned (.tuple #[.slice none 0 0, .slice none 0 0, .int .i64 7]) ∧ Below w.heap.size w w' := by
  refine (build_at v l w h hl ht).mono fun e w' hP => ?_
  obtain ⟨⟨-, he⟩ | ⟨hr, -⟩, hb'⟩ := hP
  · exact ⟨he, hb'⟩
  · obtain ⟨t, h1, h2⟩ := hb
    rw [hr t h1] at h2; cases h2
theorem build_yes (v : Value) (l : List (List UInt8)) (n N : Nat) (w : World) (h : Rw eT w v l) (hl : l.length ≤ 10000) (ht : tot l ≤ 100000) (hr : ∀ t ∈ l, rt t = true) (hn : l.length = n) (hN : (tb l).length = N) :
    Calls Try.prog 11 #[v] w fun e w' => (∃ a1 c1 a2 c2, e = .returned (.tuple #[.slice a1 N c1, .slice a2 n c2, .int .i64 0]) ∧ Rw eB w' (.slice a1 N c1) (tb l) ∧ Rw eN w' (.slice a2 n c2) (ofs 1 l)) ∧ Below w.heap.size w w' := by
  subst hn hN
  refine (build_at v l w h hl ht).mono fun e w' hP => ?_
  obtain ⟨⟨⟨t, h1, h2⟩, -⟩ | ⟨-, a1, c1, a2, c2, he, h1, h2⟩, hb'⟩ := hP
  · rw [hr t h1] at h2; cases h2
  · exact ⟨⟨a1, c1, a2, c2, he, h1, h2⟩, hb'⟩
theorem rbuild_n (v : Value) (l : List (List UInt8)) (n N : Nat) (w : World) (h : Rw eT w v l) (hl : l.length ≤ 100000) (ht : tot l ≤ 1000000) (hn : l.length = n) (hN : (tb l).length = N) :
    Calls Try.prog 13 #[v] w fun e w' => (∃ a1 c1 a2 c2, e = .returned (.tuple #[.slice a1 N c1, .slice a2 n c2]) ∧ Rw eB w' (.slice a1 N c1) (tb l) ∧ Rw eN w' (.slice a2 n c2) (ofs 1 l)) ∧ Below w.heap.size w w' := by
  subst hn hN
  exact rbuild_at v l w h hl ht
/-- Texts that were parsed are few and short. -/
theorem prV_few {l : List UInt8} {ts : List (List UInt8)} (h : prV l = some ts) : ts.length ≤ l.length ∧ tot ts ≤ l.length := by
  have := tb_len ts
  rw [(tb_prV h).2] at this
  omega
theorem len_gt {n : Nat} (h : 2000 < n) : (2000 : Int) < (n : Int) := by omega
theorem len_le {n : Nat} (h : ¬ 2000 < n) : ¬ (2000 : Int) < (n : Int) := by omega

set_option maxHeartbeats 4000000 in
theorem gets_walk (v : Value) (l : List UInt8) (off : Int) (w : World) (h : Rw eB w v l) :
    Calls Try.prog 5 #[v, .int .i64 off] w fun e w' => e = .returned (.bool true) ∧ Below w.heap.size w w' := by
  obtain ⟨n, hn⟩ : ∃ n, l.length = n := ⟨_, rfl⟩
  by_cases hgt : 2000 < n
  · obtain ⟨a, c, rfl, -⟩ := h.form hn
    have hlim := len_gt hgt
    clear h hn
    go_enter Try.func5, Try.ntmps5
    go_wp2_with (go_at_call 10; ((with_reducible refine (alive14 _).mono ?_); rintro e w1 ⟨rfl, b1⟩))
    go_ret
    exact ⟨rfl, b1⟩
  · have hlim := len_le hgt
    have hP := get_at v l off w (by omega) h
    have hR := fun (W : World) (hb : Below w.heap.size w W) => rget_at v l off W (by omega) (h.below hb)
    obtain ⟨a, c, rfl, -⟩ := h.form hn
    unfold gtE at hP
    unfold rgE at hR
    cases hg : gtI l off with
    | none =>
      rw [hg] at hP hR
      have HP := Lib.hid hP
      have HR := Lib.hid hR
      clear h hn hP hR hg
      go_enter Try.func5, Try.ntmps5
      go_wp2_with (first
        | (go_at_call 19; ((with_reducible refine (HP.out).mono ?_); rintro e w1 ⟨rfl, b1⟩))
        | (go_at_call 20; ((with_reducible refine (HR.out _ b1).mono ?_); rintro e w2 ⟨rfl, rfl⟩))
        | (go_at_call 10; ((with_reducible refine (alive14 _).mono ?_); rintro e w3 ⟨rfl, b3⟩)))
      go_ret
      exact ⟨rfl, bch b1 b3⟩
    | some t =>
      rw [hg] at hP hR
      dsimp only at hP hR
      obtain ⟨T, hT⟩ : ∃ T, mkB t = T := ⟨_, rfl⟩
      rw [hT] at hP hR
      have ht : (T.toList == T.toList) = true := txt_eq rfl
      have HP := Lib.hid hP
      have HR := Lib.hid hR
      clear h hn hP hR hg hT
      go_enter Try.func5, Try.ntmps5
      go_wp2_with (first
        | (go_at_call 19; ((with_reducible refine (HP.out).mono ?_); rintro e w1 ⟨rfl, b1⟩))
        | (go_at_call 20; ((with_reducible refine (HR.out _ b1).mono ?_); rintro e w2 ⟨rfl, rfl⟩))
        | (go_at_call 10; ((with_reducible refine (alive14 _).mono ?_); rintro e w3 ⟨rfl, b3⟩)))
      go_ret
      exact ⟨rfl, bch b1 b3⟩

set_option maxHeartbeats 4000000 in
theorem canon_walk (v : Value) (l : List UInt8) (w : World) (h : Rw eB w v l) :
    Calls Try.prog 8 #[v] w fun e w' => e = .returned (.bool true) ∧ Below w.heap.size w w' := by
  obtain ⟨n, hn⟩ : ∃ n, l.length = n := ⟨_, rfl⟩
  by_cases hgt : 2000 < n
  · obtain ⟨a, c, rfl, -⟩ := h.form hn
    have hlim := len_gt hgt
    clear h hn
    go_enter Try.func8, Try.ntmps8
    go_wp2_with (go_at_call 10; ((with_reducible refine (alive14 _).mono ?_); rintro e w1 ⟨rfl, b1⟩))
    go_ret
    exact ⟨rfl, b1⟩
  · have hlim := len_le hgt
    have HV := Lib.hid h
    cases hp : prV l with
    | none =>
      have HP := Lib.hid (parse_none v l w h (by omega) hp)
      obtain ⟨a, c, rfl, -⟩ := h.form hn
      clear h hn hp
      go_enter Try.func8, Try.ntmps8
      go_wp2_with (first
        | (go_at_call 16; ((with_reducible refine (HP.out).mono ?_); rintro e w1 ⟨rfl, b1⟩))
        | (go_at_call 10; ((with_reducible refine (alive14 _).mono ?_); rintro e w3 ⟨rfl, b3⟩)))
      go_ret
      exact ⟨rfl, bch b1 b3⟩
    | some ts =>
      obtain ⟨k, hk⟩ : ∃ k, ts.length = k := ⟨_, rfl⟩
      obtain ⟨f1, f2⟩ := prV_few hp
      obtain ⟨t1, t2⟩ := tb_prV hp
      have HP := Lib.hid (parse_some v l ts k w h (by omega) hp hk)
      have HB := Lib.hid (fun (v : Value) (W : World) (hv : Rw eT W v ts) => build_yes v ts k n W hv (by omega) (by omega) t1 hk (by rw [t2, hn]))
      rw [t2] at HB
      have HS := Lib.hid (fun (v v' : Value) (W : World) (h1 : Rw eB W v l) (h2 : Rw eB W v' l) => same_at v v' l W (by omega) h1 h2)
      obtain ⟨a, c, rfl, -⟩ := h.form hn
      clear h hn hp t1 t2 f1 f2
      go_enter Try.func8, Try.ntmps8
      go_wp2_with (first
        | (go_at_call 16; ((with_reducible refine (HP.out).mono ?_); rintro e w1 ⟨⟨a1, c1, a2, c2, rfl, h1, -⟩, b1⟩))
        | (go_at_call 11; ((with_reducible refine (HB.out _ _ h1).mono ?_); rintro e w2 ⟨⟨a3, c3, a4, c4, rfl, h3, -⟩, b2⟩; have B2 := bch b1 b2))
        | (go_at_call 10; ((with_reducible refine (alive14 _).mono ?_); rintro e w3 ⟨rfl, b3⟩; have B3 := bch B2 b3; have h4 := h3.below b3; have h5 := HV.out.below B3))
        | (go_at_call 14; ((with_reducible refine (HS.out _ _ _ h5 h4).mono ?_); rintro e w4 ⟨rfl, m, rfl⟩)))
      go_ret
      exact ⟨rfl, bdN B3 m⟩

set_option maxHeartbeats 4000000 in
theorem parses_walk (v : Value) (l : List UInt8) (w : World) (h : Rw eB w v l) :
    Calls Try.prog 4 #[v] w fun e w' => e = .returned (.bool true) ∧ Below w.heap.size w w' := by
  obtain ⟨n, hn⟩ : ∃ n, l.length = n := ⟨_, rfl⟩
  by_cases hgt : 2000 < n
  · obtain ⟨a, c, rfl, -⟩ := h.form hn
    have hlim := len_gt hgt
    clear h hn
    go_enter Try.func4, Try.ntmps4
    go_wp2_with (go_at_call 10; ((with_reducible refine (alive14 _).mono ?_); rintro e w1 ⟨rfl, b1⟩))
    go_ret
    exact ⟨rfl, b1⟩
  · have hlim := len_le hgt
    cases hp : prV l with
    | none =>
      have HP := Lib.hid (parse_none v l w h (by omega) hp)
      have HR := Lib.hid (fun (W : World) (hb : Below w.heap.size w W) => rparse_none v l W (h.below hb) (by omega) hp)
      obtain ⟨a, c, rfl, -⟩ := h.form hn
      clear h hn hp
      go_enter Try.func4, Try.ntmps4
      go_wp2_with (first
        | (go_at_call 16; ((with_reducible refine (HP.out).mono ?_); rintro e w1 ⟨rfl, b1⟩))
        | (go_at_call 17; ((with_reducible refine (HR.out _ b1).mono ?_); rintro e w2 ⟨rfl, b2⟩))
        | (go_at_call 10; ((with_reducible refine (alive14 _).mono ?_); rintro e w3 ⟨rfl, b3⟩)))
      go_ret
      exact ⟨rfl, bch (bch b1 b2) b3⟩
    | some ts =>
      obtain ⟨k, hk⟩ : ∃ k, ts.length = k := ⟨_, rfl⟩
      obtain ⟨f1, f2⟩ := prV_few hp
      have HP := Lib.hid (parse_some v l ts k w h (by omega) hp hk)
      have HR := Lib.hid (fun (W : World) (hb : Below w.heap.size w W) => rparse_some v l ts k W (h.below hb) (by omega) hp hk)
      have HB := Lib.hid (fun (v : Value) (W : World) (hv : Rw eT W v ts) => rbuild_n v ts k _ W hv (by omega) (by omega) hk rfl)
      have HE := Lib.hid (fun (v v' : Value) (W : World) (h1 : Rw eT W v ts) (h2 : Rw eT W v' ts) => eqT_at v v' ts W (by omega) h1 h2)
      have HI := Lib.hid (fun (v v' : Value) (W : World) (h1 : Rw eN W v (ofs 1 ts)) (h2 : Rw eN W v' (ofs 1 ts)) => eqN_at v v' (ofs 1 ts) W (by rw [ofs_len]; omega) h1 h2)
      obtain ⟨a, c, rfl, -⟩ := h.form hn
      clear h hn hp f1 f2
      go_enter Try.func4, Try.ntmps4
      go_wp2_with (first
        | (go_at_call 16; ((with_reducible refine (HP.out).mono ?_); rintro e w1 ⟨⟨a1, c1, a2, c2, rfl, h1, o1⟩, b1⟩))
        | (go_at_call 17; ((with_reducible refine (HR.out _ b1).mono ?_); rintro e w2 ⟨⟨a3, c3, rfl, r2⟩, b2⟩; have B2 := bch b1 b2; have h2 := h1.below b2; have o2 := o1.below b2))
        | (go_at_call 13; ((with_reducible refine (HB.out _ _ r2).mono ?_); rintro e w3 ⟨⟨a4, c4, a5, c5, rfl, -, p3⟩, b3⟩; have B3 := bch B2 b3; have h3 := h2.below b3; have o3 := o2.below b3; have r3 := r2.below b3))
        | (go_at_call 10; ((with_reducible refine (alive14 _).mono ?_); rintro e w4 ⟨rfl, b4⟩; have B4 := bch B3 b4; have h4 := h3.below b4; have o4 := o3.below b4; have r4 := r3.below b4; have p4 := p3.below b4))
        | (go_at_call 18; ((with_reducible refine (HE.out _ _ _ h4 r4).mono ?_); rintro e w5 ⟨rfl, m5, rfl⟩; have o5 := o4.below (bdN (Below.refl _ _) m5); have p5 := p4.below (bdN (Below.refl _ _) m5)))
        | (go_at_call 15; ((with_reducible refine (HI.out _ _ _ o5 p5).mono ?_); rintro e w6 ⟨rfl, m6, rfl⟩)))
      go_ret
      exact ⟨rfl, bdN B4 (m5 + m6)⟩
end Go.Proofs.Ytegdffebdbkchaa.L14
