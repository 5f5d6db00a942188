/- The walks of the laws Gets and Rejects. Condition: memory holds the sections; there are no more than 2^63. -/
import Derived.Test.YtdamijicombmkaaL15Lx
namespace Go.Proofs.Ytdamijicombmkaa.L15
open Go.RowKit L14
attribute [local go_sem] Oper.semAt_some

theorem getV_no : ∀ (l : List Sc) (k : Int), getV l k = none → ∀ s ∈ l, s.1 ≠ k
  | [], _, _, _, hs => by cases hs
  | s :: r, k, h, t, ht => by
    rw [getV] at h
    by_cases e : s.1 = k
    · rw [if_pos e] at h; cases h
    · rw [if_neg e] at h
      rcases List.mem_cons.1 ht with rfl | ht
      · exact e
      · exact getV_no r k h t ht
theorem sec_cell {W W' : World} {x y : Value} {t : TypeId} (hb : Below (W.alloc (.cells #[x, y] t)).heap.size (W.alloc (.cells #[x, y] t)) W') : W'.cell? ⟨W.heap.size, 1, none⟩ = some y := by
  have h := heap_alloc_new W (.cells #[x, y] t)
  refine (hb.cell (by simp [World.size_alloc])).trans ?_
  unfold World.cell?
  simp only [h]
  rfl

set_option maxHeartbeats 4000000 in
set_option maxRecDepth 100000 in
theorem gets_no (a : Option Addr) (n c : Nat) (l : List Sc) (k : Int) (w : World) (h : Ss w (.slice a n c) l) (hf : (∀ s ∈ l, s.2.length ≤ 500) ∧ l.length ≤ 30) (hk : getV l k = none) :
    Calls Try.prog 7 #[.slice a n c, .int .i64 k] w fun e w' => e = .returned (.bool true) ∧ Below w.heap.size w w' := by
  have HF := Lib.hid (few_at (.slice a n c) l true w h (by omega) (by simpa using hf))
  have hn := h.at
  have hn30 : n ≤ 30 := by rw [← hn]; exact hf.2
  have HFw := Lib.hid (fun W (hb : Below w.heap.size w W) => forward_at (.slice a n c) l n W (h.below hb) hn (by omega))
  have HG := Lib.hid (fun W a c (hx : Ss W (.slice a n c) l) => (get_at (.slice a n c) l k W hx (by omega)).mono fun e w' hh => show e = .returned (.tuple #[.slice none 0 0, .bool false]) ∧ Below W.heap.size W w' from ⟨by
    rcases hh.1 with hx | ⟨d, _, _, hd, _⟩
    · exact hx.2
    · rw [hk] at hd; exact absurd hd (by simp), hh.2⟩)
  obtain ⟨a', c', hv', -, -, hc⟩ := h.form hn
  cases hv'
  have HC := Lib.hid hc
  have HN := Lib.hid hn
  have HK := Lib.hid (getV_no l k hk)
  clear h hf hn hc hk
  go_enter Try.func7, Try.ntmps7
  go_wp2_with (first
    | (go_at_call 9; ((with_reducible refine (HF.out).mono ?_); rintro e w1 ⟨rfl, b1⟩))
    | (go_at_call 12; ((with_reducible refine (HFw.out _ b1).mono ?_); rintro e w2 ⟨⟨a2, c2, rfl, s2⟩, b2⟩; have B2 := bch b1 b2))
    | (go_at_call 23; ((with_reducible refine (HG.out _ _ _ s2).mono ?_); rintro e w3 ⟨rfl, b3⟩; have B3 := bch B2 b3)))
  go_loopw [8, 22] (fun _ q wr => ∃ j : Nat, j ≤ n ∧ q = .int .i64 (j : Int) ∧ Below w.heap.size w wr) (fun _ q _ => n - (intOf q).toNat)
  case atStart => exact ⟨0, Nat.zero_le _, rfl, B3⟩
  case round =>
    clear b1 b2 b3 B2 B3 s2
    obtain ⟨j, hj, rfl, hB⟩ := hrel
    by_cases hlt : j < n
    · have hjl : j < l.length := by rw [HN.out]; exact hlt
      obtain ⟨bb, o, rfl, hbl, hcc⟩ := HC.out (by omega)
      obtain ⟨x0, dv, x1, hr⟩ := hcc j hjl
      have y0 := (hB.cell (p := ⟨bb, o + j * 2, none⟩) (by exact hbl)).trans x0
      have y1 := (hB.cell (p := ⟨bb, o + j * 2 + 1, none⟩) (by exact hbl)).trans x1
      have hsz := hB.size
      have hkk := HK.out _ (List.getElem_mem hjl)
      obtain ⟨m, hm⟩ : ∃ m, l[j].2.length = m := ⟨_, rfl⟩
      obtain ⟨da, dc, rfl, -⟩ := hr.form hm
      obtain ⟨kk, hke⟩ : ∃ kk, l[j].1 = kk := ⟨_, rfl⟩
      rw [hke] at y0 hkk
      have heb : (kk == k) = false := by simpa using hkk
      clear hcc x0 x1 hr hm hke hkk
      go_wp2
      go_roundw
      case rel => exact ⟨j + 1, hlt, by go_num, bch hB (bnew _ _)⟩
      case measure => simp [intOf]; omega
    · obtain rfl : j = n := by omega
      go_wp2_with (go_at_call 10; ((with_reducible refine (alive15 _).mono ?_); rintro e w8 ⟨rfl, b8⟩))
      go_ret
      exact ⟨rfl, bch hB b8⟩

set_option maxHeartbeats 4000000 in
set_option maxRecDepth 100000 in
theorem gets_yes (a : Option Addr) (n c : Nat) (l : List Sc) (k : Int) (d : List UInt8) (w : World) (h : Ss w (.slice a n c) l) (hf : (∀ s ∈ l, s.2.length ≤ 500) ∧ l.length ≤ 30) (hk : getV l k = some d) :
    Calls Try.prog 7 #[.slice a n c, .int .i64 k] w fun e w' => e = .returned (.bool true) ∧ Below w.heap.size w w' := by
  have HF := Lib.hid (few_at (.slice a n c) l true w h (by omega) (by simpa using hf))
  have hn := h.at
  have hn30 : n ≤ 30 := by rw [← hn]; exact hf.2
  obtain ⟨D, hD⟩ : ∃ D, d.length = D := ⟨_, rfl⟩
  have HFw := Lib.hid (fun W (hb : Below w.heap.size w W) => forward_at (.slice a n c) l n W (h.below hb) hn (by omega))
  have HG := Lib.hid (fun W a c (hx : Ss W (.slice a n c) l) => (get_at (.slice a n c) l k W hx (by omega)).mono fun e w' hh => show (∃ a c, e = .returned (.tuple #[.slice a D c, .bool true]) ∧ Rw eB w' (.slice a D c) d) ∧ Below W.heap.size W w' from ⟨by
    rcases hh.1 with hx | ⟨d', a', c', hd, he, hr⟩
    · rw [hk] at hx; exact absurd hx.1 (by simp)
    · rw [hk] at hd
      obtain rfl := Option.some.inj hd
      rw [hD] at he hr
      exact ⟨a', c', he, hr⟩, hh.2⟩)
  have HSm := Lib.hid (fun W v v' (hl : d.length ≤ 500) (h1 : Rw eB W v d) (h2 : Rw eB W v' d) => rsameB_at v v' d d true W (by omega) (by omega) h1 h2 (by simp))
  have H5 := Lib.hid hf.1
  obtain ⟨a', c', hv', -, -, hc⟩ := h.form hn
  cases hv'
  have HC := Lib.hid hc
  have HN := Lib.hid hn
  have HK := Lib.hid hk
  clear h hf hn hc hk hD
  go_enter Try.func7, Try.ntmps7
  go_wp2_with (first
    | (go_at_call 9; ((with_reducible refine (HF.out).mono ?_); rintro e w1 ⟨rfl, b1⟩))
    | (go_at_call 12; ((with_reducible refine (HFw.out _ b1).mono ?_); rintro e w2 ⟨⟨a2, c2, rfl, s2⟩, b2⟩; have B2 := bch b1 b2))
    | (go_at_call 23; ((with_reducible refine (HG.out _ _ _ s2).mono ?_); rintro e w3 ⟨⟨a3, c3, rfl, r3⟩, b3⟩; have B3 := bch B2 b3)))
  go_loopw [8, 22] (fun _ q wr => ∃ j : Nat, j ≤ n ∧ q = .int .i64 (j : Int) ∧ Below w.heap.size w wr ∧ Rw eB wr (.slice a3 D c3) d ∧ Hid (getV l k = getV (l.drop j) k)) (fun _ q _ => n - (intOf q).toNat)
  case atStart => exact ⟨0, Nat.zero_le _, rfl, B3, r3, Lib.hid rfl⟩
  case round =>
    clear b1 b2 b3 B2 B3 s2 r3
    obtain ⟨j, hj, rfl, hB, r3, hA⟩ := hrel
    by_cases hlt : j < n
    · have hjl : j < l.length := by rw [HN.out]; exact hlt
      obtain ⟨bb, o, rfl, hbl, hcc⟩ := HC.out (by omega)
      obtain ⟨x0, dv, x1, hr⟩ := hcc j hjl
      have y0 := (hB.cell (p := ⟨bb, o + j * 2, none⟩) (by exact hbl)).trans x0
      have y1 := (hB.cell (p := ⟨bb, o + j * 2 + 1, none⟩) (by exact hbl)).trans x1
      have hsz := hB.size
      obtain ⟨m, hm⟩ : ∃ m, l[j].2.length = m := ⟨_, rfl⟩
      have hrw := hr.below hB
      obtain ⟨da, dc, rfl, -⟩ := hr.form hm
      have hg := hA.out
      rw [List.drop_eq_getElem_cons hjl, getV, HK.out] at hg
      obtain ⟨kk, hke⟩ : ∃ kk, l[j].1 = kk := ⟨_, rfl⟩
      rw [hke] at y0 hg
      by_cases he : kk = k
      · rw [if_pos he] at hg
        have hdd := Option.some.inj hg
        have h5 := H5.out _ (List.getElem_mem hjl)
        rw [← hdd] at hrw h5
        have heb : (kk == k) = true := by simpa using he
        clear hcc x0 x1 hr hm hA hke hg he hdd
        go_wp2_with (first
          | (go_at_call 10; ((with_reducible refine (alive15 _).mono ?_); rintro e w8 ⟨rfl, b8⟩; have B8 := bch (bch hB (bnew _ _)) b8; have z8 := sec_cell b8; have r8 := (r3.below (bnew _ _)).below b8; have q8 := (hrw.below (bnew _ _)).below b8))
          | (go_at_call 16; ((with_reducible refine (HSm.out _ _ _ h5 r8 q8).mono ?_); rintro e w9 ⟨rfl, q9, rfl⟩)))
        go_ret
        exact ⟨rfl, bdN B8 _⟩
      · rw [if_neg he] at hg
        have heb : (kk == k) = false := by simpa using he
        have HA : Hid (getV l k = getV (l.drop (j + 1)) k) := Lib.hid (by rw [HK.out]; exact hg)
        clear hcc x0 x1 hr hm hA hke hg he hrw
        go_wp2
        go_roundw
        case rel => exact ⟨j + 1, hlt, by go_num, bch hB (bnew _ _), r3.below (bnew _ _), HA⟩
        case measure => simp [intOf]; omega
    · exfalso
      have hg := hA.out
      rw [HK.out, List.drop_eq_nil_of_le (by rw [HN.out]; omega)] at hg
      cases hg

set_option maxHeartbeats 4000000 in
set_option maxRecDepth 100000 in
theorem gets_few (a : Option Addr) (n c : Nat) (l : List Sc) (k : Int) (w : World) (h : Ss w (.slice a n c) l) (hl : l.length ≤ 9223372036854775807) (hf : ¬ ((∀ s ∈ l, s.2.length ≤ 500) ∧ l.length ≤ 30)) :
    Calls Try.prog 7 #[.slice a n c, .int .i64 k] w fun e w' => e = .returned (.bool true) ∧ Below w.heap.size w w' := by
  have HF := Lib.hid (few_at (.slice a n c) l false w h hl (by simpa using hf))
  clear hf hl h
  go_enter Try.func7, Try.ntmps7
  go_wp2_with (first
    | (go_at_call 9; ((with_reducible refine (HF.out).mono ?_); rintro e w1 ⟨rfl, b1⟩))
    | (go_at_call 10; ((with_reducible refine (alive15 _).mono ?_); rintro e w8 ⟨rfl, b8⟩)))
  go_ret
  exact ⟨rfl, bch b1 b8⟩
theorem gets_walk (v : Value) (l : List Sc) (k : Int) (w : World) (h : Ss w v l) (hl : l.length ≤ 9223372036854775807) :
    Calls Try.prog 7 #[v, .int .i64 k] w fun e w' => e = .returned (.bool true) ∧ Below w.heap.size w w' := by
  obtain ⟨n, hn⟩ : ∃ n, l.length = n := ⟨_, rfl⟩
  obtain ⟨a, c, rfl, -⟩ := h.form hn
  by_cases hf : (∀ s ∈ l, s.2.length ≤ 500) ∧ l.length ≤ 30
  · cases hk : getV l k with
    | none => exact gets_no a n c l k w h hf hk
    | some d => exact gets_yes a n c l k d w h hf hk
  · exact gets_few a n c l k w h hl hf
end Go.Proofs.Ytdamijicombmkaa.L15
