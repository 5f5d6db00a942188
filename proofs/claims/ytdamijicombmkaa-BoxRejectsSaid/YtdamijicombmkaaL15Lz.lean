/- The walk of the law Rejects. Condition: memory holds the sections; there are no more than 2^63. -/
import Derived.Test.YtdamijicombmkaaL15Ly
namespace Go.Proofs.Ytdamijicombmkaa.L15
open Go.RowKit L14
attribute [local go_sem] Oper.semAt_some

/-- A byte written into a row of one's own. -/
theorem own_putb {W : World} {g cap S p : Nat} {b : List UInt8} {cur : Array Value} {t : TypeId} (X : UInt8) (hg : W.heap[g]? = some (.cells cur t (0, 0))) (hS : b.length = S) (hcap : S ≤ cap) (hcs : cur.size = cap * 1) (htk : cur.toList.take (S * 1) = b.map eB) (hp : p < S) :
    Rw eB (W.setCell ⟨g, p, none⟩ (eB X)) (.slice (some ⟨g, 0, none⟩) S cap) (b.set p X) := by
  subst hS
  have h2 := cells_set (k := p) (v := eB X) hg
  refine ⟨some ⟨g, 0, none⟩, cap, by rw [List.length_set], by rw [List.length_set]; exact hcap, fun e => (by cases e), fun _ => ⟨g, 0, rfl, lt_of_block h2, fun j hj => ?_⟩⟩
  rw [List.length_set] at hj
  rw [(cell_in (k := 0 + j) h2).1, Nat.zero_add, Array.getElem?_setIfInBounds]
  by_cases e : p = j
  · subst e
    rw [if_pos rfl, if_pos (by omega)]
    simp
  · rw [if_neg e]
    have h1 : (cur.toList.take (b.length * 1))[j]? = some (eB b[j]) := by
      rw [htk]; simp [hj]
    rw [List.getElem?_take, if_pos (by omega)] at h1
    rw [← Array.getElem?_toList, h1]
    simp [e]
theorem own_getb {W : World} {g S p : Nat} {b : List UInt8} {cur : Array Value} {t : TypeId} (hg : W.heap[g]? = some (.cells cur t (0, 0))) (hS : b.length = S) (htk : cur.toList.take (S * 1) = b.map eB) (hp : p < b.length) :
    W.cell? ⟨g, p, none⟩ = some (.int .u8 (b[p].toNat : Int)) ∧ W.frozen? ⟨g, p, none⟩ = false := by
  subst hS
  obtain ⟨h1, h2⟩ := cell_in (k := p) hg
  refine ⟨?_, h2⟩
  have h3 : (cur.toList.take (b.length * 1))[p]? = some (eB b[p]) := by
    rw [htk]; simp [hp]
  rw [List.getElem?_take, if_pos (by omega)] at h3
  rw [h1, ← Array.getElem?_toList, h3]
/-- A row of one's own that is not empty. -/
theorem own_ofb {W : World} {B S c : Nat} {a : Option Addr} {b : List UInt8} {e : TypeId} (h : W.ownsRow B e 1 (.slice a S c) S (b.map eB)) (hS : 0 < S) :
    ∃ g cur, a = some ⟨g, 0, none⟩ ∧ B ≤ g ∧ W.heap[g]? = some (.cells cur e (0, 0)) ∧ S ≤ c ∧ cur.size = c * 1 ∧ cur.toList.take (S * 1) = b.map eB := by
  rcases h.2 with ⟨-, rfl⟩ | ⟨g, cap, cur, hv, hb, hg, hn, -, hcs, htk⟩
  · omega
  · cases hv
    exact ⟨g, cur, rfl, hb, hg, hn, hcs, htk⟩
theorem put_below {B : Nat} {w w' : World} (h : Below B w w') {g o : Nat} {u : Value} (hg : B ≤ g) : Below B w (w'.setCell ⟨g, o, none⟩ u) := h.setCell (p := ⟨g, o, none⟩) hg u
theorem szL_pos (l : List Sc) : 0 < szL l := by
  have h := up_ge (16 + 12 * l.length)
  unfold szL L15.hd; omega
theorem set_neb {b : List UInt8} {p : Nat} {X : UInt8} (hp : p < b.length) (h : b[p] ≠ X) : b.set p X ≠ b := by
  intro e
  have h1 : (b.set p X)[p]? = some X := by simp [hp]
  rw [e, List.getElem?_eq_getElem hp] at h1
  exact h (Option.some.inj h1)

set_option maxHeartbeats 4000000 in
set_option maxRecDepth 100000 in
theorem rejects_skip (a : Option Addr) (n c : Nat) (l : List Sc) (A x : Int) (w : World) (h : Ss w (.slice a n c) l) (hl : l.length ≤ 9223372036854775807) (hf : ((∀ s ∈ l, s.2.length ≤ 500) ∧ l.length ≤ 30) → chkV l ≠ 0) :
    Calls Try.prog 8 #[.slice a n c, .int .u16 A, .int .u8 x] w fun e w' => e = .returned (.bool true) ∧ Below w.heap.size w w' := by
  by_cases hf2 : (∀ s ∈ l, s.2.length ≤ 500) ∧ l.length ≤ 30
  · obtain ⟨R, hR⟩ : ∃ R, chkV l = R := ⟨_, rfl⟩
    have HF := Lib.hid (few_at (.slice a n c) l true w h hl (by simpa using hf2))
    have HRc := Lib.hid (fun W (hb : Below w.heap.size w W) => rcheck_at (.slice a n c) l R W (h.below hb) (few_sml hf2) hR)
    have e2 : (R != 0) = true := by have := hf hf2; rw [hR] at this; simpa using this
    clear hf hl h hf2 hR
    go_enter Try.func8, Try.ntmps8
    go_wp2_with (first
      | (go_at_call 9; ((with_reducible refine (HF.out).mono ?_); rintro e w1 ⟨rfl, b1⟩))
      | (go_at_call 15; ((with_reducible refine (HRc.out _ b1).mono ?_); rintro e w2 ⟨rfl, q2, hw2⟩; have b2 : Below w1.heap.size w1 w2 := (by rw [hw2]; exact bdN (Below.refl _ _) q2); clear hw2; have B2 := bch b1 b2))
      | (go_at_call 10; ((with_reducible refine (alive15 _).mono ?_); rintro e w8 ⟨rfl, b8⟩)))
    go_ret
    exact ⟨rfl, bch B2 b8⟩
  · have HF := Lib.hid (few_at (.slice a n c) l false w h hl (by simpa using hf2))
    clear hf hl h hf2
    go_enter Try.func8, Try.ntmps8
    go_wp2_with (first
      | (go_at_call 9; ((with_reducible refine (HF.out).mono ?_); rintro e w1 ⟨rfl, b1⟩))
      | (go_at_call 10; ((with_reducible refine (alive15 _).mono ?_); rintro e w8 ⟨rfl, b8⟩)))
    go_ret
    exact ⟨rfl, bch b1 b8⟩

set_option maxHeartbeats 4000000 in
set_option maxRecDepth 100000 in
theorem rejects_go (a : Option Addr) (n c : Nat) (l : List Sc) (A : Nat) (hA : A < 65536) (X : UInt8) (w : World) (h : Ss w (.slice a n c) l) (hf : (∀ s ∈ l, s.2.length ≤ 500) ∧ l.length ≤ 30) (hR : chkV l = 0) :
    Calls Try.prog 8 #[.slice a n c, .int .u16 (A : Int), .int .u8 (X.toNat : Int)] w fun e w' => e = .returned (.bool true) ∧ Below w.heap.size w w' := by
  have HF := Lib.hid (few_at (.slice a n c) l true w h (by omega) (by simpa using hf))
  have hs := few_sml hf
  have HRc := Lib.hid (fun W (hb : Below w.heap.size w W) => rcheck_at (.slice a n c) l 0 W (h.below hb) hs hR)
  obtain ⟨S, hS⟩ : ∃ S, szL l = S := ⟨_, rfl⟩
  have hSb := few_sz hf
  have hSp := szL_pos l
  rw [hS] at hSb hSp
  have HRw := Lib.hid (fun W (hb : Below w.heap.size w W) => rwrite_at (.slice a n c) l W (h.below hb) (fw_of hs hR) (chk0.1 hR).2 S hS)
  have hWL : (wr l).length = S := by rw [wr_len, hS]
  have HWL := Lib.hid hWL
  have HV := Lib.hid h
  obtain ⟨p, hp⟩ : ∃ p, A % S = p := ⟨_, rfl⟩
  have hpS : p < S := by rw [← hp]; exact Nat.mod_lt _ hSp
  have hpl : p < (wr l).length := by omega
  obtain ⟨b', hb'⟩ : ∃ b', (wr l).set p X = b' := ⟨_, rfl⟩
  have hbl : b'.length = S := by rw [← hb', List.length_set, hWL]
  obtain ⟨Y, hY⟩ : ∃ Y, (wr l)[p] = Y := ⟨_, rfl⟩
  obtain ⟨yy, hyy⟩ : ∃ yy, Y.toNat = yy := ⟨_, rfl⟩
  obtain ⟨xx, hxx⟩ : ∃ xx, X.toNat = xx := ⟨_, rfl⟩
  have hx8 : xx < 256 := by rw [← hxx]; exact X.toNat_lt
  have k0 : 0 ≤ (A : Int) % (S : Int) := Int.emod_nonneg _ (by omega)
  have k1 : (A : Int) % (S : Int) < (S : Int) := Int.emod_lt_of_pos _ (by omega)
  have k3 : ¬ (S : Int) = 0 := by omega
  have HG := Lib.hid (fun (W : World) (g : Nat) (cur : Array Value) (t : TypeId) (hg : W.heap[g]? = some (.cells cur t (0, 0))) (htk : cur.toList.take (S * 1) = (wr l).map eB) => show W.cell? ⟨g, p, none⟩ = some (.int .u8 (yy : Int)) ∧ W.frozen? ⟨g, p, none⟩ = false from hyy ▸ hY ▸ own_getb hg hWL htk hpl)
  have HP := Lib.hid (fun (W : World) (g cap : Nat) (cur : Array Value) (t : TypeId) (hg : W.heap[g]? = some (.cells cur t (0, 0))) (hcap : S ≤ cap) (hcs : cur.size = cap * 1) (htk : cur.toList.take (S * 1) = (wr l).map eB) => show Rw eB (W.setCell ⟨g, p, none⟩ (.int .u8 (xx : Int))) (.slice (some ⟨g, 0, none⟩) S cap) b' from hb' ▸ hxx ▸ own_putb X hg hWL hcap hcs htk hpS)
  subst hp
  rw [hxx]
  by_cases hX : yy = xx
  · have heb : ((yy : Int) == (xx : Int)) = true := by rw [hX]; exact beq_self_eq_true _
    clear h hf hs hR hS hWL hb' hbl hY hpl hyy hxx hX
    go_enter Try.func8, Try.ntmps8
    go_wp2_with (first
      | (go_at_call 9; ((with_reducible refine (HF.out).mono ?_); rintro e w1 ⟨rfl, b1⟩))
      | (go_at_call 15; ((with_reducible refine (HRc.out _ b1).mono ?_); rintro e w2 ⟨rfl, q2, hw2⟩; have b2 : Below w1.heap.size w1 w2 := (by rw [hw2]; exact bdN (Below.refl _ _) q2); clear hw2; have B2 := bch b1 b2))
      | (go_at_call 17; ((with_reducible refine (HRw.out _ B2).mono ?_); rintro e w9 ⟨⟨a9, c9, rfl, o9⟩, b9, z9⟩; have B9 := bch B2 b9; obtain ⟨g, cur, rfl, hg0, hg, hcap, hcs, htk⟩ := own_ofb o9 hSp; obtain ⟨hc, hfz⟩ := HG.out _ _ _ _ hg htk))
      | (go_at_call 10; ((with_reducible refine (alive15 _).mono ?_); rintro e w8 ⟨rfl, b8⟩)))
    go_ret
    exact ⟨rfl, bch B9 b8⟩
  · have heb : ((yy : Int) == (xx : Int)) = false := beq_eq_false_iff_ne.2 (by omega)
    have hne : b' ≠ wr l := by
      rw [← hb']
      refine set_neb hpl fun e => hX ?_
      rw [← hyy, ← hxx, ← hY, e]
    have hkb : rdB b' → nS b' < 65536 ∧ Sml (rdT b' (nS b')) := fun h => (((rdT_sml b' (by omega)).resolve_right (fun x => x h)).symm)
    by_cases hr : rdOk b'
    · have HRd := Lib.hid (fun W a c (h : Rw eB W (.slice a S c) b') => (read_at a S c b' W h (by omega)).mono fun e w' hh => show (∃ a c, e = .returned (.tuple #[.slice a (nS b') c, .int .i64 0]) ∧ Ss w' (.slice a (nS b') c) (rdT b' (nS b'))) ∧ Below W.heap.size W w' from ⟨(hh.1.resolve_left (fun x => x.1 hr)).2, hh.2⟩)
      obtain ⟨hkb, hsm⟩ := hkb hr.1
      have hwr := hr.2.2
      have hkl := rdT_len b' (nS b')
      obtain ⟨m, hm⟩ : ∃ m, rdT b' (nS b') = m := ⟨_, rfl⟩
      obtain ⟨k, hk⟩ : ∃ k, nS b' = k := ⟨_, rfl⟩
      rw [hm] at HRd hsm hkl hwr
      rw [hk] at HRd hkl hkb
      have hml : m ≠ l := fun e => hne (by rw [← hwr, e])
      have HB := Lib.hid (fun W v (hs : Ss W v m) => back_at v m k W hs hkl (by omega))
      have HS5 := Lib.hid (fun W v v' (h1 : Ss W v m) (h2 : Ss W v' l) => rsame15_at v v' m l false W hsm hs h1 h2 (by simpa using hml))
      clear h hf hs hR hS hWL hb' hbl hY hpl hyy hxx hX hne hr hsm hwr hkl hm hk hml
      go_enter Try.func8, Try.ntmps8
      go_wp2_with (first
        | (go_at_call 9; ((with_reducible refine (HF.out).mono ?_); rintro e w1 ⟨rfl, b1⟩))
        | (go_at_call 15; ((with_reducible refine (HRc.out _ b1).mono ?_); rintro e w2 ⟨rfl, q2, hw2⟩; have b2 : Below w1.heap.size w1 w2 := (by rw [hw2]; exact bdN (Below.refl _ _) q2); clear hw2; have B2 := bch b1 b2))
        | (go_at_call 17; ((with_reducible refine (HRw.out _ B2).mono ?_); rintro e w9 ⟨⟨a9, c9, rfl, o9⟩, b9, z9⟩; have B9 := bch B2 b9; obtain ⟨g, cur, rfl, hg0, hg, hcap, hcs, htk⟩ := own_ofb o9 hSp; obtain ⟨hc, hfz⟩ := HG.out _ _ _ _ hg htk; have r3 := HP.out _ _ _ _ _ hg hcap hcs htk; have B3 := put_below B9 (o := A % S) (u := .int .u8 (xx : Int)) (Nat.le_trans B2.size hg0)))
        | (go_at_call 19; ((with_reducible refine (HRd.out _ _ _ r3).mono ?_); rintro e w4 ⟨⟨a4, c4, rfl, s4⟩, b4⟩; have B4 := bch B3 b4))
        | (go_at_call 10; ((with_reducible refine (alive15 _).mono ?_); rintro e w5 ⟨rfl, b5⟩; have B5 := bch B4 b5; have s5 := s4.below b5))
        | (go_at_call 22; ((with_reducible refine (HB.out _ _ s5).mono ?_); rintro e w6 ⟨⟨a6, c6, rfl, s6⟩, b6⟩; have B6 := bch B5 b6; have v6 := HV.out.below B6))
        | (go_at_call 21; ((with_reducible refine (HS5.out _ _ _ s6 v6).mono ?_); rintro e w7 ⟨rfl, q7, rfl⟩)))
      go_ret
      exact ⟨rfl, bdN B6 _⟩
    · have HRd := Lib.hid (fun W a c (h : Rw eB W (.slice a S c) b') => (read_at a S c b' W h (by omega)).mono fun e w' hh => show e = .returned (.tuple #[.slice none 0 0, .int .i64 19]) ∧ Below W.heap.size W w' from ⟨(hh.1.resolve_right (fun x => hr x.1)).2, hh.2⟩)
      clear h hf hs hR hS hWL hb' hbl hY hpl hyy hxx hX hne hr hkb
      go_enter Try.func8, Try.ntmps8
      go_wp2_with (first
        | (go_at_call 9; ((with_reducible refine (HF.out).mono ?_); rintro e w1 ⟨rfl, b1⟩))
        | (go_at_call 15; ((with_reducible refine (HRc.out _ b1).mono ?_); rintro e w2 ⟨rfl, q2, hw2⟩; have b2 : Below w1.heap.size w1 w2 := (by rw [hw2]; exact bdN (Below.refl _ _) q2); clear hw2; have B2 := bch b1 b2))
        | (go_at_call 17; ((with_reducible refine (HRw.out _ B2).mono ?_); rintro e w9 ⟨⟨a9, c9, rfl, o9⟩, b9, z9⟩; have B9 := bch B2 b9; obtain ⟨g, cur, rfl, hg0, hg, hcap, hcs, htk⟩ := own_ofb o9 hSp; obtain ⟨hc, hfz⟩ := HG.out _ _ _ _ hg htk; have r3 := HP.out _ _ _ _ _ hg hcap hcs htk; have B3 := put_below B9 (o := A % S) (u := .int .u8 (xx : Int)) (Nat.le_trans B2.size hg0)))
        | (go_at_call 19; ((with_reducible refine (HRd.out _ _ _ r3).mono ?_); rintro e w4 ⟨rfl, b4⟩; have B4 := bch B3 b4))
        | (go_at_call 10; ((with_reducible refine (alive15 _).mono ?_); rintro e w5 ⟨rfl, b5⟩)))
      go_ret
      exact ⟨rfl, bch B4 b5⟩
theorem rejects_walk (v : Value) (l : List Sc) (A x : Int) (w : World) (h : Ss w v l) (hl : l.length ≤ 9223372036854775807) (hA : 0 ≤ A ∧ A ≤ 65535) (hx : 0 ≤ x ∧ x ≤ 255) :
    Calls Try.prog 8 #[v, .int .u16 A, .int .u8 x] w fun e w' => e = .returned (.bool true) ∧ Below w.heap.size w w' := by
  obtain ⟨n, hn⟩ : ∃ n, l.length = n := ⟨_, rfl⟩
  obtain ⟨a, c, rfl, -⟩ := h.form hn
  by_cases hf : ((∀ s ∈ l, s.2.length ≤ 500) ∧ l.length ≤ 30) ∧ chkV l = 0
  · obtain ⟨A, rfl⟩ : ∃ k : Nat, A = (k : Int) := ⟨A.toNat, by omega⟩
    obtain ⟨X, rfl⟩ : ∃ X : UInt8, x = (X.toNat : Int) := ⟨UInt8.ofNat x.toNat, by rw [UInt8.toNat_ofNat']; omega⟩
    exact rejects_go a n c l A (by omega) X w h hf.1 hf.2
  · exact rejects_skip a n c l A x w h hl (fun h1 h2 => hf ⟨h1, h2⟩)
end Go.Proofs.Ytdamijicombmkaa.L15
