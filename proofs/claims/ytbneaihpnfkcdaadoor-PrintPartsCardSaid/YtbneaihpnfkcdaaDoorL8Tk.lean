/- What a line's tokens are, byte by byte: where they stand, their texts, their shape, their words; that texts joined by spaces have the same tokens; the lines of a text. It speaks of no program and has no condition. -/
import Derived.Test.YtbneaihpnfkcdaaDoorL2Base
namespace Go.Proofs.YtbneaihpnfkcdaaDoor.L8
open L2

def cmt (c : UInt8) : Bool := c == 59 || c == 35
def spc (c : UInt8) : Bool := c == 32 || c == 9 || c == 13
def pun (c : UInt8) : Bool := c == 44 || c == 91 || c == 93 || c == 43 || c == 45 || c == 58
def wb (c : UInt8) : Bool := wch (c.toNat : Int)
theorem byte_cases : ∀ c : UInt8, (cmt c = true → spc c = false ∧ wb c = false ∧ pun c = false) ∧ (spc c = true → wb c = false ∧ pun c = false) ∧ (wb c = true → pun c = false ∧ spc c = false ∧ cmt c = false) := by
  intro c
  have h : ∀ n, n < 256 → (fun c : UInt8 => (cmt c = true → spc c = false ∧ wb c = false ∧ pun c = false) ∧ (spc c = true → wb c = false ∧ pun c = false) ∧ (wb c = true → pun c = false ∧ spc c = false ∧ cmt c = false)) (UInt8.ofNat n) := by decide +kernel
  have := h c.toNat c.toNat_lt
  simpa using this

/-- Where the tokens stand (first byte, byte behind the last), and the place of the first wrong byte or -1. -/
def tk : Nat → Nat → List UInt8 → List (Nat × Nat) × Int
  | 0, _, _ => ([], -1)
  | _ + 1, _, [] => ([], -1)
  | f + 1, i, c :: r =>
    if cmt c then ([], -1)
    else if spc c then tk f (i + 1) r
    else if wb c then ((i, i + wn (c :: r)) :: (tk f (i + wn (c :: r)) ((c :: r).drop (wn (c :: r)))).1, (tk f (i + wn (c :: r)) ((c :: r).drop (wn (c :: r)))).2)
    else if pun c then ((i, i + 1) :: (tk f (i + 1) r).1, (tk f (i + 1) r).2)
    else ([], (i : Int))
theorem wn_pos {c : UInt8} {r : List UInt8} (h : wb c = true) : wn (c :: r) = wn r + 1 := if_pos h
theorem wn_neg {c : UInt8} {r : List UInt8} (h : ¬ wb c = true) : wn (c :: r) = 0 := if_neg h
/-- More rounds than bytes change nothing. -/
theorem tk_fuel : ∀ (n f g i : Nat) (l : List UInt8), l.length ≤ n → l.length ≤ f → l.length ≤ g → tk f i l = tk g i l
  | _, 0, 0, _, _, _, _, _ => rfl
  | _, 0, g + 1, _, [], _, _, _ => rfl
  | _, f + 1, 0, _, [], _, _, _ => rfl
  | _, f + 1, g + 1, _, [], _, _, _ => rfl
  | _, 0, _, _, c :: r, _, h, _ => absurd h (by simp)
  | _, _, 0, _, c :: r, _, _, h => absurd h (by simp)
  | 0, _, _, _, c :: r, h, _, _ => absurd h (by simp)
  | n + 1, f + 1, g + 1, i, c :: r, h0, h1, h2 => by
    simp only [List.length_cons] at h0 h1 h2
    have e1 := tk_fuel n f g (i + 1) r (by omega) (by omega) (by omega)
    unfold tk
    rw [e1]
    by_cases hw : wb c = true
    · have hn := wn_pos (r := r) hw
      have hl : ((c :: r).drop (wn (c :: r))).length = r.length - wn r := by rw [hn, List.length_drop, List.length_cons]; omega
      rw [tk_fuel n f g (i + wn (c :: r)) ((c :: r).drop (wn (c :: r))) (by omega) (by omega) (by omega)]
    · have hw' : wb c = false := by simpa using hw
      simp [hw']
/-- The tokens of a text. -/
def tks (s : ByteArray) : List (Nat × Nat) := (tk s.size 0 s.data.toList).1
def bad (s : ByteArray) : Int := (tk s.size 0 s.data.toList).2

theorem tk_nil (f i : Nat) : tk f i [] = ([], -1) := by cases f <;> rfl
theorem tk_cmt {f i : Nat} {c : UInt8} {r : List UInt8} (h : cmt c = true) : tk (f + 1) i (c :: r) = ([], -1) := by
  unfold tk; rw [if_pos h]
theorem tk_spc {f i : Nat} {c : UInt8} {r : List UInt8} (h : spc c = true) : tk (f + 1) i (c :: r) = tk f (i + 1) r := by
  have hc : cmt c = false := by
    cases h1 : cmt c
    · rfl
    · rw [((byte_cases c).1 h1).1] at h; cases h
  rw [tk, hc, if_neg Bool.false_ne_true, if_pos h]
theorem tk_word {f i : Nat} {c : UInt8} {r : List UInt8} (h : wb c = true) : tk (f + 1) i (c :: r) = ((i, i + wn (c :: r)) :: (tk f (i + wn (c :: r)) ((c :: r).drop (wn (c :: r)))).1, (tk f (i + wn (c :: r)) ((c :: r).drop (wn (c :: r)))).2) := by
  obtain ⟨_, h2, h3⟩ := (byte_cases c).2.2 h
  rw [tk, h3, if_neg Bool.false_ne_true, h2, if_neg Bool.false_ne_true, if_pos h]
theorem pun_not {c : UInt8} (h : pun c = true) : cmt c = false ∧ spc c = false ∧ wb c = false := by
  refine ⟨?_, ?_, ?_⟩
  · cases h1 : cmt c
    · rfl
    · rw [((byte_cases c).1 h1).2.2] at h; cases h
  · cases h1 : spc c
    · rfl
    · rw [((byte_cases c).2.1 h1).2] at h; cases h
  · cases h1 : wb c
    · rfl
    · rw [((byte_cases c).2.2 h1).1] at h; cases h
theorem tk_pun {f i : Nat} {c : UInt8} {r : List UInt8} (h : pun c = true) : tk (f + 1) i (c :: r) = ((i, i + 1) :: (tk f (i + 1) r).1, (tk f (i + 1) r).2) := by
  obtain ⟨h1, h2, h3⟩ := pun_not h
  rw [tk, h1, if_neg Bool.false_ne_true, h2, if_neg Bool.false_ne_true, h3, if_neg Bool.false_ne_true, if_pos h]
theorem tk_bad {f i : Nat} {c : UInt8} {r : List UInt8} (h1 : cmt c = false) (h2 : spc c = false) (h3 : wb c = false) (h4 : pun c = false) : tk (f + 1) i (c :: r) = ([], (i : Int)) := by
  rw [tk, h1, if_neg Bool.false_ne_true, h2, if_neg Bool.false_ne_true, h3, if_neg Bool.false_ne_true, h4, if_neg Bool.false_ne_true]

/-! ### places -/
/-- A token of the bytes l, which begin at place i: a word, or a character of its own. -/
def IsTok (l : List UInt8) (i : Nat) (p : Nat × Nat) : Prop :=
  i ≤ p.1 ∧ p.1 < p.2 ∧ p.2 ≤ i + l.length ∧ ((wn (l.drop (p.1 - i)) = p.2 - p.1) ∨ (p.2 = p.1 + 1 ∧ ∃ c, l[p.1 - i]? = some c ∧ pun c = true))
theorem isTok_skip {l : List UInt8} {i n : Nat} {p : Nat × Nat} (hn : n ≤ l.length) (h : IsTok (l.drop n) (i + n) p) : IsTok l i p := by
  obtain ⟨h1, h2, h3, h4⟩ := h
  rw [List.length_drop] at h3
  refine ⟨by omega, h2, by omega, ?_⟩
  rcases h4 with h4 | ⟨h4, c, h5, h6⟩
  · left
    rw [List.drop_drop] at h4
    have e : n + (p.1 - (i + n)) = p.1 - i := by omega
    rw [e] at h4; exact h4
  · right
    refine ⟨h4, c, ?_, h6⟩
    rw [List.getElem?_drop] at h5
    have e : n + (p.1 - (i + n)) = p.1 - i := by omega
    rw [e] at h5; exact h5
theorem tk_places : ∀ (f i : Nat) (l : List UInt8), l.length ≤ f → ∀ p ∈ (tk f i l).1, IsTok l i p
  | 0, _, [], _, p, h => by rw [tk_nil] at h; cases h
  | 0, _, c :: r, hf, _, _ => absurd hf (by simp)
  | f + 1, _, [], _, p, h => by rw [tk_nil] at h; cases h
  | f + 1, i, c :: r, hf, p, h => by
    simp only [List.length_cons] at hf
    by_cases h1 : cmt c = true
    · rw [tk_cmt h1] at h; cases h
    by_cases h2 : spc c = true
    · rw [tk_spc h2] at h
      exact isTok_skip (n := 1) (by simp) (tk_places f (i + 1) r (by omega) p h)
    by_cases h3 : wb c = true
    · rw [tk_word h3] at h
      have hn := wn_pos (r := r) h3
      have hle := wn_le (c :: r)
      rcases List.mem_cons.1 h with rfl | h
      · refine ⟨Nat.le_refl _, by omega, by omega, .inl ?_⟩
        simp
      · refine isTok_skip hle (tk_places f _ _ ?_ p h)
        rw [List.length_drop, List.length_cons]; omega
    by_cases h4 : pun c = true
    · rw [tk_pun h4] at h
      rcases List.mem_cons.1 h with rfl | h
      · exact ⟨Nat.le_refl _, by simp, by simp, .inr ⟨rfl, c, by simp, h4⟩⟩
      · exact isTok_skip (n := 1) (by simp) (tk_places f (i + 1) r (by omega) p h)
    · rw [tk_bad (by simpa using h1) (by simpa using h2) (by simpa using h3) (by simpa using h4)] at h; cases h
/-- Tokens stand one behind the other. -/
def Chain : Nat → List (Nat × Nat) → Prop
  | _, [] => True
  | e, p :: r => e ≤ p.1 ∧ p.1 < p.2 ∧ Chain p.2 r
theorem chain_mono {e e' : Nat} (h : e' ≤ e) : ∀ {l : List (Nat × Nat)}, Chain e l → Chain e' l
  | [], _ => trivial
  | _ :: _, hc => ⟨Nat.le_trans h hc.1, hc.2⟩
theorem tk_chain : ∀ (f i : Nat) (l : List UInt8), Chain i (tk f i l).1
  | 0, _, _ => trivial
  | f + 1, _, [] => trivial
  | f + 1, i, c :: r => by
    by_cases h1 : cmt c = true
    · rw [tk_cmt h1]; trivial
    by_cases h2 : spc c = true
    · rw [tk_spc h2]; exact chain_mono (by omega) (tk_chain f (i + 1) r)
    by_cases h3 : wb c = true
    · rw [tk_word h3]
      have hn := wn_pos (r := r) h3
      exact ⟨Nat.le_refl _, by simp only; omega, tk_chain f _ _⟩
    by_cases h4 : pun c = true
    · rw [tk_pun h4]; exact ⟨Nat.le_refl _, by simp, tk_chain f _ _⟩
    · rw [tk_bad (by simpa using h1) (by simpa using h2) (by simpa using h3) (by simpa using h4)]; trivial

/-! ### texts -/
/-- The tokens' texts, and whether no byte is wrong. -/
def tx : Nat → List UInt8 → List (List UInt8) × Bool
  | 0, _ => ([], true)
  | _ + 1, [] => ([], true)
  | f + 1, c :: r =>
    if cmt c then ([], true)
    else if spc c then tx f r
    else if wb c then ((c :: r).take (wn (c :: r)) :: (tx f ((c :: r).drop (wn (c :: r)))).1, (tx f ((c :: r).drop (wn (c :: r)))).2)
    else if pun c then ([c] :: (tx f r).1, (tx f r).2)
    else ([], false)
/-- The bytes from one place up to another. -/
def cut (l : List UInt8) (p : Nat × Nat) : List UInt8 := (l.drop p.1).take (p.2 - p.1)
theorem cut_word {L : List UInt8} {i : Nat} {c : UInt8} {r : List UInt8} (h : L.drop i = c :: r) : cut L (i, i + wn (c :: r)) = (c :: r).take (wn (c :: r)) := by
  show (L.drop i).take (i + wn (c :: r) - i) = _
  rw [h, Nat.add_sub_cancel_left]
theorem cut_one {L : List UInt8} {i : Nat} {c : UInt8} {r : List UInt8} (h : L.drop i = c :: r) : cut L (i, i + 1) = [c] := by
  show (L.drop i).take (i + 1 - i) = _
  rw [h, Nat.add_sub_cancel_left]; rfl
theorem drop_more {L : List UInt8} {i n : Nat} {l : List UInt8} (h : L.drop i = l) : L.drop (i + n) = l.drop n := by
  rw [← h, List.drop_drop]
/-- The texts are what stands at the places. -/
theorem tk_tx (L : List UInt8) : ∀ (f i : Nat) (l : List UInt8), L.drop i = l → (tk f i l).1.map (cut L) = (tx f l).1 ∧ ((tk f i l).2 < 0 ↔ (tx f l).2 = true)
  | 0, i, l, _ => ⟨rfl, by simp [tk, tx]⟩
  | f + 1, i, [], _ => ⟨rfl, by simp [tk, tx]⟩
  | f + 1, i, c :: r, h => by
    by_cases h1 : cmt c = true
    · rw [tk_cmt h1, tx, if_pos h1]; exact ⟨rfl, by simp⟩
    have h1' : cmt c = false := by simpa using h1
    by_cases h2 : spc c = true
    · rw [tk_spc h2, tx, if_neg h1, if_pos h2]
      exact tk_tx L f (i + 1) r (drop_more (n := 1) h)
    by_cases h3 : wb c = true
    · rw [tk_word h3, tx, if_neg h1, if_neg h2, if_pos h3]
      have ih := tk_tx L f (i + wn (c :: r)) _ (drop_more h)
      exact ⟨by simp only [List.map_cons]; rw [cut_word h, ih.1], ih.2⟩
    by_cases h4 : pun c = true
    · rw [tk_pun h4, tx, if_neg h1, if_neg h2, if_neg h3, if_pos h4]
      have ih := tk_tx L f (i + 1) r (drop_more (n := 1) h)
      exact ⟨by simp only [List.map_cons]; rw [cut_one h, ih.1], ih.2⟩
    · rw [tk_bad h1' (by simpa using h2) (by simpa using h3) (by simpa using h4), tx, if_neg h1, if_neg h2, if_neg h3, if_neg h4]
      exact ⟨rfl, by simp⟩

/-- A token's text. -/
def TokT (t : List UInt8) : Prop := (t ≠ [] ∧ ∀ c ∈ t, wb c = true) ∨ ∃ c, t = [c] ∧ pun c = true
theorem wn_take : ∀ l : List UInt8, ∀ c ∈ l.take (wn l), wb c = true
  | [], c, h => by cases h
  | a :: r, c, h => by
    by_cases ha : wb a = true
    · rw [wn_pos ha, List.take_succ_cons] at h
      rcases List.mem_cons.1 h with rfl | h
      · exact ha
      · exact wn_take r c h
    · have : wn (a :: r) = 0 := wn_neg ha
      rw [this] at h; cases h
theorem tx_tokT : ∀ (f : Nat) (l : List UInt8), ∀ t ∈ (tx f l).1, TokT t
  | 0, _, t, h => by cases h
  | _ + 1, [], t, h => by cases h
  | f + 1, c :: r, t, h => by
    unfold tx at h
    split at h
    · cases h
    split at h
    · exact tx_tokT f r t h
    split at h
    · rename_i h3
      rcases List.mem_cons.1 h with rfl | h
      · refine .inl ⟨?_, wn_take _⟩
        rw [wn_pos h3, List.take_succ_cons]; simp
      · exact tx_tokT f _ t h
    split at h
    · rename_i h4
      rcases List.mem_cons.1 h with rfl | h
      · exact .inr ⟨c, rfl, h4⟩
      · exact tx_tokT f r t h
    · cases h
theorem wn_all : ∀ (t : List UInt8) (x : UInt8) (rest : List UInt8), (∀ c ∈ t, wb c = true) → wb x = false → wn (t ++ x :: rest) = t.length
  | [], x, rest, _, hx => by
    exact wn_neg (by rw [hx]; exact Bool.false_ne_true)
  | a :: t, x, rest, h, hx => by
    rw [List.cons_append, wn_pos (h a (by simp)), wn_all t x rest (fun c hc => h c (by simp [hc])) hx]; rfl
/-- A token's text ahead of what is no word character is the first token. -/
theorem tx_tok {t : List UInt8} (ht : TokT t) (f : Nat) (x : UInt8) (rest : List UInt8) (hx : wb x = false) : tx (f + 1) (t ++ x :: rest) = (t :: (tx f (x :: rest)).1, (tx f (x :: rest)).2) := by
  rcases ht with ⟨hne, hall⟩ | ⟨c, rfl, hp⟩
  · match t, hne with
    | a :: t, _ =>
      have ha := hall a (by simp)
      obtain ⟨_, h2, h3⟩ := (byte_cases a).2.2 ha
      have hw := wn_all (a :: t) x rest hall hx
      rw [List.cons_append] at hw ⊢
      rw [tx, h3, if_neg Bool.false_ne_true, h2, if_neg Bool.false_ne_true, if_pos ha, hw]
      have e1 : (a :: (t ++ x :: rest)).take (a :: t).length = a :: t := by rw [← List.cons_append, List.take_left]
      have e2 : (a :: (t ++ x :: rest)).drop (a :: t).length = x :: rest := by rw [← List.cons_append, List.drop_left]
      rw [e1, e2]
  · obtain ⟨h1, h2, h3⟩ := pun_not hp
    rw [List.singleton_append, tx, h1, if_neg Bool.false_ne_true, h2, if_neg Bool.false_ne_true, h3, if_neg Bool.false_ne_true, if_pos hp]
/-- Texts joined by single spaces. -/
def jn : List (List UInt8) → List UInt8
  | [] => []
  | [t] => t
  | t :: r => t ++ 32 :: jn r
theorem tx_end (f : Nat) (com : List UInt8) : tx (f + 2) (9 :: 35 :: com) = ([], true) := by
  rw [tx, if_neg (by decide), if_pos (by decide), tx, if_pos (by decide)]
/-- Texts of tokens, joined by spaces, with a comment behind, have the same tokens. -/
theorem tx_join (com : List UInt8) : ∀ (ts : List (List UInt8)) (f : Nat), (∀ t ∈ ts, TokT t) → 2 ≤ f → 2 * ts.length + 1 ≤ f → tx f (jn ts ++ 9 :: 35 :: com) = (ts, true)
  | [], f, _, h2, _ => by
    obtain ⟨g, rfl⟩ : ∃ g, f = g + 2 := ⟨f - 2, by omega⟩
    exact tx_end g com
  | [t], f, h, _, hf => by
    obtain ⟨g, rfl⟩ : ∃ g, f = g + 2 + 1 := ⟨f - 3, by simp at hf; omega⟩
    show tx (g + 2 + 1) (t ++ 9 :: 35 :: com) = _
    rw [tx_tok (h t (by simp)) _ _ _ (by decide), tx_end]
  | t :: t2 :: r, f, h, _, hf => by
    simp only [List.length_cons] at hf
    obtain ⟨g, rfl⟩ : ∃ g, f = g + 1 + 1 := ⟨f - 2, by omega⟩
    show tx (g + 1 + 1) ((t ++ 32 :: jn (t2 :: r)) ++ 9 :: 35 :: com) = _
    rw [List.append_assoc, List.cons_append, tx_tok (h t (by simp)) _ _ _ (by decide)]
    have e : tx (g + 1) (32 :: (jn (t2 :: r) ++ 9 :: 35 :: com)) = tx g (jn (t2 :: r) ++ 9 :: 35 :: com) := by
      rw [tx, if_neg (by decide), if_pos (by decide)]
    rw [e, tx_join com (t2 :: r) g (fun x hx => h x (by simp [hx])) (by omega) (by simp only [List.length_cons]; omega)]
theorem jn_len : ∀ ts : List (List UInt8), (∀ t ∈ ts, t ≠ []) → 2 * ts.length ≤ (jn ts).length + 1
  | [], _ => by simp
  | [t], h => by
    have : t.length ≠ 0 := by have := h t (by simp); simpa using this
    show 2 ≤ t.length + 1
    omega
  | t :: t2 :: r, h => by
    have ht : t.length ≠ 0 := by have := h t (by simp); simpa using this
    have ih := jn_len (t2 :: r) (fun x hx => h x (by simp [hx]))
    show 2 * (t :: t2 :: r).length ≤ (t ++ 32 :: jn (t2 :: r)).length + 1
    simp only [List.length_cons, List.length_append] at ih ⊢
    omega
theorem tokT_ne {t : List UInt8} (h : TokT t) : t ≠ [] := by
  rcases h with h | ⟨c, rfl, _⟩
  · exact h.1
  · simp

/-! ### shape and words -/
/-- Is a token's text a word? -/
def isW (t : List UInt8) : Bool := match t with | [c] => !pun c | _ => true
theorem isW_wn {t : List UInt8} (h : TokT t) : (isW t = true → wn t = t.length) ∧ (isW t = false → t.length = 1 ∧ wn t ≠ t.length) := by
  rcases h with ⟨hne, hall⟩ | ⟨c, rfl, hp⟩
  · have hw : wn t = t.length := by
      clear hne
      induction t with
      | nil => rfl
      | cons a t ih => rw [wn_pos (hall a (by simp)), ih (fun c hc => hall c (by simp [hc]))]; rfl
    refine ⟨fun _ => hw, fun hf => ?_⟩
    unfold isW at hf
    split at hf
    · rename_i c
      have := ((byte_cases c).2.2 (hall c (by simp))).1
      rw [this] at hf; cases hf
    · cases hf
  · refine ⟨fun ht => ?_, fun _ => ⟨rfl, ?_⟩⟩
    · simp [isW, hp] at ht
    · have := (pun_not hp).2.2
      have h0 : wn [c] = 0 := wn_neg (by rw [this]; exact Bool.false_ne_true)
      rw [h0]; simp
/-- The letter of a token. -/
def shl1 (t : List UInt8) : UInt8 := if isW t then 119 else t.headD 0
def shp (ts : List (List UInt8)) : List UInt8 := ts.map shl1
def wds (ts : List (List UInt8)) : List (List UInt8) := ts.filter isW
theorem shl1_w {t : List UInt8} (h : TokT t) : (shl1 t == 119) = isW t := by
  unfold shl1
  cases hw : isW t
  · rcases h with ⟨hne, hall⟩ | ⟨c, rfl, hp⟩
    · have := (isW_wn (.inl ⟨hne, hall⟩)).2 hw
      exfalso
      match t, hne with
      | [c], _ => simp [isW, ((byte_cases c).2.2 (hall c (by simp))).1] at hw
      | _ :: _ :: _, _ => simp [isW] at hw
    · simp only [Bool.false_eq_true, if_false, List.headD_cons]
      have h119 : pun 119 = false := by decide
      cases e : c == 119
      · rfl
      · rw [beq_iff_eq.1 e, h119] at hp; cases hp
  · simp
theorem shp_count : ∀ ts : List (List UInt8), (∀ t ∈ ts, TokT t) → (shp ts).countP (· == 119) = (wds ts).length
  | [], _ => rfl
  | t :: r, h => by
    have ih := shp_count r (fun x hx => h x (by simp [hx]))
    have ht := shl1_w (h t (by simp))
    unfold shp wds at ih ⊢
    rw [List.map_cons, List.countP_cons, List.filter_cons, ih, ht]
    cases isW t <;> simp

/-! ### lines -/
/-- Where the lines stand: from a line's first byte on. -/
def ln : Nat → Nat → List UInt8 → List (Nat × Nat)
  | i, fr, [] => if fr < i then [(fr, i)] else []
  | i, fr, c :: r => if c == 10 then (fr, i) :: ln (i + 1) (i + 1) r else ln (i + 1) fr r

/-! ### what the statements ask -/
theorem tk_bad_cases : ∀ (f i : Nat) (l : List UInt8), (tk f i l).2 = -1 ∨ 0 ≤ (tk f i l).2
  | 0, _, _ => .inl rfl
  | _ + 1, _, [] => .inl rfl
  | f + 1, i, c :: r => by
    unfold tk
    split
    · exact .inl rfl
    split
    · exact tk_bad_cases f (i + 1) r
    split
    · exact tk_bad_cases f _ _
    split
    · exact tk_bad_cases f (i + 1) r
    · exact .inr (by simp)
theorem bad_cases (s : ByteArray) : bad s = -1 ∨ 0 ≤ bad s := tk_bad_cases _ _ _
/-- The texts of a line's tokens. -/
def txts (s : ByteArray) : List (List UInt8) := (tks s).map (cut s.data.toList)
theorem size_list (s : ByteArray) : s.data.toList.length = s.size := by rw [Array.length_toList]; rfl
theorem txts_tx (s : ByteArray) : txts s = (tx s.size s.data.toList).1 ∧ (bad s = -1 ↔ (tx s.size s.data.toList).2 = true) := by
  obtain ⟨h1, h2⟩ := tk_tx s.data.toList s.size 0 s.data.toList rfl
  refine ⟨h1, ?_⟩
  rw [← h2]
  show bad s = -1 ↔ bad s < 0
  rcases bad_cases s with h | h <;> omega
theorem txts_tok (s : ByteArray) : ∀ t ∈ txts s, TokT t := by
  rw [(txts_tx s).1]; exact tx_tokT _ _
/-- Texts of tokens, joined, are read again. -/
theorem txts_join (s s2 : ByteArray) (com : List UInt8) (h : s2.data.toList = jn (txts s) ++ 9 :: 35 :: com) : txts s2 = txts s ∧ bad s2 = -1 := by
  have ht := txts_tok s
  have hl := jn_len (txts s) (fun t h => tokT_ne (ht t h))
  have hs : s2.size = (jn (txts s)).length + (com.length + 2) := by
    rw [← size_list, h]; simp
  obtain ⟨h1, h2⟩ := txts_tx s2
  rw [h, tx_join com (txts s) s2.size ht (by omega) (by omega)] at h1 h2
  exact ⟨h1, h2.2 rfl⟩
theorem jn_inter : ∀ ts : List (List UInt8), List.intercalate [32] ts = jn ts
  | [] => rfl
  | [t] => by simp [List.intercalate, jn]
  | t :: t2 :: r => by
    have ih := jn_inter (t2 :: r)
    rw [List.intercalate] at ih ⊢
    rw [List.intersperse_cons_cons, List.flatten_cons, List.flatten_cons, ih]
    rfl
theorem cut_prefix (l : List UInt8) (p : Nat × Nat) : (cut l p).isPrefixOf (l.drop p.1) = true := by
  rw [List.isPrefixOf_iff_prefix]
  exact List.take_prefix _ _
theorem cut_len {l : List UInt8} {p : Nat × Nat} (h : IsTok l 0 p) : (cut l p).length = p.2 - p.1 := by
  obtain ⟨_, h1, h2, _⟩ := h
  show ((l.drop p.1).take (p.2 - p.1)).length = _
  rw [List.length_take, List.length_drop]; omega
theorem tks_places (s : ByteArray) : ∀ p ∈ tks s, IsTok s.data.toList 0 p := tk_places _ _ _ (by rw [size_list]; exact Nat.le_refl _)
theorem tks_chain (s : ByteArray) : Chain 0 (tks s) := tk_chain _ _ _
/-- Lines are no more than bytes, and one. -/
theorem ln_len : ∀ (l : List UInt8) (i fr : Nat), (ln i fr l).length ≤ l.length + 1
  | [], i, fr => by unfold ln; split <;> simp
  | c :: r, i, fr => by
    unfold ln
    split
    · have := ln_len r (i + 1) (i + 1); simp only [List.length_cons]; omega
    · have := ln_len r (i + 1) fr; simp only [List.length_cons]; omega
theorem tk_len : ∀ (f i : Nat) (l : List UInt8), (tk f i l).1.length ≤ l.length
  | 0, _, _ => by simp [tk]
  | _ + 1, _, [] => by simp [tk]
  | f + 1, i, c :: r => by
    by_cases h1 : cmt c = true
    · rw [tk_cmt h1]; simp
    by_cases h2 : spc c = true
    · rw [tk_spc h2]; have := tk_len f (i + 1) r; simp only [List.length_cons]; omega
    by_cases h3 : wb c = true
    · rw [tk_word h3]
      have hn := wn_pos (r := r) h3
      have := tk_len f (i + wn (c :: r)) ((c :: r).drop (wn (c :: r)))
      rw [List.length_drop] at this
      simp only [List.length_cons] at this ⊢
      omega
    by_cases h4 : pun c = true
    · rw [tk_pun h4]; have := tk_len f (i + 1) r; simp only [List.length_cons]; omega
    · rw [tk_bad (by simpa using h1) (by simpa using h2) (by simpa using h3) (by simpa using h4)]; simp
theorem tks_len (s : ByteArray) : (tks s).length ≤ s.size := by
  have := tk_len s.size 0 s.data.toList
  rw [size_list] at this; exact this
end Go.Proofs.YtbneaihpnfkcdaaDoor.L8
