/- Tables of texts, plain: the texts ahead of the zero bytes of some bytes and where they begin; the text at an offset; the least offset of a text; the texts whose table some bytes are; the table of some texts and their offsets; that parsing inverts building, and building parsing. It speaks of no program and has no condition. -/
import Derived.Test.YtdamijicombmkaaProg
namespace Go.Proofs.Ytdamijicombmkaa.L14

/-- A text and the number of bytes ahead of it. -/
structure Sg where
  at' : Nat
  t : List UInt8
/-- The texts ahead of each zero byte; st: where the first begins; a: its bytes till now. -/
def sg : Nat → List UInt8 → List UInt8 → List Sg
  | _, _, [] => []
  | st, a, c :: r => if c = 0 then ⟨st, a⟩ :: sg (st + a.length + 1) [] r else sg st (a ++ [c]) r
/-- Where the first zero byte stands. -/
def fz : List UInt8 → Option Nat
  | [] => none
  | c :: r => if c = 0 then some 0 else (fz r).map (· + 1)
theorem fz_none : ∀ {l : List UInt8}, fz l = none ↔ ¬ (0 : UInt8) ∈ l
  | [] => by simp [fz]
  | c :: r => by
    unfold fz
    by_cases h : c = 0
    · simp [h]
    · have h' : ¬ (0 : UInt8) = c := fun e => h e.symm
      simp [h, h', fz_none (l := r)]
theorem fz_some : ∀ {l : List UInt8} {i : Nat}, fz l = some i → i < l.length ∧ ¬ (0 : UInt8) ∈ l.take i ∧ l = l.take i ++ 0 :: l.drop (i + 1)
  | [], i, h => by simp [fz] at h
  | c :: r, i, h => by
    unfold fz at h
    by_cases hc : c = 0
    · rw [if_pos hc] at h
      cases h
      subst hc
      simp
    · rw [if_neg hc] at h
      cases hf : fz r with
      | none => rw [hf] at h; cases h
      | some j =>
        rw [hf] at h
        cases h
        obtain ⟨h1, h2, h3⟩ := fz_some hf
        have h' : ¬ (0 : UInt8) = c := fun e => hc e.symm
        refine ⟨by simp only [List.length_cons]; omega, by simp [h', h2], ?_⟩
        rw [List.take_succ_cons, List.drop_succ_cons, List.cons_append, ← h3]
theorem fz_app : ∀ {t : List UInt8} (r : List UInt8), ¬ (0 : UInt8) ∈ t → fz (t ++ 0 :: r) = some t.length
  | [], r, _ => by simp [fz]
  | c :: t, r, h => by
    simp only [List.mem_cons, not_or] at h
    have hc : ¬ c = 0 := fun e => h.1 e.symm
    rw [List.cons_append, fz, if_neg hc, fz_app r h.2]; rfl

theorem sg_none : ∀ (l : List UInt8) (st : Nat) (a : List UInt8), fz l = none → sg st a l = []
  | [], _, _, _ => rfl
  | c :: r, st, a, h => by
    unfold fz at h
    by_cases hc : c = 0
    · rw [if_pos hc] at h; cases h
    · rw [if_neg hc] at h
      have hr : fz r = none := by simpa using h
      rw [sg, if_neg hc, sg_none r st (a ++ [c]) hr]
theorem sg_some : ∀ (l : List UInt8) (i st : Nat) (a : List UInt8), fz l = some i → sg st a l = ⟨st, a ++ l.take i⟩ :: sg (st + a.length + i + 1) [] (l.drop (i + 1))
  | [], i, _, _, h => by simp [fz] at h
  | c :: r, i, st, a, h => by
    unfold fz at h
    by_cases hc : c = 0
    · rw [if_pos hc] at h
      cases h
      rw [sg, if_pos hc]
      simp
    · rw [if_neg hc] at h
      cases hf : fz r with
      | none => rw [hf] at h; cases h
      | some j =>
        rw [hf] at h
        cases h
        rw [sg, if_neg hc, sg_some r j st (a ++ [c]) hf, List.take_succ_cons, List.drop_succ_cons, List.append_assoc, List.length_append]
        simp only [List.length_cons, List.length_nil, List.cons_append, List.nil_append]
        rw [show st + (a.length + (0 + 1)) + j + 1 = st + a.length + (j + 1) + 1 by omega]
theorem sg_in : ∀ (l : List UInt8) (st : Nat) (a : List UInt8) (x : Sg), x ∈ sg st a l → ∃ k, x.at' = st + k ∧ k + x.t.length < a.length + l.length ∧ ∀ j, j < x.t.length → x.t[j]? = (a ++ l)[k + j]?
  | [], _, _, _, h => by simp [sg] at h
  | c :: r, st, a, x, h => by
    unfold sg at h
    by_cases hc : c = 0
    · rw [if_pos hc, List.mem_cons] at h
      rcases h with rfl | h
      · exact ⟨0, rfl, by simp, fun j hj => by rw [Nat.zero_add, List.getElem?_append_left hj]⟩
      · obtain ⟨k, h1, h2, h3⟩ := sg_in r _ _ _ h
        refine ⟨a.length + 1 + k, by omega, by simp only [List.length_cons, List.length_nil] at h2 ⊢; omega, fun j hj => ?_⟩
        rw [h3 j hj, List.nil_append, List.getElem?_append_right (by omega), show a.length + 1 + k + j - a.length = (k + j) + 1 by omega, List.getElem?_cons_succ]
    · rw [if_neg hc] at h
      obtain ⟨k, h1, h2, h3⟩ := sg_in r _ _ _ h
      refine ⟨k, h1, by simp only [List.length_append, List.length_cons, List.length_nil] at h2 ⊢; omega, fun j hj => ?_⟩
      rw [h3 j hj, List.append_assoc]; rfl
theorem sg_len : ∀ (l : List UInt8) (st : Nat) (a : List UInt8), (sg st a l).length ≤ l.length
  | [], _, _ => by simp [sg]
  | c :: r, st, a => by
    unfold sg
    split
    · have := sg_len r (st + a.length + 1) []
      simp only [List.length_cons]; omega
    · have := sg_len r st (a ++ [c])
      simp only [List.length_cons]; omega

/-! ### the text at an offset, the least offset of a text -/
/-- The text at an offset. -/
def gtx (l : List UInt8) (off : Nat) : Option (List UInt8) := (fz (l.drop off)).map fun i => (l.drop off).take i
theorem gtx_drop (l : List UInt8) (i : Nat) : gtx (l.drop i) 0 = gtx l i := by simp [gtx]
theorem gtx_app {t : List UInt8} (r : List UInt8) (h : ¬ (0 : UInt8) ∈ t) : gtx (t ++ 0 :: r) 0 = some t := by
  unfold gtx
  rw [List.drop_zero, fz_app r h]; simp
/-- The least offset of a text, from some place on. -/
def fnd (s : List UInt8) : Nat → List UInt8 → Option Nat
  | _, [] => none
  | i, c :: r => if gtx (c :: r) 0 = some s then some i else fnd s (i + 1) r
/-- The same, out of the texts ahead of the zero bytes. -/
def fsg (s : List UInt8) : List Sg → Option Nat
  | [] => none
  | x :: r => if s <:+ x.t then some (x.at' + x.t.length - s.length) else fsg s r
theorem fnd_none (s : List UInt8) : ∀ (l : List UInt8) (st : Nat), fz l = none → fnd s st l = none
  | [], _, _ => rfl
  | c :: r, st, h => by
    have hg : gtx (c :: r) 0 = none := by unfold gtx; rw [List.drop_zero, h]; rfl
    unfold fz at h
    by_cases hc : c = 0
    · rw [if_pos hc] at h; cases h
    · rw [if_neg hc] at h
      rw [fnd, if_neg (by rw [hg]; simp), fnd_none s r (st + 1) (by simpa using h)]
theorem fnd_seg (s r : List UInt8) : ∀ (t : List UInt8) (st : Nat), ¬ (0 : UInt8) ∈ t → fnd s st (t ++ 0 :: r) = if s <:+ t then some (st + t.length - s.length) else fnd s (st + t.length + 1) r
  | [], st, _ => by
    rw [List.nil_append, fnd, show gtx (0 :: r) 0 = some [] from gtx_app (t := []) r (by simp)]
    by_cases hs : s = []
    · subst hs; simp
    · have h1 : ¬ s <:+ [] := by simpa using hs
      rw [if_neg h1, if_neg (by simpa using fun e : [] = s => hs e.symm)]; rfl
  | c :: t, st, h => by
    have h' := h
    simp only [List.mem_cons, not_or] at h'
    rw [List.cons_append, fnd, ← List.cons_append, gtx_app r h]
    by_cases hs : c :: t = s
    · subst hs
      rw [if_pos rfl, if_pos (List.suffix_refl _)]
      congr 1; omega
    · rw [if_neg (by simpa using hs), fnd_seg s r t (st + 1) h'.2]
      by_cases h1 : s <:+ t
      · rw [if_pos h1, if_pos (h1.trans (List.suffix_cons c t))]
        congr 1
        simp only [List.length_cons]; omega
      · have h2 : ¬ s <:+ c :: t := fun h2 => by
          rcases List.suffix_cons_iff.1 h2 with h2 | h2
          · exact hs h2.symm
          · exact h1 h2
        rw [if_neg h1, if_neg h2]
        congr 1
        simp only [List.length_cons]; omega
theorem fnd_sg (s : List UInt8) : ∀ (n : Nat) (l : List UInt8) (st : Nat), l.length ≤ n → fnd s st l = fsg s (sg st [] l)
  | n, l, st, hn => by
    cases hf : fz l with
    | none => rw [fnd_none s l st hf, sg_none l st [] hf]; rfl
    | some i =>
      obtain ⟨h1, h2, h3⟩ := fz_some hf
      rw [sg_some l i st [] hf]
      match n, hn with
      | 0, hn => omega
      | n + 1, hn =>
        have ih := fnd_sg s n (l.drop (i + 1)) (st + i + 1) (by rw [List.length_drop]; omega)
        have hl : (l.take i).length = i := by rw [List.length_take]; omega
        have e := fnd_seg s (l.drop (i + 1)) (l.take i) st h2
        rw [← h3] at e
        rw [e, fsg, List.nil_append, hl, ih]
        rfl

/-! ### the texts whose table some bytes are -/
def pr : List UInt8 → List UInt8 → Option (List (List UInt8))
  | a, [] => if a = [] then some [] else none
  | a, c :: r => if c = 0 then (if a = [] then none else (pr [] r).map (a :: ·)) else pr (a ++ [c]) r
/-- The texts whose table the bytes are. -/
def prV : List UInt8 → Option (List (List UInt8))
  | [] => none
  | c :: r => if c = 0 then pr [] r else none
theorem pr_none : ∀ (l a : List UInt8), fz l = none → a ++ l ≠ [] → pr a l = none
  | [], a, _, h => by
    have : a ≠ [] := by simpa using h
    rw [pr, if_neg this]
  | c :: r, a, hf, _ => by
    unfold fz at hf
    by_cases hc : c = 0
    · rw [if_pos hc] at hf; cases hf
    · rw [if_neg hc] at hf
      rw [pr, if_neg hc, pr_none r (a ++ [c]) (by simpa using hf) (by simp)]
theorem pr_some : ∀ (l : List UInt8) (i : Nat) (a : List UInt8), fz l = some i → pr a l = if a ++ l.take i = [] then none else (pr [] (l.drop (i + 1))).map ((a ++ l.take i) :: ·)
  | [], i, _, h => by simp [fz] at h
  | c :: r, i, a, h => by
    unfold fz at h
    by_cases hc : c = 0
    · rw [if_pos hc] at h
      cases h
      rw [pr, if_pos hc]
      simp
    · rw [if_neg hc] at h
      cases hf : fz r with
      | none => rw [hf] at h; cases h
      | some j =>
        rw [hf] at h
        cases h
        rw [pr, if_neg hc, pr_some r j (a ++ [c]) hf, List.take_succ_cons, List.drop_succ_cons, List.append_assoc]
        rfl
/-- Whether the bytes end with a zero byte, or there are none. -/
def en : List UInt8 → List UInt8 → Bool
  | a, [] => a.isEmpty
  | a, c :: r => if c = 0 then en [] r else en (a ++ [c]) r
theorem en_last : ∀ (l a : List UInt8) (c : UInt8), l.getLast? = some c → en a l = (c == 0)
  | [], _, _, h => by simp at h
  | c :: r, a, d, h => by
    unfold en
    cases r with
    | nil =>
      simp at h; subst h
      by_cases hc : c = 0
      · rw [if_pos hc]; simp [en, hc]
      · rw [if_neg hc]
        have h1 : (c == 0) = false := by simpa using hc
        rw [h1, en]; simp
    | cons e r =>
      have h' : (e :: r).getLast? = some d := by rw [← h, List.getLast?_cons_cons]
      split
      · exact en_last (e :: r) [] d h'
      · exact en_last (e :: r) (a ++ [c]) d h'
theorem pr_sg : ∀ (l a : List UInt8) (st : Nat), pr a l = if (en a l && (sg st a l).all fun x => !x.t.isEmpty) = true then some ((sg st a l).map (·.t)) else none
  | [], a, st => by
    unfold pr en sg
    by_cases h : a = []
    · simp [h]
    · have : a.isEmpty = false := by simpa using h
      rw [if_neg h, this]; rfl
  | c :: r, a, st => by
    unfold pr en sg
    by_cases hc : c = 0
    · rw [if_pos hc, if_pos hc, if_pos hc]
      by_cases h : a = []
      · rw [if_pos h]
        simp [h]
      · have hi : a.isEmpty = false := by simpa using h
        rw [if_neg h, pr_sg r [] (st + a.length + 1)]
        simp only [List.all_cons, hi, Bool.not_false, Bool.true_and, List.map_cons]
        split <;> rfl
    · rw [if_neg hc, if_neg hc, if_neg hc]
      exact pr_sg r (a ++ [c]) st

/-! ### the table of some texts -/
/-- The offsets of the texts. -/
def ofs : Nat → List (List UInt8) → List Nat
  | _, [] => []
  | st, t :: r => st :: ofs (st + t.length + 1) r
theorem ofs_len : ∀ (ts : List (List UInt8)) (st : Nat), (ofs st ts).length = ts.length
  | [], _ => rfl
  | t :: r, st => by rw [ofs, List.length_cons, List.length_cons, ofs_len r]
theorem sg_ofs : ∀ (l : List UInt8) (st : Nat) (a : List UInt8), (sg st a l).map (·.at') = ofs st ((sg st a l).map (·.t))
  | [], _, _ => rfl
  | c :: r, st, a => by
    unfold sg
    split
    · rw [List.map_cons, List.map_cons, ofs, sg_ofs r]
    · exact sg_ofs r st (a ++ [c])
theorem ofs_up : ∀ (ts : List (List UInt8)) (st k : Nat), (ofs st ts).map (k + ·) = ofs (k + st) ts
  | [], _, _ => rfl
  | t :: r, st, k => by
    rw [ofs, ofs, List.map_cons, ofs_up r]
    congr 2; omega
/-- The bytes of the texts, a zero byte behind each. -/
def bd (ts : List (List UInt8)) : List UInt8 := ts.flatMap (· ++ [0])
/-- The table of the texts. -/
def tb (ts : List (List UInt8)) : List UInt8 := 0 :: bd ts
theorem bd_cons (t : List UInt8) (r : List (List UInt8)) : bd (t :: r) = t ++ 0 :: bd r := by simp [bd]
theorem bd_snoc (r : List (List UInt8)) (t : List UInt8) : bd (r ++ [t]) = bd r ++ t ++ [0] := by simp [bd]
/-- Whether a text may be in a table. -/
def rt (t : List UInt8) : Bool := !t.isEmpty && (fz t).isNone
theorem rt_iff {t : List UInt8} : rt t = true ↔ t ≠ [] ∧ ¬ (0 : UInt8) ∈ t := by
  unfold rt
  rw [Bool.and_eq_true, Option.isNone_iff_eq_none, fz_none]
  simp
theorem pr_app : ∀ (t a r : List UInt8), ¬ (0 : UInt8) ∈ t → pr a (t ++ r) = pr (a ++ t) r
  | [], a, r, _ => by simp
  | c :: t, a, r, h => by
    simp only [List.mem_cons, not_or] at h
    have hc : ¬ c = 0 := fun e => h.1 e.symm
    rw [List.cons_append, pr, if_neg hc, pr_app t (a ++ [c]) r h.2, List.append_assoc]; rfl
theorem pr_bd : ∀ (ts : List (List UInt8)), (∀ t ∈ ts, rt t = true) → pr [] (bd ts) = some ts
  | [], _ => by simp [bd, pr]
  | t :: r, h => by
    obtain ⟨h1, h2⟩ := rt_iff.1 (h t (List.mem_cons_self ..))
    rw [bd_cons, pr_app t [] _ h2, List.nil_append, pr, if_pos rfl, if_neg h1, pr_bd r (fun x hx => h x (List.mem_cons_of_mem _ hx))]
    rfl
theorem bd_pr : ∀ (l a : List UInt8) (ts : List (List UInt8)), ¬ (0 : UInt8) ∈ a → pr a l = some ts → (∀ t ∈ ts, rt t = true) ∧ a ++ l = bd ts
  | [], a, ts, _, h => by
    unfold pr at h
    by_cases ha : a = []
    · rw [if_pos ha] at h
      cases h
      exact ⟨fun t ht => (by cases ht), by simp [ha, bd]⟩
    · rw [if_neg ha] at h; cases h
  | c :: r, a, ts, hz, h => by
    unfold pr at h
    by_cases hc : c = 0
    · rw [if_pos hc] at h
      by_cases ha : a = []
      · rw [if_pos ha] at h; cases h
      · rw [if_neg ha] at h
        cases hp : pr [] r with
        | none => rw [hp] at h; cases h
        | some us =>
          rw [hp] at h
          cases h
          obtain ⟨h1, h2⟩ := bd_pr r [] us (by simp) hp
          refine And.intro (fun t ht => ?_) (by rw [bd_cons, ← h2, hc]; simp)
          rcases List.mem_cons.1 ht with rfl | ht
          · exact rt_iff.2 ⟨ha, hz⟩
          · exact h1 t ht
    · rw [if_neg hc] at h
      have hz' : ¬ (0 : UInt8) ∈ a ++ [c] := by
        simp only [List.mem_append, List.mem_cons, List.not_mem_nil, or_false, not_or]
        exact ⟨hz, fun e => hc e.symm⟩
      obtain ⟨h1, h2⟩ := bd_pr r (a ++ [c]) ts hz' h
      exact ⟨h1, by rw [← h2, List.append_assoc]; rfl⟩
theorem prV_tb (ts : List (List UInt8)) (h : ∀ t ∈ ts, rt t = true) : prV (tb ts) = some ts := by
  show (if (0 : UInt8) = 0 then pr [] (bd ts) else none) = _
  rw [if_pos rfl, pr_bd ts h]
theorem tb_prV {l : List UInt8} {ts : List (List UInt8)} (h : prV l = some ts) : (∀ t ∈ ts, rt t = true) ∧ tb ts = l := by
  cases l with
  | nil => cases h
  | cons c r =>
    have h : (if c = 0 then pr [] r else none) = some ts := h
    by_cases hc : c = 0
    · rw [if_pos hc] at h
      obtain ⟨h1, h2⟩ := bd_pr r [] ts (by simp) h
      exact ⟨h1, by unfold tb; rw [← h2, hc]; rfl⟩
    · rw [if_neg hc] at h; cases h
/-- The text at a text's offset. -/
theorem gtx_ofs : ∀ (ts : List (List UInt8)) (pre : List UInt8) (i : Nat) (h : i < ts.length), (∀ t ∈ ts, rt t = true) → ∃ o, (ofs pre.length ts)[i]? = some o ∧ o < (pre ++ bd ts).length ∧ gtx (pre ++ bd ts) o = some ts[i]
  | t :: r, pre, 0, _, h => by
    have h2 := (rt_iff.1 (h t (List.mem_cons_self ..))).2
    refine ⟨pre.length, by simp [ofs], by rw [bd_cons]; simp only [List.length_append, List.length_cons]; omega, ?_⟩
    rw [← gtx_drop, List.drop_left, bd_cons, gtx_app _ h2]; rfl
  | t :: r, pre, i + 1, hi, h => by
    obtain ⟨o, h1, h2, h3⟩ := gtx_ofs r (pre ++ t ++ [0]) i (by simpa using hi) (fun x hx => h x (List.mem_cons_of_mem _ hx))
    have e : pre ++ bd (t :: r) = pre ++ t ++ [0] ++ bd r := by rw [bd_cons]; simp
    refine ⟨o, ?_, by rw [e]; exact h2, by rw [e]; exact h3⟩
    rw [ofs, List.getElem?_cons_succ, ← h1]
    simp [Nat.add_assoc]
end Go.Proofs.Ytdamijicombmkaa.L14
