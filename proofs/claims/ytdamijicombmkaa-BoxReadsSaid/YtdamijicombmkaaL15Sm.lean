/- Sections, their container and what some bytes are the container of, as plain lists. No program, no condition. -/
import Derived.Test.YtdamijicombmkaaProg
namespace Go.Proofs.Ytdamijicombmkaa.L15

/-- A section: its kind and its data. -/
abbrev Sc := Int × List UInt8
/-- The least multiple of 8 that is not less. -/
def up (n : Nat) : Nat := (n + 7) / 8 * 8
theorem up_ge (n : Nat) : n ≤ up n := by unfold up; omega
theorem up_le (n : Nat) : up n ≤ n + 7 := by unfold up; omega
/-- How many bytes the data of some sections take. -/
def tot : List Sc → Nat
  | [] => 0
  | s :: r => up s.2.length + tot r
/-- Where the first data begin. -/
def hd (n : Nat) : Nat := up (16 + 12 * n)
def szL (l : List Sc) : Nat := hd l.length + tot l
/-- Kinds ascend from a least one. -/
def asc : Int → List Sc → Bool
  | _, [] => true
  | k, s :: r => decide (k < s.1) && decide (s.1 ≤ 65535) && asc s.1 r
def chkV (l : List Sc) : Int := if 16 < l.length ∨ 1073741824 < szL l then 16 else if asc 0 l = true then 0 else 4
theorem tot_app : ∀ (l r : List Sc), tot (l ++ r) = tot l + tot r
  | [], r => by simp [tot]
  | s :: l, r => by rw [List.cons_append, tot, tot, tot_app l r, Nat.add_assoc]
theorem tot_step (l : List Sc) (k : Nat) (h : k < l.length) : tot (l.take (k + 1)) = tot (l.take k) + up l[k].2.length := by
  rw [List.take_add_one, List.getElem?_eq_getElem h, Option.toList, tot_app]; simp [tot]
theorem tot_le (l : List Sc) (k : Nat) : tot (l.take k) ≤ tot l := by
  have h := tot_app (l.take k) (l.drop k)
  rw [List.take_append_drop] at h
  omega
theorem tot_bound : ∀ (l : List Sc) (m : Nat), (∀ s ∈ l, s.2.length ≤ m) → tot l ≤ l.length * (m + 7)
  | [], _, _ => by simp [tot]
  | s :: r, m, h => by
    have h1 := tot_bound r m (fun x hx => h x (List.mem_cons_of_mem _ hx))
    have h2 := h s (List.mem_cons_self ..)
    have h3 := up_le s.2.length
    rw [tot, List.length_cons, Nat.succ_mul]
    omega

/-! ### numbers as bytes, the least significant first -/
def le : Nat → Nat → List UInt8
  | 0, _ => []
  | n + 1, z => UInt8.ofNat (z % 256) :: le n (z / 256)
def va : List UInt8 → Nat
  | [] => 0
  | c :: l => c.toNat + 256 * va l
theorem le_len : ∀ (n z : Nat), (le n z).length = n
  | 0, _ => rfl
  | n + 1, z => by simp [le, le_len n]
theorem va_le : ∀ (n z : Nat), va (le n z) = z % 256 ^ n
  | 0, z => by simp [le, va, Nat.mod_one]
  | n + 1, z => by
    have e : 256 ^ (n + 1) = 256 * 256 ^ n := by rw [Nat.pow_succ, Nat.mul_comm]
    rw [le, va, va_le n, e, Nat.mod_mul, UInt8.toNat_ofNat']
    omega
theorem va_le2 (z : Nat) (h : z < 65536) : va (le 2 z) = z := by rw [va_le]; exact Nat.mod_eq_of_lt h
theorem va_le4 (z : Nat) (h : z < 4294967296) : va (le 4 z) = z := by rw [va_le]; exact Nat.mod_eq_of_lt h
theorem va_lt : ∀ l : List UInt8, va l < 256 ^ l.length
  | [] => by simp [va]
  | c :: l => by
    have h1 := va_lt l
    have h2 := c.toNat_lt
    rw [va, List.length_cons, Nat.pow_succ]
    omega

/-! ### the container -/
/-- The zero bytes behind n bytes. -/
def zs (n : Nat) : List UInt8 := List.replicate (up n - n) 0
theorem zs_len (n : Nat) : (zs n).length = up n - n := by simp [zs]
def row (s : Sc) (a : Nat) : List UInt8 := le 4 s.1.toNat ++ le 4 a ++ le 4 s.2.length
def rows : Nat → List Sc → List UInt8
  | _, [] => []
  | a, s :: r => row s a ++ rows (a + up s.2.length) r
def body : List Sc → List UInt8
  | [] => []
  | s :: r => s.2 ++ zs s.2.length ++ body r
def hea (l : List Sc) : List UInt8 := [83, 76, 67, 49] ++ le 2 1 ++ le 2 l.length ++ le 4 (szL l) ++ le 4 0
def tab (l : List Sc) : List UInt8 := hea l ++ rows (hd l.length) l
def frt (l : List Sc) : List UInt8 := tab l ++ zs (16 + 12 * l.length)
def wr (l : List Sc) : List UInt8 := frt l ++ body l
theorem row_len (s : Sc) (a : Nat) : (row s a).length = 12 := by simp [row, le_len]
theorem rows_len : ∀ (l : List Sc) (a : Nat), (rows a l).length = 12 * l.length
  | [], _ => rfl
  | s :: r, a => by rw [rows, List.length_append, row_len, rows_len r, List.length_cons]; omega
theorem hea_len (l : List Sc) : (hea l).length = 16 := by simp [hea, le_len]
theorem tab_len (l : List Sc) : (tab l).length = 16 + 12 * l.length := by rw [tab, List.length_append, hea_len, rows_len]
theorem frt_len (l : List Sc) : (frt l).length = hd l.length := by
  have := up_ge (16 + 12 * l.length)
  rw [frt, List.length_append, tab_len, zs_len, hd]; omega
theorem body_len : ∀ l : List Sc, (body l).length = tot l
  | [] => rfl
  | s :: r => by
    have := up_ge s.2.length
    rw [body, List.length_append, List.length_append, zs_len, body_len r, tot]; omega
theorem wr_len (l : List Sc) : (wr l).length = szL l := by rw [wr, List.length_append, frt_len, body_len, szL]
theorem rows_app : ∀ (l r : List Sc) (a : Nat), rows a (l ++ r) = rows a l ++ rows (a + tot l) r
  | [], r, a => by simp [rows, tot]
  | s :: l, r, a => by rw [List.cons_append, rows, rows, rows_app l r, tot, List.append_assoc, Nat.add_assoc]
theorem body_app : ∀ (l r : List Sc), body (l ++ r) = body l ++ body r
  | [], r => by simp [body]
  | s :: l, r => by rw [List.cons_append, body, body, body_app l r]; simp only [List.append_assoc]

/-! ### reading -/
/-- Some of the bytes: from a place on, so many. -/
def sub (b : List UInt8) (i n : Nat) : List UInt8 := (b.drop i).take n
theorem sub_len (b : List UInt8) (i n : Nat) (h : i + n ≤ b.length) : (sub b i n).length = n := by
  simp [sub]; omega
theorem sub_app (p m r : List UInt8) (i n : Nat) (hi : p.length = i) (hn : m.length = n) : sub (p ++ (m ++ r)) i n = m := by
  subst hi hn
  unfold sub
  rw [List.drop_left, List.take_left]
theorem sub_sub (b : List UInt8) (i n j m : Nat) (h : j + m ≤ n) : sub (sub b i n) j m = sub b (i + j) m := by
  unfold sub
  rw [List.drop_take, List.take_take, List.drop_drop, Nat.min_eq_left (by omega)]
/-- The numbers of a row of the table. -/
def kiN (b : List UInt8) (i : Nat) : Nat := va (sub b (16 + 12 * i) 4)
def atN (b : List UInt8) (i : Nat) : Nat := va (sub b (20 + 12 * i) 4)
def lnN (b : List UInt8) (i : Nat) : Nat := va (sub b (24 + 12 * i) 4)
def rd1 (b : List UInt8) (i : Nat) : Sc := ((kiN b i : Int), sub b (atN b i) (lnN b i))
def okR (b : List UInt8) (i : Nat) : Prop := 16 + 12 * i + 12 ≤ b.length ∧ atN b i + lnN b i ≤ b.length
instance (b : List UInt8) (i : Nat) : Decidable (okR b i) := by unfold okR; infer_instance
def nS (b : List UInt8) : Nat := va (sub b 6 2)
def rdT (b : List UInt8) (n : Nat) : List Sc := (List.range n).map (rd1 b)
theorem rdT_len (b : List UInt8) (n : Nat) : (rdT b n).length = n := by simp [rdT]
theorem rdT_at (b : List UInt8) (n i : Nat) (h : i < (rdT b n).length) : (rdT b n)[i] = rd1 b i := by simp [rdT]
theorem rdT_snoc (b : List UInt8) (n : Nat) : rdT b (n + 1) = rdT b n ++ [rd1 b n] := by simp [rdT, List.range_succ]
/-- The bytes are the container of these sections. -/
def Is (b : List UInt8) (l : List Sc) : Prop := chkV l = 0 ∧ wr l = b
theorem chk0 {l : List Sc} : chkV l = 0 ↔ (l.length ≤ 16 ∧ szL l ≤ 1073741824) ∧ asc 0 l = true := by
  unfold chkV
  by_cases h : 16 < l.length ∨ 1073741824 < szL l
  · rw [if_pos h]
    constructor
    · intro e; cases e
    · intro e; omega
  · rw [if_neg h]
    by_cases h2 : asc 0 l = true
    · rw [if_pos h2]
      simp only [h2, and_true, true_iff]; omega
    · rw [if_neg h2]
      constructor
      · intro e; cases e
      · intro e; exact absurd e.2 h2
theorem asc_lt : ∀ (l : List Sc) (k : Int) (s : Sc), asc k l = true → s ∈ l → k < s.1 ∧ s.1 ≤ 65535
  | [], _, _, _, h => by cases h
  | x :: r, k, s, h, hs => by
    simp only [asc, Bool.and_eq_true, decide_eq_true_eq] at h
    rcases List.mem_cons.1 hs with rfl | hs
    · exact h.1
    · have := asc_lt r x.1 s h.2 hs
      omega
theorem row_at (l : List Sc) (i : Nat) (h : i < l.length) : wr l = (hea l ++ rows (hd l.length) (l.take i)) ++ (row l[i] (hd l.length + tot (l.take i)) ++ (rows (hd l.length + tot (l.take i) + up l[i].2.length) (l.drop (i + 1)) ++ zs (16 + 12 * l.length) ++ body l)) := by
  have e : rows (hd l.length) l = rows (hd l.length) (l.take i) ++ (row l[i] (hd l.length + tot (l.take i)) ++ rows (hd l.length + tot (l.take i) + up l[i].2.length) (l.drop (i + 1))) := by
    generalize hd l.length = H
    conv => lhs; rw [← List.take_append_drop i l, List.drop_eq_getElem_cons h, rows_app, rows]
  rw [wr, frt, tab, e]
  simp only [List.append_assoc]
theorem sub_row (l : List Sc) (i j n : Nat) (h : i < l.length) (hj : j + n ≤ 12) : sub (wr l) (16 + 12 * i + j) n = sub (row l[i] (hd l.length + tot (l.take i))) j n := by
  have hp : (hea l ++ rows (hd l.length) (l.take i)).length = 16 + 12 * i := by
    rw [List.length_append, hea_len, rows_len, List.length_take, Nat.min_eq_left (by omega)]
  rw [← sub_sub (wr l) (16 + 12 * i) 12 j n hj, row_at l i h, sub_app _ _ _ _ _ hp (row_len _ _)]
theorem row_parts (s : Sc) (a : Nat) : sub (row s a) 0 4 = le 4 s.1.toNat ∧ sub (row s a) 4 4 = le 4 a ∧ sub (row s a) 8 4 = le 4 s.2.length := by
  refine ⟨?_, ?_, ?_⟩
  · have := sub_app [] (le 4 s.1.toNat) (le 4 a ++ le 4 s.2.length) 0 4 rfl (le_len _ _)
    rw [row, List.append_assoc]; simpa using this
  · rw [row, List.append_assoc]
    exact sub_app _ _ _ _ _ (le_len _ _) (le_len _ _)
  · have := sub_app (le 4 s.1.toNat ++ le 4 a) (le 4 s.2.length) [] 8 4 (by simp [le_len]) (le_len _ _)
    rw [row]; simpa using this
theorem data_at (l : List Sc) (i : Nat) (h : i < l.length) : sub (wr l) (hd l.length + tot (l.take i)) l[i].2.length = l[i].2 := by
  have e : wr l = (frt l ++ body (l.take i)) ++ (l[i].2 ++ (zs l[i].2.length ++ body (l.drop (i + 1)))) := by
    have e1 : body l = body (l.take i) ++ (l[i].2 ++ zs l[i].2.length ++ body (l.drop (i + 1))) := by
      conv => lhs; rw [← List.take_append_drop i l, List.drop_eq_getElem_cons h, body_app, body]
    rw [wr, e1]
    simp only [List.append_assoc]
  rw [e]
  exact sub_app _ _ _ _ _ (by rw [List.length_append, frt_len, body_len]) rfl
theorem nS_wr (l : List Sc) (h : l.length < 65536) : nS (wr l) = l.length := by
  have e : wr l = [83, 76, 67, 49] ++ le 2 1 ++ (le 2 l.length ++ (le 4 (szL l) ++ le 4 0 ++ rows (hd l.length) l ++ zs (16 + 12 * l.length) ++ body l)) := by
    rw [wr, frt, tab, hea]; simp only [List.append_assoc]
  unfold nS
  rw [e, sub_app _ _ _ _ _ (by simp [le_len]) (le_len _ _), va_le2 _ h]
/-- What is read from the container of correct sections. -/
theorem rd_wr (l : List Sc) (h : chkV l = 0) : (16 ≤ (wr l).length ∧ ∀ i, i < nS (wr l) → okR (wr l) i) ∧ rdT (wr l) (nS (wr l)) = l := by
  obtain ⟨⟨h1, h2⟩, h3⟩ := chk0.1 h
  have hN := nS_wr l (by omega)
  rw [hN]
  have hlen := wr_len l
  have hup := up_ge (16 + 12 * l.length)
  have hsz : szL l = up (16 + 12 * l.length) + tot l := rfl
  have each : ∀ i (hi : i < l.length), okR (wr l) i ∧ rd1 (wr l) i = l[i] := fun i hi => by
    obtain ⟨r1, r2, r3⟩ := row_parts l[i] (hd l.length + tot (l.take i))
    have hk := asc_lt l 0 l[i] h3 (List.getElem_mem hi)
    have ht := tot_le l (i + 1)
    rw [tot_step l i hi] at ht
    have hu := up_ge l[i].2.length
    have hd' : hd l.length = up (16 + 12 * l.length) := rfl
    have e1 : kiN (wr l) i = l[i].1.toNat := by
      have := sub_row l i 0 4 hi (by omega)
      unfold kiN
      rw [Nat.add_zero] at this
      rw [this, r1, va_le4 _ (by omega)]
    have e2 : atN (wr l) i = hd l.length + tot (l.take i) := by
      have := sub_row l i 4 4 hi (by omega)
      unfold atN
      rw [show 20 + 12 * i = 16 + 12 * i + 4 by omega, this, r2, va_le4 _ (by omega)]
    have e3 : lnN (wr l) i = l[i].2.length := by
      have := sub_row l i 8 4 hi (by omega)
      unfold lnN
      rw [show 24 + 12 * i = 16 + 12 * i + 8 by omega, this, r3, va_le4 _ (by omega)]
    refine ⟨⟨by omega, by rw [e2, e3]; omega⟩, ?_⟩
    unfold rd1
    rw [e1, e2, e3, data_at l i hi]
    apply Prod.ext
    · show ((l[i].1.toNat : Nat) : Int) = l[i].1
      omega
    · rfl
  refine ⟨⟨by omega, fun i hi => (each i hi).1⟩, ?_⟩
  apply List.ext_getElem
  · rw [rdT_len]
  · intro i h1 h2
    rw [rdT_at, (each i h2).2]
/-- A container is that of one list alone. -/
theorem wr_inj {l m : List Sc} (hl : chkV l = 0) (hm : chkV m = 0) (h : wr l = wr m) : l = m := by
  rw [← (rd_wr l hl).2, ← (rd_wr m hm).2, h]
/-- What some bytes are read as. -/
def rdOk (b : List UInt8) : Prop := (16 ≤ b.length ∧ ∀ i, i < nS b → okR b i) ∧ Is b (rdT b (nS b))
theorem rdOk_is {b : List UInt8} {l : List Sc} (h : Is b l) : rdOk b ∧ rdT b (nS b) = l := by
  obtain ⟨h1, rfl⟩ := h
  have h2 := rd_wr l h1
  exact ⟨⟨h2.1, by rw [h2.2]; exact ⟨h1, rfl⟩⟩, h2.2⟩
end Go.Proofs.Ytdamijicombmkaa.L15
