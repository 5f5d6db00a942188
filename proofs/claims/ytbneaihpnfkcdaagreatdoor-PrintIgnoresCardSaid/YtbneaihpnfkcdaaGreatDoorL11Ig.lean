/- Spaces and a comment behind each line, and an empty line more, leave what is read of a text. It speaks of no program; condition: the comment has no line feed. -/
import Derived.Test.YtbneaihpnfkcdaaGreatDoorM24
import Derived.Test.YtbneaihpnfkcdaaGreatDoorL10Par
import Derived.Lib.Bytealg
import Derived.KernelRfl
namespace Go.Proofs.YtbneaihpnfkcdaaGreatDoor.L11
open L10 (Stm Pg Rd foldL rdL foldI itL It)

theorem txts_com (s s2 : ByteArray) (C : List UInt8) (h : s2.data.toList = s.data.toList ++ 32 :: 59 :: C) : L8.txts s2 = L8.txts s ∧ (L8.bad s2 = -1 ↔ L8.bad s = -1) := by
  obtain ⟨h1, h2⟩ := L8.txts_tx s2
  obtain ⟨g1, g2⟩ := L8.txts_tx s
  have hz : s2.size = s.data.toList.length + 2 + C.length := by
    rw [← L8.size_list, h]; simp; omega
  have e : L8.tx s2.size s2.data.toList = L8.tx s.size s.data.toList := by
    rw [h, hz]
    exact L9.tx_tail C s.data.toList.length _ _ _ (Nat.le_refl _) (by rw [L8.size_list]; exact Nat.le_refl _) (by omega)
  rw [e] at h1 h2
  exact ⟨h1.trans g1.symm, h2.trans g2.symm⟩
theorem itL_com (s s2 : ByteArray) (C : List UInt8) (h : s2.data.toList = s.data.toList ++ 32 :: 59 :: C) : itL s2 = itL s := by
  obtain ⟨h1, h2⟩ := txts_com s s2 C h
  unfold L10.itL
  rcases L8.bad_cases s with hb | hb
  · have hb2 := h2.2 hb
    rw [if_neg (by omega), if_neg (by omega), L9.txB_of, L9.txB_of, h1]
  · have hb2 : 0 ≤ L8.bad s2 := by
      rcases L8.bad_cases s2 with hb2 | hb2
      · have := h2.1 hb2; omega
      · exact hb2
    rw [if_pos hb, if_pos hb2]
theorem itL_tab : itL (L8.mkB [9]) = ([], 0) := by kernel_rfl

def nwL (C : List UInt8) : List UInt8 := 32 :: 59 :: (C ++ [10, 9, 10])
def rpF (N : List UInt8) : List UInt8 → List UInt8
  | [] => []
  | c :: r => if c = 10 then N ++ rpF N r else c :: rpF N r
inductive Pdd (C : List UInt8) : List (List UInt8) → List (List UInt8) → Prop
  | nil : Pdd C [] []
  | last (x : List UInt8) : Pdd C [x] [x]
  | more (x : List UInt8) (l m : List (List UInt8)) : Pdd C l m → Pdd C (x :: l) ((x ++ 32 :: 59 :: C) :: [9] :: m)
theorem lsx_brk : ∀ (t a rest : List UInt8), (10 : UInt8) ∉ t → L8.lsx a (t ++ 10 :: rest) = (a ++ t) :: L8.lsx [] rest
  | [], a, rest, _ => by
    rw [List.nil_append, L8.lsx, if_pos (by decide), List.append_nil]
  | c :: r, a, rest, h => by
    rw [List.cons_append, L8.lsx, if_neg (by intro e; have e' : c = 10 := by simpa using e
                                             exact h (by rw [e']; simp)), lsx_brk r (a ++ [c]) rest (fun hm => h (by simp [hm]))]
    simp
theorem lsx_rp (C : List UInt8) (hC : (10 : UInt8) ∉ C) : ∀ (l a : List UInt8), Pdd C (L8.lsx a l) (L8.lsx a (rpF (nwL C) l))
  | [], a => by
    rw [rpF, L8.lsx]
    split
    · exact .nil
    · exact .last _
  | c :: r, a => by
    rw [rpF, L8.lsx]
    by_cases h : c = 10
    · rw [if_pos (by simpa using h), if_pos h]
      have e : nwL C ++ rpF (nwL C) r = (32 :: 59 :: C) ++ 10 :: ([9] ++ 10 :: rpF (nwL C) r) := by simp [nwL]
      rw [e, lsx_brk _ _ _ (by simpa using hC), lsx_brk [9] [] _ (by decide)]
      exact .more _ _ _ (lsx_rp C hC r [])
    · rw [if_neg (by simpa using h), if_neg h, L8.lsx, if_neg (by simpa using h)]
      exact lsx_rp C hC r (a ++ [c])

structure Sim (s t : Rd) : Prop where
  maps : s.maps = t.maps
  stmts : s.stmts = t.stmts
  labs : s.labs = t.labs
theorem sim_foldI : ∀ (l : List It) (s t : Rd), Sim s t → (foldI s l).2 = (foldI t l).2 ∧ Sim (foldI s l).1 (foldI t l).1
  | [], s, t, h => ⟨rfl, h⟩
  | .lb x :: r, s, t, h => by
    rw [foldI, foldI]
    exact sim_foldI r _ _ ⟨h.maps, h.stmts, by show s.labs ++ [x] = t.labs ++ [x]; rw [h.labs]⟩
  | .mp d :: r, s, t, h => by
    rw [foldI, foldI]
    by_cases hc : s.labs ≠ [] ∨ s.stmts ≠ []
    · rw [if_pos hc, if_pos (by rw [← h.labs, ← h.stmts]; exact hc)]
      exact ⟨rfl, h⟩
    · rw [if_neg hc, if_neg (by rw [← h.labs, ← h.stmts]; exact hc)]
      exact sim_foldI r _ _ ⟨by show s.maps ++ [d] = t.maps ++ [d]; rw [h.maps], h.stmts, h.labs⟩
  | .cd x tg mp :: r, s, t, h => by
    rw [foldI, foldI]
    exact sim_foldI r _ _ ⟨h.maps, by show s.stmts ++ [⟨s.labs, x, tg, mp⟩] = t.stmts ++ [⟨t.labs, x, tg, mp⟩]; rw [h.stmts, h.labs], rfl⟩
theorem sim_rdL {a b : ByteArray} (hi : itL b = itL a) {s t : Rd} (h : Sim s t) : (rdL s a).2 = (rdL t b).2 ∧ Sim (rdL s a).1 (rdL t b).1 := by
  unfold L10.rdL
  rw [hi]
  split
  · exact ⟨rfl, h.maps, h.stmts, h.labs⟩
  · exact sim_foldI _ _ _ ⟨h.maps, h.stmts, h.labs⟩
theorem rdL_tab (s : Rd) : (rdL s (L8.mkB [9])).2 = 0 ∧ Sim s (rdL s (L8.mkB [9])).1 := by
  unfold L10.rdL
  rw [itL_tab, if_neg (by simp)]
  exact ⟨rfl, rfl, rfl, rfl⟩
theorem Sim.trans {a b c : Rd} (h : Sim a b) (k : Sim b c) : Sim a c := ⟨h.maps.trans k.maps, h.stmts.trans k.stmts, h.labs.trans k.labs⟩
theorem sim_foldL {C : List UInt8} {l m : List (List UInt8)} (hp : Pdd C l m) : ∀ s t : Rd, Sim s t → (foldL s (l.map L8.mkB)).2 = (foldL t (m.map L8.mkB)).2 ∧ Sim (foldL s (l.map L8.mkB)).1 (foldL t (m.map L8.mkB)).1 := by
  induction hp with
  | nil => exact fun s t h => ⟨rfl, h⟩
  | last x =>
    intro s t h
    obtain ⟨h1, h2⟩ := sim_rdL (a := L8.mkB x) (b := L8.mkB x) rfl h
    simp only [List.map_cons, List.map_nil, foldL]
    rw [← h1]
    split
    · exact ⟨h1, h2⟩
    · exact ⟨rfl, h2⟩
  | more x l m _ ih =>
    intro s t h
    obtain ⟨h1, h2⟩ := sim_rdL (a := L8.mkB x) (b := L8.mkB (x ++ 32 :: 59 :: C)) (itL_com _ _ C (by rw [L8.mkB_list, L8.mkB_list])) h
    rw [List.map_cons, List.map_cons, List.map_cons, foldL, foldL, ← h1]
    by_cases h0 : (rdL s (L8.mkB x)).2 = 0
    · rw [if_neg (by simp [h0]), if_neg (by simp [h0])]
      obtain ⟨k1, k2⟩ := rdL_tab (rdL t (L8.mkB (x ++ 32 :: 59 :: C))).1
      rw [foldL, if_neg (by simp [k1])]
      exact ih _ _ (h2.trans k2)
    · rw [if_pos h0, if_pos h0]
      exact ⟨h1, h2⟩
theorem sim_paF {q r : Rd × Int} (h1 : q.2 = r.2) (h2 : Sim q.1 r.1) : (L10.paF q).1 = (L10.paF r).1 ∧ (L10.paF q).2.2.2 = (L10.paF r).2.2.2 := by
  obtain ⟨s, e⟩ := q
  obtain ⟨t, f⟩ := r
  obtain ⟨m1, m2, m3⟩ := h2
  dsimp only at h1 m1 m2 m3
  subst h1
  unfold L10.paF
  dsimp only
  rw [m1, m2, m3]
  split
  · exact ⟨rfl, rfl⟩
  split
  · exact ⟨rfl, rfl⟩
  split
  · exact ⟨rfl, rfl⟩
  · exact ⟨rfl, rfl⟩
theorem paV_pad (t t2 : ByteArray) (C : List UInt8) (hC : (10 : UInt8) ∉ C) (h : t2.data.toList = rpF (nwL C) t.data.toList) : (L10.paV t).1 = (L10.paV t2).1 ∧ (L10.paV t).2.2.2 = (L10.paV t2).2.2.2 := by
  unfold L10.paV
  rw [L8.lns_lsx, L8.lns_lsx, h]
  obtain ⟨h1, h2⟩ := sim_foldL (lsx_rp C hC t.data.toList []) Rd.z Rd.z ⟨rfl, rfl, rfl⟩
  exact sim_paF h1 h2

theorem ils_pad {C : List UInt8} {l m : List (List UInt8)} (hp : Pdd C l m) : L10.ils (m.map L8.mkB) = L10.ils (l.map L8.mkB) := by
  induction hp with
  | nil => rfl
  | last x => rfl
  | more x l m _ ih =>
    rw [List.map_cons, List.map_cons, List.map_cons, L10.ils, L10.ils, L10.ils, itL_tab, itL_com (L8.mkB x) _ C (by rw [L8.mkB_list, L8.mkB_list]), ih]
    simp
theorem len_pad {C : List UInt8} {l m : List (List UInt8)} (hp : Pdd C l m) (n : Nat) (h : ∀ x ∈ l, x.length ≤ n) : ∀ y ∈ m, y.length ≤ n + C.length + 2 := by
  induction hp with
  | nil => exact fun y hy => by cases hy
  | last x => exact fun y hy => by have := h y hy; omega
  | more x l m _ ih =>
    intro y hy
    rcases List.mem_cons.1 hy with rfl | hy
    · have := h x (by simp)
      simp only [List.length_append, List.length_cons]; omega
    rcases List.mem_cons.1 hy with rfl | hy
    · show 1 ≤ _; omega
    · exact ih (fun z hz => h z (by simp [hz])) y hy
theorem rp_len (N : List UInt8) : ∀ l : List UInt8, (rpF N l).length + Lib.countByte l 10 = l.length + Lib.countByte l 10 * N.length
  | [] => by simp [rpF, Lib.countByte]
  | c :: r => by
    have ih := rp_len N r
    unfold Lib.countByte at ih ⊢
    rw [rpF]
    by_cases h : c = 10
    · subst h
      rw [if_pos rfl, List.count_cons_self, List.length_append, List.length_cons, Nat.add_mul]
      omega
    · rw [if_neg h, List.count_cons_of_ne (by simpa using h), List.length_cons, List.length_cons]
      omega
theorem pad_rooms (t t2 : ByteArray) (C : List UInt8) (hC : (10 : UInt8) ∉ C) (h : t2.data.toList = rpF (nwL C) t.data.toList) (ht : t.size ≤ 20000) (hn : Lib.countByte t.data.toList 10 ≤ 400) (hc : C.length ≤ 1000) :
    t2.size ≤ 500000 ∧ L10.ils (L8.lns t2) ≤ 100000 ∧ ∀ x ∈ L8.lns t2, x.size ≤ 100000 := by
  have hp := lsx_rp C hC t.data.toList []
  have hl := rp_len (nwL C) t.data.toList
  rw [← h] at hp hl
  have hs := L10.lns_szs t
  have hi := L10.ils_szs (L8.lns t)
  have hm := fun x hx => L10.szs_mem (L8.lns t) x hx
  rw [L8.size_list, L8.size_list] at hl
  have hN : (nwL C).length ≤ 1005 := by simp [nwL]; omega
  have hmul : Lib.countByte t.data.toList 10 * (nwL C).length ≤ 400 * 1005 := Nat.mul_le_mul hn hN
  refine ⟨by omega, ?_, ?_⟩
  · rw [L8.lns_lsx, ils_pad hp, ← L8.lns_lsx]; omega
  · rw [L8.lns_lsx]
    intro x hx
    obtain ⟨y, hy, rfl⟩ := List.mem_map.1 hx
    rw [L8.mkB_size]
    have := len_pad hp 20001 (fun z hz => by
      have := hm (L8.mkB z) (by rw [L8.lns_lsx]; exact List.mem_map.2 ⟨z, hz, rfl⟩)
      rw [L8.mkB_size] at this
      omega) y hy
    omega
end Go.Proofs.YtbneaihpnfkcdaaGreatDoor.L11
