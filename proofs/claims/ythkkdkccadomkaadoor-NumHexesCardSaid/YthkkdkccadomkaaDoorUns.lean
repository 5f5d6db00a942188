/- What the code's reading of digits comes to (num.unsigned): the number and whether it is too great, or none. No condition. -/
import Derived.Test.YthkkdkccadomkaaDoorAdd
namespace Go.Proofs.YthkkdkccadomkaaDoor
open Go.RowKit

/-- The value of a digit, as a natural number. -/
def dgn (c : UInt8) : Nat := (dg c.toNat).toNat

/-- The number that digits make behind a number, and whether one on the way needed more than 64 bits; none where one is no digit of the base. -/
def rd (base : Nat) : List UInt8 → Nat → Bool → Option (Nat × Bool)
  | [], v, o => some (v, o)
  | c :: r, v, o => if dgn c < base then rd base r ((v * base + dgn c) % 18446744073709551616) (o || decide (18446744073709551616 ≤ v * base + dgn c)) else none

theorem cut_at (s p t : ByteArray) (c : Bool) (w : World) (ht : (⟨(Lib.trimPrefix s.data.toList p.data.toList).toArray⟩ : ByteArray) = t) (hc : Lib.hasPrefix s.data.toList p.data.toList = c) :
    Calls Tryd.prog 23 #[.string s, .string p] w fun e w' => e = .returned (.tuple #[.string t, .bool c]) ∧ w = w' := by
  subst ht; subst hc
  exact (Tryd.strings_CutPrefix s p w).mono fun _ _ h => ⟨h.1, h.2.symm⟩

theorem adder_any (base : Nat) (w : World) :
    Calls Tryd.prog 33 #[.int .u64 (base : Int)] w fun e w' => e = .returned (.func (.func 37) #[] #[.pointer (some ⟨w.heap.size, 0, none⟩)]) ∧ w' = w.alloc (.cells #[.int .u64 (base : Int)] 40) := by
  have hmf : ∀ (fn : Fn) (first cap : Array Value) (w : World), (Instr.makeFunc fn first cap).run Tryd.prog w = .ok (.func fn first cap) w := fun _ _ _ _ => rfl
  go_enter Tryd.func33, Tryd.ntmps33
  go_wp2
  go_ret
  exact ⟨rfl, rfl⟩

theorem cell_of_two {w : World} {b : Nat} {u v : Value} {t : TypeId} (h : w.heap[b]? = some (.cells #[u, v] t (0, 0))) : w.cell? ⟨b, 0, none⟩ = some u ∧ w.cell? ⟨b, 1, none⟩ = some v ∧ w.frozen? ⟨b, 0, none⟩ = false ∧ w.frozen? ⟨b, 1, none⟩ = false := by
  simp [World.cell?, World.frozen?, h]

theorem set_two0 {w : World} {b : Nat} {u v x : Value} {t : TypeId} (h : w.heap[b]? = some (.cells #[u, v] t (0, 0))) : (w.setCell ⟨b, 0, none⟩ x).heap[b]? = some (.cells #[x, v] t (0, 0)) := by
  have hlt := lt_of_block h
  have h' : w.heap[b] = .cells #[u, v] t (0, 0) := by simpa [Array.getElem?_eq_getElem hlt] using h
  show (w.heap.modify b _)[b]? = _
  rw [Array.getElem?_eq_getElem (by simpa using hlt), Array.getElem_modify_self, h']
  rfl
theorem set_two1 {w : World} {b : Nat} {u v x : Value} {t : TypeId} (h : w.heap[b]? = some (.cells #[u, v] t (0, 0))) : (w.setCell ⟨b, 1, none⟩ x).heap[b]? = some (.cells #[u, x] t (0, 0)) := by
  have hlt := lt_of_block h
  have h' : w.heap[b] = .cells #[u, v] t (0, 0) := by simpa [Array.getElem?_eq_getElem hlt] using h
  show (w.heap.modify b _)[b]? = _
  rw [Array.getElem?_eq_getElem (by simpa using hlt), Array.getElem_modify_self, h']
  rfl

/-- What 'unsigned' returns for what its digits come to. -/
def unsV (r : Option (Nat × Bool)) : Value := match r with
  | some (v, o) => .tuple #[.agg #[.int .u64 (v : Int), .bool o], .bool true]
  | none => .tuple #[.agg #[.int .u64 0, .bool false], .bool false]

def unsR (e : Bool) (r : Option (Nat × Bool)) : Value := unsV (if e then none else r)

/-- A loop's head: the iterator, the number so far, the base, the result's cell; what is still to be read makes of the number what all makes of nothing. -/
structure Head (B kb base : Nat) (t : ByteArray) (w wr : World) (pos v : Nat) (o : Bool) : Prop where
  hp : pos ≤ t.size
  hv : v < 18446744073709551616
  it : wr.heap[kb + 2]? = some (.stringIter t pos)
  m : wr.heap[kb + 1]? = some (.cells #[.int .u64 (v : Int), .bool o] 48 (0, 0))
  b : wr.heap[kb]? = some (.cells #[.int .u64 (base : Int)] 40 (0, 0))
  r : wr.heap[B]? = some (.cells #[.int .u64 0, .bool false] 48 (0, 0))
  bel : Below B w wr
  rest : rd base (t.data.toList.drop pos) v o = rd base t.data.toList 0 false

theorem heap5 (w : World) (a b c d e : Obj) : (((((w.alloc a).alloc b).alloc c).alloc d).alloc e).heap[w.heap.size]? = some a ∧ (((((w.alloc a).alloc b).alloc c).alloc d).alloc e).heap[w.heap.size + 1]? = some b ∧
    (((((w.alloc a).alloc b).alloc c).alloc d).alloc e).heap[w.heap.size + 2]? = some c ∧ (((((w.alloc a).alloc b).alloc c).alloc d).alloc e).heap[w.heap.size + 3]? = some d ∧ (((((w.alloc a).alloc b).alloc c).alloc d).alloc e).heap[w.heap.size + 4]? = some e := by
  simp only [World.alloc, Array.getElem?_push, Array.size_push]
  refine ⟨?_, ?_, ?_, ?_, ?_⟩ <;> (repeat rw [if_neg (by omega)]) <;> simp

theorem dg_high {r : Int} (h : 128 ≤ r) : dg r = 18446744073709551615 := by
  unfold dg
  rw [if_neg (by omega), if_neg (by omega), if_neg (by omega)]

theorem dg_nonneg (r : Int) : 0 ≤ dg r := by unfold dg; repeat' split <;> omega

theorem dgn_eq (c : UInt8) : dg c.toNat = (dgn c : Int) := by
  unfold dgn; have := dg_nonneg c.toNat; omega

/-- A rune of a text and the byte that it begins with are the same digit, or none. -/
theorem dg_decode (t : ByteArray) (pos : Nat) (h : pos < t.size) : dg (Utf8.decode t pos).1 = (dgn t[pos] : Int) := by
  by_cases ha : (t[pos]'h).toNat < 128
  · rw [decode_ascii t pos h ha, dgn_eq]
  · have := decode_high t pos h (by omega)
    rw [dg_high (by omega), ← dgn_eq, dg_high (by omega)]

theorem decode_one (t : ByteArray) (pos base : Nat) (h : pos < t.size) (hb : base ≤ 16) (hd : dgn t[pos] < base) : (Utf8.decode t pos).2 = 1 := by
  by_cases ha : (t[pos]'h).toNat < 128
  · rw [decode_ascii t pos h ha]
  · have h1 := dgn_eq t[pos]
    rw [dg_high (by omega)] at h1
    omega

theorem drop_at (t : ByteArray) (pos : Nat) (h : pos < t.size) : t.data.toList.drop pos = t[pos] :: t.data.toList.drop (pos + 1) := by
  rw [List.drop_eq_getElem_cons (by simpa using h)]; rfl

set_option maxHeartbeats 1000000 in
theorem uns_hex (s t : ByteArray) (w : World) (ht : (⟨(Lib.trimPrefix s.data.toList [48, 120]).toArray⟩ : ByteArray) = t) (hp : Lib.hasPrefix s.data.toList [48, 120] = true) (e : Bool) (he : t.data.toList.isEmpty = e) :
    Calls Tryd.prog 24 #[.string s] w fun e' w' => e' = .returned (unsR e (rd 16 t.data.toList 0 false)) ∧ Below w.heap.size w w' := by
  have HT := Lib.hid ht
  have HP := Lib.hid hp
  have hte : t.toList.isEmpty = e := by rw [Lib.toList_data]; exact he
  have HN := Lib.hid he
  clear ht hp he
  go_enter Tryd.func24, Tryd.ntmps24
  go_wp2_with (first | (go_at_call 33; refine (adder_any 10 _).mono ?_; rintro e w' ⟨rfl, rfl⟩) | (go_at_call 23; refine (cut_at _ _ t true _ HT.out HP.out).mono ?_; rintro e w' ⟨rfl, rfl⟩) | (go_at_call 33; refine (adder_any 16 _).mono ?_; rintro e w' ⟨rfl, rfl⟩))
  clear hte
  go_loopw [8] (fun ok wr => ∃ (pos v : Nat) (o : Bool), ok = .bool (!e) ∧ Head w.heap.size (w.heap.size + 2) 16 t w wr pos v o) (fun _ wr => t.size - wr.iterPos (w.heap.size + 4))
  case atStart =>
    refine ⟨0, 0, false, rfl, ⟨Nat.zero_le _, by decide, ?_, ?_, ?_, ?_, ?_, rfl⟩⟩
    · exact (heap5 _ _ _ _ _ _).2.2.2.2
    · exact (heap5 _ _ _ _ _ _).2.2.2.1
    · exact (heap5 _ _ _ _ _ _).2.2.1
    · exact (heap5 _ _ _ _ _ _).1
    · exact ((((((Below.refl _ _).alloc (Nat.le_refl _) _).alloc (by simp) _).alloc (by simp; omega) _).alloc (by simp; omega) _).alloc (by simp; omega) _)
  case round =>
    obtain ⟨pos, v, o, rfl, hH⟩ := hrel
    have hbase := hH.bel.size
    by_cases hlt : pos < t.size
    · have HF : Hid (e = false) := by
        have h1 := HN.out
        cases e
        · exact Lib.hid rfl
        · have h2 : t.data.toList.length = 0 := by rw [List.isEmpty_iff.1 h1]; rfl
          have h3 : t.data.size = 0 := by rw [← Array.length_toList]; exact h2
          have h4 : t.size = t.data.size := rfl
          omega
      obtain ⟨W1, hW1⟩ : ∃ W1, W1 = wr.iterAt (w.heap.size + 4) t (pos + (Utf8.decode t pos).2) := ⟨_, rfl⟩
      have hnx : ∀ ty, (Instr.next (.pointer (some ⟨w.heap.size + 4, 0, none⟩)) true ty).run Tryd.prog wr = .ok (.tuple #[.bool true, .int .i64 pos, .int .i32 (Utf8.decode t pos).1]) W1 := fun ty => hW1 ▸ Lib.run_next_any_at wr _ t pos ty hH.it hlt
      have hm1 : W1.heap[w.heap.size + 3]? = some (.cells #[.int .u64 (v : Int), .bool o] 48 (0, 0)) := by rw [hW1, Lib.iterAt_other _ _ _ _ _ (by omega)]; exact hH.m
      have hb1 : W1.heap[w.heap.size + 2]? = some (.cells #[.int .u64 (16 : Nat)] 40 (0, 0)) := by rw [hW1, Lib.iterAt_other _ _ _ _ _ (by omega)]; exact hH.b
      have hr1 : W1.heap[w.heap.size]? = some (.cells #[.int .u64 0, .bool false] 48 (0, 0)) := by rw [hW1, Lib.iterAt_other _ _ _ _ _ (by omega)]; exact hH.r
      have hi1 : W1.heap[w.heap.size + 4]? = some (.stringIter t (pos + (Utf8.decode t pos).2)) := by rw [hW1]; exact Lib.iterAt_heap _ _ _ _ _ hH.it
      have hbel1 : Below w.heap.size w W1 := by rw [hW1]; exact Lib.below_iterAt hH.bel (by omega) _ _
      have hle := decode_le t pos
      obtain ⟨c1, c2, f1, f2⟩ := cell_of_two hm1
      obtain ⟨c3, c4, f3, f4⟩ := cell_of_two hr1
      have HM := Lib.hid hm1
      have HB := Lib.hid hb1
      have HR := Lib.hid hr1
      have HI := Lib.hid hi1
      clear hW1 hm1 hb1 hr1 hi1
      have HD := Lib.hid (dg_decode t pos hlt)
      have HE := Lib.hid (drop_at t pos hlt)
      have hl3 : w.heap.size + 4 < W1.heap.size := lt_of_block HI.out
      by_cases hd : dgn t[pos] < 16
      · have hsz := hbel1.size
        go_wp2_with (go_at_call 37; refine (add_yes v 16 (dgn t[pos]) o _ _ _ hH.hv (by decide) (by omega) (by omega) HD.out HB.out hd).mono ?_; rintro e w2 ⟨rfl, hb2⟩; obtain ⟨d1, d2, g1, g2⟩ := cell_of_two ((hb2.block _ (by omega)).trans HM.out))
        have hdr := decode_one t pos 16 hlt (by decide) hd
        have hi2 := (hb2.block _ (by omega)).trans HI.out
        have hm2 := (hb2.block _ (by omega)).trans HM.out
        have hbb2 := (hb2.block _ (by omega)).trans HB.out
        have hr2 := (hb2.block _ (by omega)).trans HR.out
        rw [hdr] at hi2
        go_roundw
        case rel =>
          refine ⟨pos + 1, (v * 16 + dgn t[pos]) % 18446744073709551616, o || decide (18446744073709551616 ≤ v * 16 + dgn t[pos]), by rw [HF.out]; rfl, ⟨by omega, Nat.mod_lt _ (by decide), ?_, ?_, ?_, ?_, ?_, ?_⟩⟩
          · rw [Below.heap_setCell _ _ _ _ (by simp), Below.heap_setCell _ _ _ _ (by simp)]; exact hi2
          · have := set_two1 (x := .bool (o || decide (18446744073709551616 ≤ v * 16 + dgn t[pos]))) (set_two0 (x := .int .u64 (((v * 16 + dgn t[pos]) % 18446744073709551616 : Nat) : Int)) hm2)
            rw [show (((v * 16 + dgn t[pos]) % 18446744073709551616 : Nat) : Int) = ((v : Int) * 16 + (dgn t[pos] : Int)) % 18446744073709551616 by omega] at this
            exact this
          · rw [Below.heap_setCell _ _ _ _ (by simp), Below.heap_setCell _ _ _ _ (by simp)]; exact hbb2
          · rw [Below.heap_setCell _ _ _ _ (by simp; omega), Below.heap_setCell _ _ _ _ (by simp; omega)]; exact hr2
          · exact ((hbel1.trans (hb2.mono hbel1.size)).setCell (by simp; omega) _).setCell (by simp; omega) _
          · have hrest := hH.rest
            rw [HE.out] at hrest
            simp only [rd, if_pos hd] at hrest
            exact hrest
        case measure =>
          rw [iterPos_of hH.it, iterPos_of (s := t) (p := pos + 1) (by rw [Below.heap_setCell _ _ _ _ (by simp), Below.heap_setCell _ _ _ _ (by simp)]; exact hi2)]
          omega
      · go_wp2_with (go_at_call 37; refine (add_no v 16 (dgn t[pos]) o _ _ _ (by omega) (by omega) HD.out HB.out (by omega)).mono ?_; rintro e w2 ⟨rfl, hb2⟩; obtain ⟨d1, d2, g1, g2⟩ := cell_of_two ((hb2.block _ (by omega)).trans HM.out); obtain ⟨d3, d4, g3, g4⟩ := cell_of_two ((hb2.block _ (by omega)).trans HR.out))
        have hrest := hH.rest
        rw [HE.out] at hrest
        simp only [rd, if_neg hd] at hrest
        refine bodyPost_ret (v := .tuple #[.agg #[.int .u64 0, .bool false], .bool false]) ?_ rfl ⟨by rw [← hrest, HF.out]; rfl, ?_⟩
        · simp [results, Tryd.results24, go_sem, *]
        · exact ((((hbel1.trans (hb2.mono hbel1.size)).setCell (by simp; omega) _).setCell (by simp; omega) _).setCell (by simp) _).setCell (by simp) _
    · have hnx : ∀ ty, (Instr.next (.pointer (some ⟨w.heap.size + 4, 0, none⟩)) true ty).run Tryd.prog wr = .ok (.tuple #[.bool false]) wr := fun ty => Lib.run_next_end_at wr _ t pos ty hH.it hlt
      have hpe : pos = t.size := by have := hH.hp; omega
      have hrest := hH.rest
      rw [List.drop_eq_nil_of_le (by simp; omega)] at hrest
      simp only [rd] at hrest
      have HRE := Lib.hid hrest
      obtain ⟨d1, d2, g1, g2⟩ := cell_of_two hH.m
      obtain ⟨d3, d4, g3, g4⟩ := cell_of_two hH.r
      have hb2 := hH.bel
      clear hrest hH hpe
      go_wp2
      refine bodyPost_ret (v := .tuple #[.agg #[.int .u64 v, .bool o], .bool (!e)]) ?_ rfl ⟨?_, ?_⟩
      · simp [results, Tryd.results24, go_sem, *]
      · have h1 := HRE.out
        have h2 := HN.out
        cases e
        · rw [← h1]; rfl
        · simp only [List.isEmpty_iff] at h2
          rw [h2] at h1
          simp only [rd, Option.some.injEq, Prod.mk.injEq] at h1
          obtain ⟨rfl, rfl⟩ := h1
          rfl
      · exact ((hb2.setCell (by simp) _).setCell (by simp) _)

theorem heap4 (w : World) (a b c d : Obj) : ((((w.alloc a).alloc b).alloc c).alloc d).heap[w.heap.size]? = some a ∧ ((((w.alloc a).alloc b).alloc c).alloc d).heap[w.heap.size + 1]? = some b ∧
    ((((w.alloc a).alloc b).alloc c).alloc d).heap[w.heap.size + 2]? = some c ∧ ((((w.alloc a).alloc b).alloc c).alloc d).heap[w.heap.size + 3]? = some d := by
  simp only [World.alloc, Array.getElem?_push, Array.size_push]
  refine ⟨?_, ?_, ?_, ?_⟩ <;> (repeat rw [if_neg (by omega)]) <;> simp

set_option maxHeartbeats 1000000 in
theorem uns_dec (t u : ByteArray) (w : World) (ht : (⟨(Lib.trimPrefix t.data.toList [48, 120]).toArray⟩ : ByteArray) = u) (hp : Lib.hasPrefix t.data.toList [48, 120] = false) (e : Bool) (he : t.data.toList.isEmpty = e) :
    Calls Tryd.prog 24 #[.string t] w fun e' w' => e' = .returned (unsR e (rd 10 t.data.toList 0 false)) ∧ Below w.heap.size w w' := by
  have HT := Lib.hid ht
  have HP := Lib.hid hp
  have hte : t.toList.isEmpty = e := by rw [Lib.toList_data]; exact he
  have HN := Lib.hid he
  clear ht hp he
  go_enter Tryd.func24, Tryd.ntmps24
  go_wp2_with (first | (go_at_call 33; refine (adder_any 10 _).mono ?_; rintro e w' ⟨rfl, rfl⟩) | (go_at_call 23; refine (cut_at _ _ u false _ HT.out HP.out).mono ?_; rintro e w' ⟨rfl, rfl⟩))
  clear hte
  go_loopw [8] (fun ok wr => ∃ (pos v : Nat) (o : Bool), ok = .bool (!e) ∧ Head w.heap.size (w.heap.size + 1) 10 t w wr pos v o) (fun _ wr => t.size - wr.iterPos (w.heap.size + 3))
  case atStart =>
    refine ⟨0, 0, false, rfl, ⟨Nat.zero_le _, by decide, ?_, ?_, ?_, ?_, ?_, rfl⟩⟩
    · exact (heap4 _ _ _ _ _).2.2.2
    · exact (heap4 _ _ _ _ _).2.2.1
    · exact (heap4 _ _ _ _ _).2.1
    · exact (heap4 _ _ _ _ _).1
    · exact (((((Below.refl _ _).alloc (Nat.le_refl _) _).alloc (by simp) _).alloc (by simp; omega) _).alloc (by simp; omega) _)
  case round =>
    obtain ⟨pos, v, o, rfl, hH⟩ := hrel
    have hbase := hH.bel.size
    by_cases hlt : pos < t.size
    · have HF : Hid (e = false) := by
        have h1 := HN.out
        cases e
        · exact Lib.hid rfl
        · have h2 : t.data.toList.length = 0 := by rw [List.isEmpty_iff.1 h1]; rfl
          have h3 : t.data.size = 0 := by rw [← Array.length_toList]; exact h2
          have h4 : t.size = t.data.size := rfl
          omega
      obtain ⟨W1, hW1⟩ : ∃ W1, W1 = wr.iterAt (w.heap.size + 3) t (pos + (Utf8.decode t pos).2) := ⟨_, rfl⟩
      have hnx : ∀ ty, (Instr.next (.pointer (some ⟨w.heap.size + 3, 0, none⟩)) true ty).run Tryd.prog wr = .ok (.tuple #[.bool true, .int .i64 pos, .int .i32 (Utf8.decode t pos).1]) W1 := fun ty => hW1 ▸ Lib.run_next_any_at wr _ t pos ty hH.it hlt
      have hm1 : W1.heap[w.heap.size + 2]? = some (.cells #[.int .u64 (v : Int), .bool o] 48 (0, 0)) := by rw [hW1, Lib.iterAt_other _ _ _ _ _ (by omega)]; exact hH.m
      have hb1 : W1.heap[w.heap.size + 1]? = some (.cells #[.int .u64 (10 : Nat)] 40 (0, 0)) := by rw [hW1, Lib.iterAt_other _ _ _ _ _ (by omega)]; exact hH.b
      have hr1 : W1.heap[w.heap.size]? = some (.cells #[.int .u64 0, .bool false] 48 (0, 0)) := by rw [hW1, Lib.iterAt_other _ _ _ _ _ (by omega)]; exact hH.r
      have hi1 : W1.heap[w.heap.size + 3]? = some (.stringIter t (pos + (Utf8.decode t pos).2)) := by rw [hW1]; exact Lib.iterAt_heap _ _ _ _ _ hH.it
      have hbel1 : Below w.heap.size w W1 := by rw [hW1]; exact Lib.below_iterAt hH.bel (by omega) _ _
      have hle := decode_le t pos
      obtain ⟨c1, c2, f1, f2⟩ := cell_of_two hm1
      obtain ⟨c3, c4, f3, f4⟩ := cell_of_two hr1
      have HM := Lib.hid hm1
      have HB := Lib.hid hb1
      have HR := Lib.hid hr1
      have HI := Lib.hid hi1
      clear hW1 hm1 hb1 hr1 hi1
      have HD := Lib.hid (dg_decode t pos hlt)
      have HE := Lib.hid (drop_at t pos hlt)
      have hl3 : w.heap.size + 3 < W1.heap.size := lt_of_block HI.out
      by_cases hd : dgn t[pos] < 10
      · have hsz := hbel1.size
        go_wp2_with (go_at_call 37; refine (add_yes v 10 (dgn t[pos]) o _ _ _ hH.hv (by decide) (by omega) (by omega) HD.out HB.out hd).mono ?_; rintro e w2 ⟨rfl, hb2⟩; obtain ⟨d1, d2, g1, g2⟩ := cell_of_two ((hb2.block _ (by omega)).trans HM.out))
        have hdr := decode_one t pos 10 hlt (by decide) hd
        have hi2 := (hb2.block _ (by omega)).trans HI.out
        have hm2 := (hb2.block _ (by omega)).trans HM.out
        have hbb2 := (hb2.block _ (by omega)).trans HB.out
        have hr2 := (hb2.block _ (by omega)).trans HR.out
        rw [hdr] at hi2
        go_roundw
        case rel =>
          refine ⟨pos + 1, (v * 10 + dgn t[pos]) % 18446744073709551616, o || decide (18446744073709551616 ≤ v * 10 + dgn t[pos]), by rw [HF.out]; rfl, ⟨by omega, Nat.mod_lt _ (by decide), ?_, ?_, ?_, ?_, ?_, ?_⟩⟩
          · rw [Below.heap_setCell _ _ _ _ (by simp), Below.heap_setCell _ _ _ _ (by simp)]; exact hi2
          · have := set_two1 (x := .bool (o || decide (18446744073709551616 ≤ v * 10 + dgn t[pos]))) (set_two0 (x := .int .u64 (((v * 10 + dgn t[pos]) % 18446744073709551616 : Nat) : Int)) hm2)
            rw [show (((v * 10 + dgn t[pos]) % 18446744073709551616 : Nat) : Int) = ((v : Int) * 10 + (dgn t[pos] : Int)) % 18446744073709551616 by omega] at this
            exact this
          · rw [Below.heap_setCell _ _ _ _ (by simp), Below.heap_setCell _ _ _ _ (by simp)]; exact hbb2
          · rw [Below.heap_setCell _ _ _ _ (by simp; omega), Below.heap_setCell _ _ _ _ (by simp; omega)]; exact hr2
          · exact ((hbel1.trans (hb2.mono hbel1.size)).setCell (by simp; omega) _).setCell (by simp; omega) _
          · have hrest := hH.rest
            rw [HE.out] at hrest
            simp only [rd, if_pos hd] at hrest
            exact hrest
        case measure =>
          rw [iterPos_of hH.it, iterPos_of (s := t) (p := pos + 1) (by rw [Below.heap_setCell _ _ _ _ (by simp), Below.heap_setCell _ _ _ _ (by simp)]; exact hi2)]
          omega
      · go_wp2_with (go_at_call 37; refine (add_no v 10 (dgn t[pos]) o _ _ _ (by omega) (by omega) HD.out HB.out (by omega)).mono ?_; rintro e w2 ⟨rfl, hb2⟩; obtain ⟨d1, d2, g1, g2⟩ := cell_of_two ((hb2.block _ (by omega)).trans HM.out); obtain ⟨d3, d4, g3, g4⟩ := cell_of_two ((hb2.block _ (by omega)).trans HR.out))
        have hrest := hH.rest
        rw [HE.out] at hrest
        simp only [rd, if_neg hd] at hrest
        refine bodyPost_ret (v := .tuple #[.agg #[.int .u64 0, .bool false], .bool false]) ?_ rfl ⟨by rw [← hrest, HF.out]; rfl, ?_⟩
        · simp [results, Tryd.results24, go_sem, *]
        · exact ((((hbel1.trans (hb2.mono hbel1.size)).setCell (by simp; omega) _).setCell (by simp; omega) _).setCell (by simp) _).setCell (by simp) _
    · have hnx : ∀ ty, (Instr.next (.pointer (some ⟨w.heap.size + 3, 0, none⟩)) true ty).run Tryd.prog wr = .ok (.tuple #[.bool false]) wr := fun ty => Lib.run_next_end_at wr _ t pos ty hH.it hlt
      have hpe : pos = t.size := by have := hH.hp; omega
      have hrest := hH.rest
      rw [List.drop_eq_nil_of_le (by simp; omega)] at hrest
      simp only [rd] at hrest
      have HRE := Lib.hid hrest
      obtain ⟨d1, d2, g1, g2⟩ := cell_of_two hH.m
      obtain ⟨d3, d4, g3, g4⟩ := cell_of_two hH.r
      have hb2 := hH.bel
      clear hrest hH hpe
      go_wp2
      refine bodyPost_ret (v := .tuple #[.agg #[.int .u64 v, .bool o], .bool (!e)]) ?_ rfl ⟨?_, ?_⟩
      · simp [results, Tryd.results24, go_sem, *]
      · have h1 := HRE.out
        have h2 := HN.out
        cases e
        · rw [← h1]; rfl
        · simp only [List.isEmpty_iff] at h2
          rw [h2] at h1
          simp only [rd, Option.some.injEq, Prod.mk.injEq] at h1
          obtain ⟨rfl, rfl⟩ := h1
          rfl
      · exact ((hb2.setCell (by simp) _).setCell (by simp) _)

/-- What the digits of a numeral without its sign come to: none where it is no numeral. -/
def us (l : List UInt8) : Option (Nat × Bool) :=
  if Lib.hasPrefix l [48, 120] then (if (l.drop 2).isEmpty then none else rd 16 (l.drop 2) 0 false) else if l.isEmpty then none else rd 10 l 0 false

theorem unsigned_any (s : ByteArray) (w : World) :
    Calls Tryd.prog 24 #[.string s] w fun e w' => e = .returned (unsV (us s.data.toList)) ∧ Below w.heap.size w w' := by
  cases hp : Lib.hasPrefix s.data.toList [48, 120]
  · have := uns_dec s _ w rfl hp _ rfl
    simpa [us, hp, unsR] using this
  · have ht : Lib.trimPrefix s.data.toList [48, 120] = s.data.toList.drop 2 := by simp [Lib.trimPrefix, hp]
    have := uns_hex s ⟨(s.data.toList.drop 2).toArray⟩ w (by rw [ht]) hp _ rfl
    simpa [us, hp, unsR] using this
end Go.Proofs.YthkkdkccadomkaaDoor
