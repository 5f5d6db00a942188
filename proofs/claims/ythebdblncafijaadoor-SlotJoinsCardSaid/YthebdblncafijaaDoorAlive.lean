/- The chapter's examples: the function that all statements call answers true. Condition: the table of widths reads as laid. -/
import Derived.Test.YthebdblncafijaaDoorAll
import Derived.Test.YthebdblncafijaaDoorSame
import Derived.Deep.DeepCutAuto
namespace Go.Proofs.YthebdblncafijaaDoor
open Go.RowKit L3 L1 L4

theorem byL_src {w : World} {k o : Nat} {l : List UInt8} (h : Bytes w k o l) : ∀ j u, (byL l)[j]? = some u → w.cell? ((⟨k, o, none⟩ : Addr).add j) = some u := fun j u hu => by
  have hj : j < l.length := by
    have := (List.getElem?_eq_some_iff.1 hu).1
    rwa [byL_len] at this
  rw [show (⟨k, o, none⟩ : Addr).add j = ⟨k, o + j, none⟩ by unfold Addr.add; split <;> simp_all, h j hj]
  simpa [byL, hj] using hu

set_option maxHeartbeats 1000000 in
set_option maxRecDepth 100000 in
/-- What slices.Clone returns for some bytes: a slice of its own. -/
theorem clone_some (k o n cap : Nat) (l : List UInt8) (w : World) (hn : l.length = n) (hm : n ≤ 100000) (hB : Bytes w k o l) :
    Calls Tryd.prog 16 #[.slice (some ⟨k, o, none⟩) n cap] w fun e w' => ∃ v, e = .returned v ∧ w'.ownsRow w.heap.size 5 1 v n (byL l) ∧ Below w.heap.size w w' := by
  obtain ⟨i0, hi0, hz0, hz1, hz2⟩ := info_parts Tryd.info5
  have HB := Lib.hid (byL_src (hB.up (bnew w (.cells #[] 5))))
  have HN := Lib.hid hn
  have HO := Lib.hid (World.ownsRow_made w (base := w.heap.size) (e := 5) (size := 1) #[] 0 (Nat.le_refl _) (by decide) rfl)
  have hq : ∀ w, (binOp .eql 24 (.slice (some ⟨k, o, none⟩) n cap) (.slice none 0 0)).run Tryd.prog w = .ok (.bool false) w := fun w => by kernel_rfl
  clear hB hn
  go_enter Tryd.func16, Tryd.ntmps16
  go_wp2_with (at_builtin; refine wpList_append_own _ rfl _ _ 24 rfl w.heap.size 5 i0 (.int .u8 0) 1 1 Tryd.underlying24 hi0 hz0 hz1 hz2 rfl (by decide) _ 0 _ rfl HO.out ⟨k, o, none⟩ n cap (byL l) rfl (by rw [byL_len, HN.out]; omega) HB.out (byL_one _) (by unfold maxLen; omega) (by omega) (by simp) ?_; intro v' w3 hown3 hgrow3 _)
  go_ret
  refine ⟨_, rfl, by simpa using hown3, (bnew w _).grown hgrow3 (by simp) (own_base HO.out)⟩

/-- The cells of some instructions. -/
def insL (l : List Ix) : List Value := l.flatMap fun x => x.cs.toList
theorem insL_map (r : List Rdg) : insC r = insL (r.map fun x => x.x) := by simp [insC, insL, List.flatMap_map]
theorem insL_at : ∀ (l : List Ix) (i : Nat) (h : i < l.length) (m : Nat) (u : Value), l[i].cs[m]? = some u → (insL l)[i * 6 + m]? = some u
  | x :: l, 0, _, m, u, hu => by
    have hm : m < 6 := by
      have := (Array.getElem?_eq_some_iff.1 hu).1
      simpa using this
    simp only [insL, List.flatMap_cons]
    rw [List.getElem?_append_left (by simpa using hm)]
    simpa using hu
  | x :: l, i + 1, h, m, u, hu => by
    have := insL_at l i (by simpa using h) m u (by simpa using hu)
    simp only [insL, List.flatMap_cons]
    rw [List.getElem?_append_right (by simp; omega)]
    have e : (i + 1) * 6 + m - x.cs.toList.length = i * 6 + m := by simp; omega
    rw [e]
    exact this
theorem insL_length : ∀ l : List Ix, (insL l).length = 6 * l.length
  | [] => rfl
  | x :: l => by
    have := insL_length l
    simp only [insL, List.flatMap_cons, List.length_append, List.length_cons] at this ⊢
    rw [this]
    simp
    omega
theorem own_ins {w : World} {base : Nat} {v : Value} {n : Nat} {l : List Ix} (h : w.ownsRow base 23 6 v n (insL l)) : InAt w v l := by
  have hl : l.length = n := by have := h.1; rw [insL_length] at this; omega
  subst hl
  rcases h.2 with ⟨rfl, h0⟩ | ⟨g, cap, cur, rfl, hb, hg, hnc, hcm, hcs, htk⟩
  · have : l = [] := List.eq_nil_of_length_eq_zero h0
    subst this
    exact ⟨none, 0, rfl, .inl rfl⟩
  · refine ⟨_, cap, rfl, .inr ⟨g, 0, rfl, fun i hi m u hu => ?_⟩⟩
    have h1 := insL_at l i hi m u hu
    rw [← htk, List.getElem?_take] at h1
    split at h1
    · rw [Nat.zero_add]
      exact cell_of hg (by simpa using h1)
    · cases h1

def xA : Ix := ⟨68, false, 0, 0, 0, 0⟩
def xB : Ix := ⟨84, false, 1, 0, 0, 4294967301⟩
def bA : List UInt8 := [149, 0, 0, 0, 0, 0, 0, 0]
def bB : List UInt8 := [24, 1, 0, 0, 5, 0, 0, 0, 0, 0, 0, 0, 1, 0, 0, 0]
theorem encA : xA.bytes = bA := by decide +kernel
theorem encB : xB.bytes = bB := by decide +kernel
theorem okA : xA.err = 0 := by decide +kernel
theorem okB : xB.err = 0 := by decide +kernel
theorem decB : decF bB = (xB, 2, 0) := by kernel_rfl
theorem decA : decF bA = (xA, 1, 0) := by kernel_rfl
theorem decBA : decF (bB ++ bA) = (xB, 2, 0) := by kernel_rfl
theorem rdsBA : rds 24 0 (bB ++ bA) = [⟨0, xB, 0⟩, ⟨2, xA, 0⟩] := by
  rw [rds_go 23 0 2 _ (by decide) (by rw [decBA]) (by rw [decBA]; rfl), decBA, show (bB ++ bA).drop (8 * 2) = bA from rfl, rds_go 22 (0 + 2) 1 _ (by decide) (by rw [decA]) (by rw [decA]; rfl), decA, show bA.drop (8 * 1) = [] from rfl, rds_nil]
theorem fitA : xA.fits := by unfold Ix.fits xA; decide
theorem fitB : xB.fits := by unfold Ix.fits xB; decide

theorem dec_is (v : Value) (l : List UInt8) (x : Ix) (n er : Int) (w : World) (hw : Wid w) (hv : BsAt w v l) (hd : decF l = (x, n, er)) :
    Calls Tryd.prog 14 #[v] w fun e w' => e = .returned (.tuple #[.agg #[.int .i64 x.op, .bool x.reg, .int .i64 x.dst, .int .i64 x.src, .int .i64 x.off, .int .i64 x.imm], .int .i64 n, .int .i64 er]) ∧ Below w.heap.size w w' := by
  have := decode_any v l w hw hv
  rw [hd] at this
  exact this
/-- What All returns, in words on slices. -/
theorem all_ok (v : Value) (l : List UInt8) (r : List Rdg) (n : Nat) (w : World) (hw : Wid w) (hl : l.length ≤ 100000) (hv : BsAt w v l) (hr : rds l.length 0 l = r) (h0 : (la r).e = 0) (hn : r.length = n) :
    Calls Tryd.prog 17 #[v] w fun e w' => ∃ a c, e = .returned (.tuple #[.slice a n c, .int .i64 0, .int .i64 0]) ∧ InAt w' (.slice a n c) (r.map fun x => x.x) ∧ Below w.heap.size w w' := by
  subst hn
  obtain ⟨ad, cap, rfl, h1⟩ := hv
  refine (all_at ad cap l l.length (Nat.le_refl _) hl w hw ⟨ad, cap, rfl, h1⟩).mono fun e w' h => ?_
  rw [hr] at h
  obtain ⟨h, hb⟩ := h
  rcases h with ⟨h, -⟩ | ⟨-, v', rfl, ho⟩
  · exact absurd h0 h
  · obtain ⟨a, c, rfl⟩ := owns_slice ho
    rw [insL_map] at ho
    exact ⟨a, c, rfl, own_ins ho, hb⟩
theorem all_no (v : Value) (l : List UInt8) (r : List Rdg) (w : World) (hw : Wid w) (hl : l.length ≤ 100000) (hv : BsAt w v l) (hr : rds l.length 0 l = r) (h0 : (la r).e ≠ 0) :
    Calls Tryd.prog 17 #[v] w fun e w' => e = .returned (.tuple #[.slice none 0 0, .int .i64 ((la r).at' : Int), .int .i64 (la r).e]) ∧ Below w.heap.size w w' := by
  obtain ⟨ad, cap, rfl, h1⟩ := hv
  refine (all_at ad cap l l.length (Nat.le_refl _) hl w hw ⟨ad, cap, rfl, h1⟩).mono fun e w' h => ?_
  rw [hr] at h
  obtain ⟨h, hb⟩ := h
  rcases h with ⟨-, rfl⟩ | ⟨h, -⟩
  · exact ⟨rfl, hb⟩
  · refine absurd ?_ h0
    cases r with
    | nil => rfl
    | cons y q => exact h _ (by simp only [la]; rw [List.getLastD_eq_getLast?, List.getLast?_eq_some_getLast (by simp)]; exact List.getLast_mem _)
theorem join_ok (v : Value) (xs : List Ix) (n : Nat) (w : World) (hw : Wid w) (hm : xs.length ≤ 100000) (hv : InAt w v xs) (hf : ∀ x ∈ xs, x.fits) (h0 : ∀ x ∈ xs, x.err = 0) (hn : (joinB xs).length = n) :
    Calls Tryd.prog 20 #[v] w fun e w' => ∃ a c, e = .returned (.tuple #[.slice a n c, .int .i64 0, .int .i64 0]) ∧ BsAt w' (.slice a n c) (joinB xs) ∧ Below w.heap.size w w' := by
  subst hn
  refine (join_at v xs w hw hm hv hf).mono fun e w' h => ?_
  obtain ⟨h, hb⟩ := h
  rcases h with ⟨p, x, q, rfl, -, h, -⟩ | ⟨-, v', rfl, ho⟩
  · exact absurd (h0 x (by simp)) h
  · obtain ⟨a, c, rfl⟩ := owns_slice ho
    exact ⟨a, c, rfl, own_bytes ho, hb⟩

theorem encA_is (w : World) (hw : Wid w) : Calls Tryd.prog 9 #[.agg #[.int .i64 68, .bool false, .int .i64 0, .int .i64 0, .int .i64 0, .int .i64 0]] w fun e w' => ∃ k, e = .returned (.tuple #[.slice (some ⟨k, 0, none⟩) 8 8, .int .i64 0]) ∧ w'.heap[k]? = some (.cells (byC bA) 5) ∧ Below w.heap.size w w' :=
  (enc_is xA bA 8 w hw fitA okA encA rfl).mono fun _ _ ⟨k, _, h1, h2, h3⟩ => ⟨k, h1, h2, h3⟩
theorem encB_is (w : World) (hw : Wid w) : Calls Tryd.prog 9 #[.agg #[.int .i64 84, .bool false, .int .i64 1, .int .i64 0, .int .i64 0, .int .i64 4294967301]] w fun e w' => ∃ k, e = .returned (.tuple #[.slice (some ⟨k, 0, none⟩) 16 16, .int .i64 0]) ∧ w'.heap[k]? = some (.cells (byC bB) 5) ∧ Below w.heap.size w w' :=
  (enc_is xB bB 16 w hw fitB okB encB rfl).mono fun _ _ ⟨k, _, h1, h2, h3⟩ => ⟨k, h1, h2, h3⟩
theorem decB_is (v : Value) (w : World) (hw : Wid w) (hv : BsAt w v bB) : Calls Tryd.prog 14 #[v] w fun e w' => e = .returned (.tuple #[.agg #[.int .i64 84, .bool false, .int .i64 1, .int .i64 0, .int .i64 0, .int .i64 4294967301], .int .i64 2, .int .i64 0]) ∧ Below w.heap.size w w' := dec_is v bB xB 2 0 w hw hv decB
theorem all_ex (v : Value) (w : World) (hw : Wid w) (hv : BsAt w v (bB ++ bA)) : Calls Tryd.prog 17 #[v] w fun e w' => ∃ a c, e = .returned (.tuple #[.slice a 2 c, .int .i64 0, .int .i64 0]) ∧ InAt w' (.slice a 2 c) [xB, xA] ∧ Below w.heap.size w w' :=
  all_ok v (bB ++ bA) _ 2 w hw (by decide) hv rdsBA rfl rfl
theorem join_ex (v : Value) (w : World) (hw : Wid w) (hv : InAt w v [xB, xA]) : Calls Tryd.prog 20 #[v] w fun e w' => ∃ a c, e = .returned (.tuple #[.slice a 24 c, .int .i64 0, .int .i64 0]) ∧ Below w.heap.size w w' :=
  (join_ok v [xB, xA] 24 w hw (by decide) hv (by simp [fitA, fitB]) (by simp [okA, okB]) (by simp [joinB, encA, encB, bA, bB])).mono fun _ _ ⟨a, c, h1, _, h2⟩ => ⟨a, c, h1, h2⟩
theorem eql_ins (w : World) : (binOp .eql 23 (.agg #[.int .i64 84, .bool false, .int .i64 1, .int .i64 0, .int .i64 0, .int .i64 4294967301]) (.agg #[.int .i64 84, .bool false, .int .i64 1, .int .i64 0, .int .i64 0, .int .i64 4294967301])).run Tryd.prog w = .ok (.bool true) w := by kernel_rfl
theorem row_up {w w' : World} {k : Nat} {cs : Array Value} {t : TypeId} (h : w.heap[k]? = some (.cells cs t)) (hb : Below w.heap.size w w') : w'.heap[k]? = some (.cells cs t) := (hb.block _ (lt_of_block h)).trans h
theorem lit_bytes {w : World} {k n : Nat} {l : List UInt8} {cs : Array Value} (h : w.heap[k]? = some (.cells cs 5)) (hc : cs = byC l) (hn : l.length = n) : BsV w (.slice (some ⟨k, 0, none⟩) n n) l := by
  subst hc; subst hn
  exact ⟨_, _, rfl, .inr ⟨k, 0, rfl, .row h⟩⟩

theorem litA_at (w : World) : BsV (w.alloc (.cells #[.int .u8 149, .int .u8 0, .int .u8 0, .int .u8 0, .int .u8 0, .int .u8 0, .int .u8 0, .int .u8 0] 5)) (.slice (some ⟨w.heap.size, 0, none⟩) 8 8) bA := lit_bytes (heap_alloc_last w _) rfl rfl
theorem rowA_at {w : World} {k : Nat} (h : w.heap[k]? = some (.cells (byC bA) 5)) : BsV w (.slice (some ⟨k, 0, none⟩) 8 8) bA := lit_bytes h rfl rfl
theorem litB_at (w : World) : BsV (w.alloc (.cells #[.int .u8 24, .int .u8 1, .int .u8 0, .int .u8 0, .int .u8 5, .int .u8 0, .int .u8 0, .int .u8 0, .int .u8 0, .int .u8 0, .int .u8 0, .int .u8 0, .int .u8 1, .int .u8 0, .int .u8 0, .int .u8 0] 5)) (.slice (some ⟨w.heap.size, 0, none⟩) 16 16) bB := lit_bytes (heap_alloc_last w _) rfl rfl
theorem rowB_at {w : World} {k : Nat} (h : w.heap[k]? = some (.cells (byC bB) 5)) : BsV w (.slice (some ⟨k, 0, none⟩) 16 16) bB := lit_bytes h rfl rfl

set_option maxHeartbeats 4000000 in
set_option maxRecDepth 100000 in
theorem alive_any (w : World) (hw : Wid w) : Calls Tryd.prog 11 #[] w fun e w' => e = .returned (.bool true) ∧ Below w.heap.size w w' := by
  obtain ⟨i0, hi0, hz0, hz1, hz2⟩ := info_parts Tryd.info5
  have HW := Lib.hid hw
  clear hw
  go_enter Tryd.func11, Tryd.ntmps11
  go_upto_region 3 with (first | (go_at_call 9; ((with_reducible refine (encA_is _ HW.out).mono ?_); rintro e w1 ⟨ka, rfl, ha, b1⟩)) | (go_at_call 9; ((with_reducible refine (encB_is _ (wid_below HW.out b1)).mono ?_); rintro e w2 ⟨kb, rfl, hb, b2⟩)))
  have B2 := bch b1 b2
  have ha2 := row_up ha b2
  have HB := Lib.hid (row_bytes (n := 16) hb rfl (by unfold maxLen; omega))
  have HBy : Bytes w2 kb 0 bB := .row hb
  go_upto_region 4 with (go_at_call 14; ((with_reducible refine (decB_is _ _ (wid_below HW.out B2) HB.out).mono ?_); rintro e w3 ⟨rfl, b3⟩))
  have b3' := bch b3 (bnew w3 (.cells #[.int .i64 84, .bool false, .int .i64 1, .int .i64 0, .int .i64 0, .int .i64 4294967301] 23))
  have hx := heap_alloc_last w3 (.cells #[.int .i64 84, .bool false, .int .i64 1, .int .i64 0, .int .i64 0, .int .i64 4294967301] 23)
  have B3 := bch B2 b3'
  have ha3 := row_up ha2 b3'
  have hb3 := row_up hb b3'
  obtain ⟨g, hg⟩ : ∃ g, g = w3.heap.size := ⟨_, rfl⟩
  rw [← hg] at hx ⊢
  generalize w3.alloc _ = W3 at hx B3 ha3 hb3 ⊢
  clear hg b3 b3' ha2 HBy HB ha hb b1 b2 B2
  have HBy := Lib.hid (Bytes.row hb3)
  go_upto_region 5 with (first | (go_at_call 16; ((with_reducible refine (clone_some kb 0 16 _ bB _ rfl (by decide) HBy.out).mono ?_); rintro e w4 ⟨v4, rfl, hown4, b4⟩; have ha4 := row_up ha3 b4)) | (at_builtin; refine wpList_append_own _ rfl _ _ 24 rfl W3.heap.size 5 i0 (.int .u8 0) 1 1 Tryd.underlying24 hi0 hz0 hz1 hz2 rfl (by decide) _ 16 _ rfl hown4 ⟨ka, 0, none⟩ 8 8 (byL bA) rfl rfl (byL_at ha4) (byL_one _) (by unfold maxLen; omega) (by omega) b4.size ?_; intro v5 w5 hown5 hgrow5 _; have b5 := b4.grown hgrow5 b4.size (own_base hown4); have B5 := B3.trans (b5.mono B3.size); rw [← byL_append] at hown5) | (go_at_call 17; ((with_reducible refine (all_ex _ _ (wid_below HW.out B5) (own_bytes hown5)).mono ?_); rintro e w6 ⟨a6, c6, rfl, hin6, b6⟩)))
  have B6 := bch B5 b6
  have U6 : Below W3.heap.size W3 w6 := b5.trans (b6.mono b5.size)
  have ha6 := row_up ha3 U6
  have hb6 := row_up hb3 U6
  have hx6 := row_up hx U6
  have hq := eql_ins
  clear ha3 hb3 hx HBy hown4 hown5 hgrow5 b4 ha4 b5 b6 U6 hi0 hz0 hz1 hz2
  go_upto_region 6 with (first | (go_at_call 20; ((with_reducible refine (join_ex _ _ (wid_below HW.out B6) hin6).mono ?_); rintro e w7 ⟨a7, c7, rfl, b7⟩)))
  have B7 := bch B6 b7
  have ha7 := row_up ha6 b7
  have hb7 := row_up hb6 b7
  have hx7 := row_up hx6 b7
  clear ha6 hb6 hx6 b7
  go_wp2_with (first | (go_at_call 12; ((with_reducible refine (same_at _ _ bA _ (by decide) (rowA_at (row_up ha7 (bnew w7 _))) (litA_at w7)).mono ?_); rintro e w8 ⟨rfl, b8⟩; have u8 := bch (bnew w7 _) b8; have hb8 := row_up hb7 u8)) | (go_at_call 12; ((with_reducible refine (same_at _ _ bB _ (by decide) (rowB_at (row_up hb8 (bnew w8 _))) (litB_at w8)).mono ?_); rintro e w9 ⟨rfl, b9⟩; have u9 := bch (bnew w8 _) b9; obtain ⟨x0, x1, x2, x3, x4, x5⟩ := cells6 (row_up (row_up hx7 u8) u9))))
  go_ret
  exact ⟨rfl, bch (bch B7 u8) u9⟩
end Go.Proofs.YthebdblncafijaaDoor
