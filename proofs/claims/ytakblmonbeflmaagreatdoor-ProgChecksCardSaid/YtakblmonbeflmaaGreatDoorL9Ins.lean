/- What the program's instruction returns, for the tokens behind an operation's name. Condition: memory holds the tokens, and the tables read as the program's text lays them. -/
import Derived.Test.YtakblmonbeflmaaGreatDoorL9Row
import Derived.Test.YtakblmonbeflmaaGreatDoorM6
namespace Go.Proofs.YtakblmonbeflmaaGreatDoor.L9
open Go.RowKit
attribute [local go_sem] Oper.semAt_some

/-- An instruction with its names, as values. -/
abbrev codA (x : Ins) (tg mp : ByteArray) : Array Value := #[.int .i64 x.op, .bool x.reg, .int .i64 x.dst, .int .i64 x.src, .int .i64 x.off, .int .i64 x.imm, .string tg, .string mp]
structure Cod where
  x : Ins
  tg : ByteArray
  mp : ByteArray
def Cod.z : Cod := ⟨Ins.z, ⟨#[]⟩, ⟨#[]⟩⟩
def st0 (op : Int) (q : List ByteArray) : St := ⟨q, ⟨op, false, 0, 0, 0, 0⟩, ⟨#[]⟩, ⟨#[]⟩⟩
/-- What the operands are read as. -/
def inR (op : Int) (q : List ByteArray) : Cod × Int :=
  let r := runs (ksV (L3.frm (L3.ix op))) (st0 op q)
  if r.2 ≠ 0 then (Cod.z, r.2) else (⟨r.1.x, r.1.tg, r.1.mp⟩, 0)
def inV (t : ByteArray) (q : List ByteArray) : Cod × Int :=
  if fiV t < 0 then (Cod.z, 6)
  else if (shV (L3.frm (L3.ix (fiV t)))).any (fun x => decide (x = shpB q)) = false then (Cod.z, 2)
  else inR (fiV t) q
theorem cells8 {w : World} {k : Nat} {a b c d e f g h : Value} {t : TypeId} (hh : w.heap[k]? = some (.cells #[a, b, c, d, e, f, g, h] t)) :
    w.cell? ⟨k, 0, none⟩ = some a ∧ w.cell? ⟨k, 1, none⟩ = some b ∧ w.cell? ⟨k, 2, none⟩ = some c ∧ w.cell? ⟨k, 3, none⟩ = some d ∧ w.cell? ⟨k, 4, none⟩ = some e ∧ w.cell? ⟨k, 5, none⟩ = some f ∧ w.cell? ⟨k, 6, none⟩ = some g ∧ w.cell? ⟨k, 7, none⟩ = some h := by
  simp [World.cell?, hh]
abbrev codZ : Array Value := #[.int .i64 0, .bool false, .int .i64 0, .int .i64 0, .int .i64 0, .int .i64 0, .string ⟨#[]⟩, .string ⟨#[]⟩]
set_option maxHeartbeats 1000000 in
set_option maxRecDepth 100000 in
theorem inst_no (t : ByteArray) (v : Value) (w : World) (hs : t.size ≤ maxLen) (h : fiV t < 0) :
    Calls Tryz.prog 112 #[.string t, v] w fun e w' => e = .returned (.tuple #[.agg codZ, .int .i64 6]) ∧ Below w.heap.size w w' := by
  have hb : (L3.fnd t 86).2 = false := by
    rcases fnd_fiV t with ⟨_, hb⟩ | ⟨k, _, hk, _⟩
    · exact hb
    · omega
  obtain ⟨n, hn⟩ : ∃ n, (L3.fnd t 86).1 = n := ⟨_, rfl⟩
  have HF := Lib.hid (fun w => L3.find_at t hs n false w hn hb)
  clear hn hb h
  go_enter Tryz.func112, Tryz.ntmps112
  go_wp2_with (first | (go_at_call 124; ((with_reducible refine (HF.out _).mono ?_); rintro e w1 ⟨rfl, b1⟩; have hS := row_up (heap_alloc_last w (.cells codZ 106)) b1)) | (refine wpList_store_row rfl _ _ _ rfl w.heap.size codZ rfl rfl 106 _ hS (by kernel_rfl) rfl (by simp [Value.oneCell']) ?_))
  have hR := setRow_heap _ _ _ codZ _ _ hS
  obtain ⟨q0, q1, q2, q3, q4, q5, q6, q7⟩ := cells8 hR
  exact bodyPost_ret (v := .tuple #[.agg codZ, .int .i64 6]) (by simp [results, Tryz.results112, go_sem, q0, q1, q2, q3, q4, q5, q6, q7]) rfl ⟨rfl, below_setRow (L2.bch (L8.bnew w _) b1) (Nat.le_refl _) _⟩
/-- A new reader. -/
theorem rd_new {w w1 : World} {b o n cap : Nat} {xs : L8.Tks} (op : Int) (hb : b < w.heap.size) (hc : L8.Tksat w b o xs) (hn : xs.length = n) (hcp : n ≤ cap) (hm : n ≤ 100000) (hz : ∀ t ∈ txs xs, t.size ≤ 100000) (h1 : Below w.heap.size w w1) :
    RdAt w.heap.size w1.heap.size (w1.alloc (.cells #[.slice (some ⟨b, o, none⟩) n cap, .int .i64 op, .bool false, .int .i64 0, .int .i64 0, .int .i64 0, .int .i64 0, .string ⟨#[]⟩, .string ⟨#[]⟩] 166)) (st0 op (txs xs)) :=
  ⟨b, o, n, cap, xs, hb, h1.size, hcp, hn, hm, rfl, hz, hc.below hb (L2.bch h1 (L8.bnew _ _)), heap_alloc_last _ _⟩
theorem kin_f {t : ByteArray} (h : ¬ fiV t < 0) : ∃ k : Nat, k < 86 ∧ fiV t = (k : Int) ∧ (L3.fnd t 86).1 = (k : Int) ∧ (L3.fnd t 86).2 = true ∧ 0 ≤ L3.frm (L3.ix (fiV t)) ∧ L3.frm (L3.ix (fiV t)) ≤ 11 := by
  rcases fnd_fiV t with ⟨h1, _⟩ | ⟨k, hk, e, hf⟩
  · exact absurd h1 h
  · have hx : L3.ix (fiV t) = k := by rw [e]; unfold L3.ix; rw [if_pos (by omega)]; simp
    exact ⟨k, hk, e, by rw [hf], by rw [hf], by rw [hx]; exact frm_in k hk⟩
theorem sh_le (f : Int) : (shV f).length ≤ 100 := by
  unfold shV
  split <;> (try split) <;> (try split) <;> (try split) <;> (try split) <;> (try split) <;> (try split) <;> decide
theorem row_gr {w w' : World} {k g : Nat} {cs : Array Value} {t : TypeId} (h : w.heap[k]? = some (.cells cs t)) (hg : w.grownBy w' (some g)) (hne : k ≠ g) : w'.heap[k]? = some (.cells cs t) := (hg.block _ (lt_of_block h) (by simpa using hne)).trans h
set_option maxHeartbeats 2000000 in
set_option maxRecDepth 100000 in
theorem inst_bad (t : ByteArray) (b o n cap : Nat) (xs : L8.Tks) (w : World) (hs : t.size ≤ maxLen) (hb : b < w.heap.size) (hc : L8.Tksat w b o xs) (hn : xs.length = n) (hcp : n ≤ cap) (hm : n ≤ 100000) (hz : ∀ t ∈ txs xs, t.size ≤ 100000) (hxt : ∀ t ∈ L8.txt xs, L8.TokT t) (h : ¬ fiV t < 0) (hk : (shV (L3.frm (L3.ix (fiV t)))).any (fun x => decide (x = shpB (txs xs))) = false) :
    Calls Tryz.prog 112 #[.string t, .slice (some ⟨b, o, none⟩) n cap] w fun e w' => e = .returned (.tuple #[.agg codZ, .int .i64 2]) ∧ Below w.heap.size w w' := by
  obtain ⟨k, hk86, e, f1, f2, hf⟩ := kin_f h
  rw [e] at hk hf
  obtain ⟨f, hfe⟩ : ∃ f, L3.frm (L3.ix (k : Int)) = f := ⟨_, rfl⟩
  rw [hfe] at hk hf
  have HF := Lib.hid (fun w => L3.find_at t hs (k : Int) true w f1 f2)
  have HROW := Lib.hid (fun (W : World) (g : Nat) (hr : RdAt w.heap.size g W (st0 (k : Int) (txs xs))) => row_at w.heap.size g _ W hr f hfe hf)
  have HNEW := Lib.hid (fun (w1 : World) (h1 : Below w.heap.size w w1) => rd_new (k : Int) hb hc hn hcp hm hz h1)
  have HSH := Lib.hid (fun (W : World) (hB : Below w.heap.size w W) => L8.shape8 xs (.slice (some ⟨b, o, none⟩) n cap) W (by omega) hxt (.inl ⟨b, o, cap, by rw [hn], by omega, Nat.lt_of_lt_of_le hb hB.size, hc.below hb hB⟩))
  rw [shp_txs] at HSH
  have HCO := Lib.hid (fun (W : World) (v : Value) (hv : L8.StAt W v (shV f)) => contains_at v (shV f) (sh_le f) (shpB (txs xs)) false W hv hk)
  clear hk hf hfe f1 f2 e h hxt hz hm hcp hn hc
  go_enter Tryz.func112, Tryz.ntmps112
  go_wp2_with (first
    | (go_at_call 124; ((with_reducible refine (HF.out _).mono ?_); rintro e w1 ⟨rfl, b1⟩; have hS := row_up (heap_alloc_last w (.cells codZ 106)) b1; have B1 := L2.bch (L8.bnew w _) b1))
    | (go_at_call 125; ((with_reducible refine (HROW.out _ _ (HNEW.out _ B1)).mono ?_); rintro e w3 ⟨v1, v2, rfl, hst, hfn, b3⟩; have hS3 := row_up (row_up hS (L8.bnew w1 _)) b3; have B3 := L2.bch (L2.bch B1 (L8.bnew w1 _)) b3; clear hS hfn))
    | (go_at_call 109; ((with_reducible refine (HSH.out _ B3).mono ?_); rintro e w4 ⟨rfl, b4⟩; have hS4 := row_up hS3 b4; have B4 := L2.bch B3 b4; have hst4 := hst.below b4; clear hst hS3))
    | (go_at_call 17; ((with_reducible refine (HCO.out _ _ hst4).mono ?_); rintro e w5 ⟨rfl, rfl⟩))
    | (refine wpList_store_row rfl _ _ _ rfl w.heap.size codZ rfl rfl 106 _ hS4 (by kernel_rfl) rfl (by simp [Value.oneCell']) ?_))
  have hR := setRow_heap _ _ _ codZ _ _ hS4
  obtain ⟨q0, q1, q2, q3, q4, q5, q6, q7⟩ := cells8 hR
  exact bodyPost_ret (v := .tuple #[.agg codZ, .int .i64 2]) (by simp [results, Tryz.results112, go_sem, q0, q1, q2, q3, q4, q5, q6, q7]) rfl ⟨rfl, below_setRow B4 (Nat.le_refl _) _⟩
end Go.Proofs.YtakblmonbeflmaaGreatDoor.L9
