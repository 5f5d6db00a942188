/- What strings.Builder's WriteString and WriteByte do to a builder of the call's own: the bytes stand behind those that it held. Condition: at most 2^47 bytes. -/
/- What print's declaration and Def return: the text of a declaration. Condition: the tables read as the program's text lays them. -/
/- What print's Def returns, and what lines returns: the texts with a line feed behind each. Condition: the tables read as the program's text lays them. -/
import Derived.Test.YtbneaihpnfkcdaaGreatDoorShelg
import Derived.KernelRfl
import Derived.Lib.AppendStr
import Derived.Test.YtbneaihpnfkcdaaGreatDoorM21
import Derived.Test.YtbneaihpnfkcdaaGreatDoorM13

section
namespace Go.Proofs.YtbneaihpnfkcdaaGreatDoor.L11
open Go.RowKit

abbrev bT : TypeId := 80
abbrev bE : TypeId := 5
theorem bSize : (Tryz.prog.info? bT).map (·.size) = some 2 := by kernel_rfl
theorem bLies : liesAt Tryz.prog Tryz.prog.depth bT (2 / Tryz.prog.cellsOf bT) 0 bT 1 = true := by kernel_rfl
theorem eInfo : (Tryz.prog.info? bE).map (fun i => (i.zero, i.size, i.bytes)) = some (some (.int .u8 0), 1, 1) := by kernel_rfl
section
variable {B b : Nat} {bs : List Value} {w : World}
set_option maxHeartbeats 1000000 in
set_option maxRecDepth 100000 in
theorem ccheck_used (h0 : w.cell? ⟨b, 0, none⟩ = some (.pointer (some ⟨b, 0, none⟩))) : Calls Tryz.prog 86 #[.pointer (some ⟨b, 0, none⟩)] w fun e w' => e = .returned (.tuple #[]) ∧ w' = w := by
  obtain ⟨j, hj, _⟩ := Option.map_eq_some_iff.1 bSize
  go_enter Tryz.func86, Tryz.ntmps86
  go_wp2
  rw [Lib.run_neq_ptr_same w _ Tryz.underlying77 hj]
  go_wp2
  go_end0
  exact ⟨rfl, rfl⟩
set_option maxHeartbeats 1000000 in
set_option maxRecDepth 100000 in
theorem ccheck_new (h0 : w.cell? ⟨b, 0, none⟩ = some (.pointer none)) (hsh : w.shape? b = some (bT, 2)) (hfz : w.frozen? ⟨b, 0, none⟩ = false) :
    Calls Tryz.prog 86 #[.pointer (some ⟨b, 0, none⟩)] w fun e w' => e = .returned (.tuple #[]) ∧ w' = w.setCell ⟨b, 0, none⟩ (.pointer (some ⟨b, 0, none⟩)) := by
  obtain ⟨j, hj, hjs⟩ := Option.map_eq_some_iff.1 bSize
  go_enter Tryz.func86, Tryz.ntmps86
  go_wp2
  rw [Lib.run_to_unsafe w ⟨b, 0, none⟩ Tryz.underlying77 Tryz.underlying155 hj (by rw [hjs]; decide) hsh (Nat.zero_lt_succ 1)]
  simp only [Result.andThen]
  rw [Oper.upon_value]
  go_wp2
  rw [run_callFunc_extern Tryz.func120 (by kernel_rfl) (by kernel_rfl) (by kernel_rfl) (e := Extern.AbiNoEscape.same) (by kernel_rfl)]
  rw [Lib.run_noEscape]
  simp only [Result.andThen]
  rw [Oper.upon_value]
  go_wp2
  rw [Lib.run_from_unsafe w ⟨b, 0, none⟩ Tryz.underlying155 Tryz.underlying77 hj hsh bLies]
  simp only [Result.andThen]
  rw [Oper.upon_value]
  go_wp2
  go_end0
  exact ⟨rfl, rfl⟩
abbrev BdAt (B b : Nat) (bs : List Value) (w : World) : Prop := Lib.BuilderAt bT bE B b (.pointer (some ⟨b, 0, none⟩)) bs w
theorem ccheck_at (h : Lib.IsBuilder bT bE B b bs w) : Calls Tryz.prog 86 #[.pointer (some ⟨b, 0, none⟩)] w fun e w' => e = .returned (.tuple #[]) ∧ BdAt B b bs w' ∧ Below B w w' := by
  rcases h with h | h
  · refine (ccheck_new h.cell0 h.shape h.frozen0).mono ?_
    rintro e w' ⟨rfl, rfl⟩
    exact ⟨rfl, h.used _, (Below.refl B w).setCell (p := ⟨b, 0, none⟩) h.1 _⟩
  · refine (ccheck_used h.cell0).mono ?_
    rintro e w' ⟨rfl, rfl⟩
    exact ⟨rfl, h, Below.refl B _⟩
theorem bd_cells {p v : Value} (h : w.heap[b]? = some (.cells #[p, v] bT)) : b < w.heap.size ∧ w.cell? ⟨b, 0, none⟩ = some p ∧ w.cell? ⟨b, 1, none⟩ = some v ∧ w.frozen? ⟨b, 1, none⟩ = false :=
  ⟨lt_of_block h, by simp [World.cell?, h], by simp [World.cell?, h], by simp [World.frozen?, h]⟩
set_option maxHeartbeats 2000000 in
set_option maxRecDepth 100000 in
theorem wstring_at (s : ByteArray) (h : Lib.IsBuilder bT bE B b bs w) (hl : bs.length + s.size ≤ 140737488355328) (hB : B ≤ w.heap.size) :
    Calls Tryz.prog 46 #[.pointer (some ⟨b, 0, none⟩), .string s] w fun e w' => e = .returned (.tuple #[.int .i64 s.size, .nilIface]) ∧ BdAt B b (bs ++ Lib.strCells s) w' ∧ Below B w w' := by
  obtain ⟨i, hi, z0, z1, z2⟩ := info_parts eInfo
  have HC := Lib.hid (ccheck_at h)
  clear h
  go_enter Tryz.func46, Tryz.ntmps46
  go_wp2_with (go_at_call 86; refine (HC.out).mono ?_)
  rintro e w1 ⟨rfl, h1, b1⟩
  obtain ⟨g0, v, hb, ho, hne⟩ := h1
  obtain ⟨q0, q1, q2, q3⟩ := bd_cells hb
  have q4 := b1.size
  go_wp2_with (at_builtin; refine Lib.wpList_append_own_string _ rfl _ _ 78 9 rfl B bE i Tryz.underlying78 Tryz.underlying9 hi z0 z1 z2 _ _ _ rfl ho s rfl (by unfold maxLen; omega) (by omega) (by omega) ?_)
  intro v2 w2 ho2 hg2 _
  have hb2 : w2.heap[b]? = some (.cells #[.pointer (some ⟨b, 0, none⟩), v] bT) := (hg2.block b q0 (fun e => hne e.symm)).trans hb
  obtain ⟨r0, r1, r2, r3⟩ := bd_cells hb2
  obtain ⟨a3, n3, c3, rfl⟩ : ∃ a n c, v2 = .slice a n c := by
    rcases ho2.2 with ⟨e, _⟩ | ⟨_, _, _, e, _⟩ <;> exact ⟨_, _, _, e⟩
  clear q1 q2 q3
  go_wp2
  go_ret2
  exact ⟨rfl, Lib.BuilderAt.put g0 hb2 (bs' := bs ++ Lib.strCells s) (by simpa [Lib.strCells_length] using ho2) (by decide), (b1.grown hg2 (by omega) (fun k hk => (ho.lt k hk).1)).setCell (p := ⟨b, 1, none⟩) g0 _⟩
set_option maxHeartbeats 2000000 in
set_option maxRecDepth 100000 in
theorem wbyte_at (c : Int) (h : Lib.IsBuilder bT bE B b bs w) (hl : bs.length + 1 ≤ 140737488355328) (hB : B ≤ w.heap.size) :
    Calls Tryz.prog 47 #[.pointer (some ⟨b, 0, none⟩), .int .u8 c] w fun e w' => e = .returned .nilIface ∧ BdAt B b (bs ++ [.int .u8 c]) w' ∧ Below B w w' := by
  obtain ⟨i, hi, z0, z1, z2⟩ := info_parts eInfo
  have HC := Lib.hid (ccheck_at h)
  clear h
  go_enter Tryz.func47, Tryz.ntmps47
  go_wp2_with (go_at_call 86; refine (HC.out).mono ?_)
  rintro e w1 ⟨rfl, h1, b1⟩
  obtain ⟨g0, v, hb, ho, hne⟩ := h1
  obtain ⟨q0, q1, q2, q3⟩ := bd_cells hb
  have q4 := b1.size
  go_wp2_with (at_builtin; refine wpList_append_own _ rfl _ _ 78 rfl B bE i (.int .u8 0) 1 1 Tryz.underlying78 hi z0 z1 z2 rfl (by decide) _ _ _ rfl (ho.alloc _) ⟨w1.heap.size, 0, none⟩ 1 1 [.int .u8 c] rfl rfl ?c1 ?c2 (by unfold maxLen; omega) (by omega) (by simp; omega) ?_)
  case c1 =>
    intro j u hj
    match j, hj with
    | 0, hj => simp at hj; subst hj; simp [Addr.add]
  case c2 => intro u hu; simp at hu; subst hu; rfl
  intro v2 w2 ho2 hg2 _
  have hb2 : w2.heap[b]? = some (.cells #[.pointer (some ⟨b, 0, none⟩), v] bT) := by
    rw [hg2.block b (by simp; omega) (fun e => hne e.symm), Lib.alloc_old w1 _ b q0]
    exact hb
  obtain ⟨r0, r1, r2, r3⟩ := bd_cells hb2
  obtain ⟨a3, n3, c3, rfl⟩ : ∃ a n c, v2 = .slice a n c := by
    rcases ho2.2 with ⟨e, _⟩ | ⟨_, _, _, e, _⟩ <;> exact ⟨_, _, _, e⟩
  clear q1 q2 q3
  go_wp2
  go_ret
  exact ⟨rfl, Lib.BuilderAt.put g0 hb2 (bs' := bs ++ [.int .u8 c]) (by simpa using ho2) (by decide), ((b1.alloc (by omega) _).grown hg2 (by simp; omega) (fun k hk => (ho.lt k hk).1)).setCell (p := ⟨b, 1, none⟩) g0 _⟩
end
end Go.Proofs.YtbneaihpnfkcdaaGreatDoor.L11
end

section
namespace Go.Proofs.YtbneaihpnfkcdaaGreatDoor.L11
open Go.RowKit
attribute [local go_sem] Oper.semAt_some

abbrev sE : TypeId := 9
abbrev OwT (w : World) (B : Nat) (v : Value) (n : Nat) (l : List ByteArray) : Prop := w.ownsRow B sE 1 v n (L8.stC l)
theorem own_lit (w : World) (B : Nat) (l : List ByteArray) (n : Nat) (hn : l.length = n) (hB : B ≤ w.heap.size) (hm : n ≤ maxLen) : OwT (w.alloc (.cells (L8.stC l).toArray sE)) B (.slice (some ⟨w.heap.size, 0, none⟩) n n) n l := by
  subst hn
  refine ⟨by simp [L8.stC], .inr ⟨w.heap.size, l.length, _, rfl, hB, heap_alloc_last w _, Nat.le_refl _, hm, by simp [L8.stC], ?_⟩⟩
  rw [List.toList_toArray]
  exact List.take_of_length_le (by simp [L8.stC])
theorem join5 (a b c d e : ByteArray) : (⟨(Lib.join ([a, b, c, d, e].map (·.data.toList)) spB.data.toList).toArray⟩ : ByteArray) = a ++ spB ++ b ++ spB ++ c ++ spB ++ d ++ spB ++ e := by
  apply ByteArray.ext
  apply Array.toList_inj.1
  simp [Lib.join, List.intercalate, spB]
theorem cl4 {w : World} {k : Nat} {a b c d : Value} {t : TypeId} (h : w.heap[k]? = some (.cells #[a, b, c, d] t)) : w.cell? ⟨k, 0, none⟩ = some a ∧ w.cell? ⟨k, 1, none⟩ = some b ∧ w.cell? ⟨k, 2, none⟩ = some c ∧ w.cell? ⟨k, 3, none⟩ = some d := by
  simp [World.cell?, h]
theorem cl3 {w : World} {k : Nat} {a b c : Value} {t : TypeId} (h : w.heap[k]? = some (.cells #[a, b, c] t)) : w.cell? ⟨k, 0, none⟩ = some a ∧ w.cell? ⟨k, 1, none⟩ = some b ∧ w.cell? ⟨k, 2, none⟩ = some c := by
  simp [World.cell?, h]
theorem own_some {w : World} {B : Nat} {v : Value} {m : Nat} {l : List ByteArray} (h : OwT w B v m l) (hm : 0 < m) : ∃ k c, v = .slice (some ⟨k, 0, none⟩) m c ∧ (∀ (j : Nat) x, l[j]? = some x → w.cell? ⟨k, 0 + j, none⟩ = some (.string x)) ∧ k < w.heap.size ∧ m ≤ c := by
  have h0 := h
  rcases h.2 with ⟨_, e⟩ | ⟨g, cap, cur, rfl, _, hh, hc, _⟩
  · omega
  · refine ⟨g, cap, rfl, fun j x hx => ?_, lt_of_block hh, hc⟩
    have := h0.cells (g := g) rfl j (.string x) (by simp [L8.stC, hx])
    rw [L8.add0] at this
    rw [Nat.zero_add]
    exact this
structure DRng (key val ent : Int) : Prop where
  k0 : -9223372036854775808 ≤ key
  k1 : key ≤ 9223372036854775807
  v0 : -9223372036854775808 ≤ val
  v1 : val ≤ 9223372036854775807
  e0 : -9223372036854775808 ≤ ent
  e1 : ent ≤ 9223372036854775807
def deW (nm : ByteArray) (key val ent : Int) : List ByteArray := [L9.mapT, nm, nB key, nB val, nB ent]
theorem row_own {w w' : World} {g : Option Nat} {k : Nat} {cs : Array Value} {t : TypeId} (h : w.heap[k]? = some (.cells cs t)) (hg : w.grownBy w' g) (hne : g ≠ some k) : w'.heap[k]? = some (.cells cs t) :=
  (hg.block k (lt_of_block h) (fun e => hne e.symm)).trans h
set_option maxHeartbeats 4000000 in
set_option maxRecDepth 100000 in
theorem declaration_at (nm : ByteArray) (key val ent : Int) (w : World) (hT : Tb w) (hR : DRng key val ent) (hn : nm.size ≤ 1000) :
    Calls Tryz.prog 22 #[.agg #[.string nm, .int .i64 key, .int .i64 val, .int .i64 ent]] w (fun e w' => e = .returned (.string (deT ⟨nm, key, val, ent⟩)) ∧ Below w.heap.size w w') := by
  obtain ⟨i0, hi, hz0, hz1, hz2⟩ := info_parts L8.Tryz.info9
  have hl1 := nB_len key hR.k0 hR.k1
  have hl2 := nB_len val hR.v0 hR.v1
  have hl3 := nB_len ent hR.e0 hR.e1
  have HU := Lib.hid (fun W (h : Tb W) => (⟨number_at key hR.k0 hR.k1 W h, number_at val hR.v0 hR.v1 W h, number_at ent hR.e0 hR.e1 W h⟩ : Calls Tryz.prog 20 #[.int .i64 key] W _ ∧ Calls Tryz.prog 20 #[.int .i64 val] W _ ∧ Calls Tryz.prog 20 #[.int .i64 ent] W _))
  have hD0 := heap_alloc_last w (.cells #[.string nm, .int .i64 key, .int .i64 val, .int .i64 ent] 23)
  have hB0 := L8.bnew w (.cells #[.string nm, .int .i64 key, .int .i64 val, .int .i64 ent] 23)
  have hT0 := hT.new (.cells #[.string nm, .int .i64 key, .int .i64 val, .int .i64 ent] 23)
  have HJ : Hid (deT ⟨nm, key, val, ent⟩ = ⟨(Lib.join ((deW nm key val ent).map (·.data.toList)) spB.data.toList).toArray⟩) := Lib.hid (by unfold deW; rw [join5]; rfl)
  have HJL : Hid ((Lib.join ((deW nm key val ent).map (·.data.toList)) spB.data.toList).length ≤ 140737488355328) := Lib.hid (by
    have h := congrArg ByteArray.size HJ.out
    have e1 : L9.mapT.size = 3 := rfl
    have e2 : spB.size = 1 := rfl
    have h3 : (deT ⟨nm, key, val, ent⟩).size ≤ 5000 := by
      unfold deT
      simp only [ByteArray.size_append, e1, e2]
      omega
    have h4 : (⟨(Lib.join ((deW nm key val ent).map (·.data.toList)) spB.data.toList).toArray⟩ : ByteArray).size = (Lib.join ((deW nm key val ent).map (·.data.toList)) spB.data.toList).length := by
      show (Array.size _) = _
      simp
    omega)
  have HTW := Lib.hid (fun (W : World) (h : Below w.heap.size w W) => hT.below h)
  clear hT hR
  go_enter Tryz.func22, Tryz.ntmps22
  go_upto_region 1 with (fail)
  generalize w.alloc (.cells #[.string nm, .int .i64 key, .int .i64 val, .int .i64 ent] 23) = W0 at hD0 hB0 hT0 ⊢
  generalize hws : w.heap.size = ks at hD0 ⊢
  have HB0 := Lib.hid hB0
  clear hB0 hws
  obtain ⟨x0, x1, x2, x3⟩ := cl4 hD0
  have hO1 : OwT (W0.alloc (.cells #[.string L9.mapT, .string nm] sE)) W0.heap.size (.slice (some ⟨W0.heap.size, 0, none⟩) 2 2) 2 [L9.mapT, nm] := own_lit W0 W0.heap.size [L9.mapT, nm] 2 rfl (Nat.le_refl _) (by unfold maxLen; omega)
  have hB1 := L8.bnew W0 (.cells #[.string L9.mapT, .string nm] sE)
  have hD1 := L8.row_up hD0 hB1
  have hT1 := hT0.below hB1
  go_upto_region 2 with (fail)
  rw [show (⟨#[109, 97, 112]⟩ : ByteArray) = L9.mapT from rfl]
  generalize W0.alloc (.cells #[.string L9.mapT, .string nm] sE) = W1 at hO1 hB1 hD1 hT1 ⊢
  have HB1 := Lib.hid (L2.bch HB0.out hB1)
  have hsz0 : w.heap.size ≤ W0.heap.size := HB0.out.size
  have hO1' : OwT W1 w.heap.size (.slice (some ⟨W0.heap.size, 0, none⟩) 2 2) 2 [L9.mapT, nm] := by
    obtain ⟨e, h | ⟨g, cap, cur, h1, h2, h3⟩⟩ := hO1
    · exact ⟨e, .inl h⟩
    · exact ⟨e, .inr ⟨g, cap, cur, h1, Nat.le_trans hsz0 h2, h3⟩⟩
  clear hO1 x0 x1 x2 x3 hD0 hB1
  obtain ⟨x0, x1, x2, x3⟩ := cl4 hD1
  have hI := heap_alloc_last W1 (.cells #[.int .i64 key, .int .i64 val, .int .i64 ent] 3)
  have hB2 := L8.bnew W1 (.cells #[.int .i64 key, .int .i64 val, .int .i64 ent] 3)
  have HO2 := Lib.hid (L8.own_below hO1' hB2)
  have HT2 := Lib.hid (hT1.below hB2)
  have HB2 := Lib.hid (L2.bch HB1.out hB2)
  go_wp2_with (fail)
  generalize W1.alloc (.cells #[.int .i64 key, .int .i64 val, .int .i64 ent] 3) = W2 at hI HO2 HT2 HB2 ⊢
  generalize W1.heap.size = k2 at hI ⊢
  generalize W0.heap.size = k1 at HO2 ⊢
  have HI := Lib.hid hI
  clear x0 x1 x2 x3 hD1 hT1 hB2 hO1' hI HB1 HB0 hT0 hsz0
  go_loopw [3, 17] (fun us i wr => ∃ (j : Nat) (ws : Value), ws = us ∧ i = .int .i64 (j : Int) ∧ j ≤ 3 ∧ Hid (OwT wr w.heap.size ws (2 + j) ((deW nm key val ent).take (2 + j))) ∧ Hid (wr.heap[k2]? = some (.cells #[.int .i64 key, .int .i64 val, .int .i64 ent] 3)) ∧ Hid (Tb wr) ∧ Hid (Below w.heap.size w wr)) (fun _ i _ => 3 - (intOf i).toNat)
  case atStart => exact ⟨0, _, rfl, rfl, by omega, HO2, HI, HT2, HB2⟩
  case round =>
    clear HO2 HI HT2 HB2
    obtain ⟨j, ws, rfl, rfl, hj, hO, hI, hT, hB⟩ := hrel
    have hHU := HU.out wr hT.out
    obtain ⟨y0, y1, y2⟩ := cl3 hI.out
    have hwl := lt_of_block hI.out
    have hwz := hB.out.size
    have hown := hO.out
    have hne := Lib.ownBlock_ne hown hI.out (by decide)
    have HHN := Lib.hid (fun (w3 : World) (b3 : Below wr.heap.size wr w3) => (⟨L8.own_below hown b3, L8.row_up hI.out b3, hT.out.below b3, L2.bch hB.out b3, Nat.le_trans hwz b3.size⟩ : OwT w3 w.heap.size ws (2 + j) ((deW nm key val ent).take (2 + j)) ∧ w3.heap[k2]? = some (.cells #[.int .i64 key, .int .i64 val, .int .i64 ent] 3) ∧ Tb w3 ∧ Below w.heap.size w w3 ∧ w.heap.size ≤ w3.heap.size))
    have HNE := Lib.hid hne
    have HBO := Lib.hid (L8.own_base hown)
    clear hne hown hO hT hI hB
    rcases (show j = 0 ∨ j = 1 ∨ j = 2 ∨ j = 3 by omega) with rfl | rfl | rfl | rfl
    · have HC := Lib.hid hHU.1
      clear hHU
      go_wp2_with (first
        | (go_at_call 20; ((with_reducible refine (HC.out).mono ?_); rintro e w3 ⟨rfl, b3⟩; obtain ⟨o3, i3, t3, B3, z3⟩ := HHN.out _ b3; clear y0 y1 y2))
        | (at_builtin; refine wpList_append_own _ rfl _ _ 44 rfl w.heap.size 9 i0 (.string ⟨#[]⟩) 1 16 Tryz.underlying44 hi hz0 hz1 hz2 rfl (by decide) _ 2 _ rfl (o3.alloc _) ⟨w3.heap.size, 0, none⟩ 1 1 [.string (nB key)] rfl rfl (World.news_of_block (cs := #[.string (nB key)]) (t := 9) (fr := (0, 0)) (heap_alloc_last w3 _)) (by simp [Value.oneCell']) (by unfold maxLen; omega) (by omega) (by simp; omega) ?_; intro v5 w5 o5 g5 _; have i5 := row_own (L8.row_up i3 (L8.bnew w3 (.cells #[.string (nB key)] 9))) g5 HNE.out; have B5 := (B3.alloc z3 (.cells #[.string (nB key)] 9)).grown g5 (by simp; omega) HBO.out))
      go_roundw
      case rel => exact ⟨1, _, rfl, by go_num, by omega, Lib.hid o5, Lib.hid i5, Lib.hid (HTW.out _ B5), Lib.hid B5⟩
      case measure => simp [intOf]
    · have HC := Lib.hid hHU.2.1
      clear hHU
      go_wp2_with (first
        | (go_at_call 20; ((with_reducible refine (HC.out).mono ?_); rintro e w3 ⟨rfl, b3⟩; obtain ⟨o3, i3, t3, B3, z3⟩ := HHN.out _ b3; clear y0 y1 y2))
        | (at_builtin; refine wpList_append_own _ rfl _ _ 44 rfl w.heap.size 9 i0 (.string ⟨#[]⟩) 1 16 Tryz.underlying44 hi hz0 hz1 hz2 rfl (by decide) _ 3 _ rfl (o3.alloc _) ⟨w3.heap.size, 0, none⟩ 1 1 [.string (nB val)] rfl rfl (World.news_of_block (cs := #[.string (nB val)]) (t := 9) (fr := (0, 0)) (heap_alloc_last w3 _)) (by simp [Value.oneCell']) (by unfold maxLen; omega) (by omega) (by simp; omega) ?_; intro v5 w5 o5 g5 _; have i5 := row_own (L8.row_up i3 (L8.bnew w3 (.cells #[.string (nB val)] 9))) g5 HNE.out; have B5 := (B3.alloc z3 (.cells #[.string (nB val)] 9)).grown g5 (by simp; omega) HBO.out))
      go_roundw
      case rel => exact ⟨2, _, rfl, by go_num, by omega, Lib.hid o5, Lib.hid i5, Lib.hid (HTW.out _ B5), Lib.hid B5⟩
      case measure => simp [intOf]
    · have HC := Lib.hid hHU.2.2
      clear hHU
      go_wp2_with (first
        | (go_at_call 20; ((with_reducible refine (HC.out).mono ?_); rintro e w3 ⟨rfl, b3⟩; obtain ⟨o3, i3, t3, B3, z3⟩ := HHN.out _ b3; clear y0 y1 y2))
        | (at_builtin; refine wpList_append_own _ rfl _ _ 44 rfl w.heap.size 9 i0 (.string ⟨#[]⟩) 1 16 Tryz.underlying44 hi hz0 hz1 hz2 rfl (by decide) _ 4 _ rfl (o3.alloc _) ⟨w3.heap.size, 0, none⟩ 1 1 [.string (nB ent)] rfl rfl (World.news_of_block (cs := #[.string (nB ent)]) (t := 9) (fr := (0, 0)) (heap_alloc_last w3 _)) (by simp [Value.oneCell']) (by unfold maxLen; omega) (by omega) (by simp; omega) ?_; intro v5 w5 o5 g5 _; have i5 := row_own (L8.row_up i3 (L8.bnew w3 (.cells #[.string (nB ent)] 9))) g5 HNE.out; have B5 := (B3.alloc z3 (.cells #[.string (nB ent)] 9)).grown g5 (by simp; omega) HBO.out))
      go_roundw
      case rel => exact ⟨3, _, rfl, by go_num, by omega, Lib.hid o5, Lib.hid i5, Lib.hid (HTW.out _ B5), Lib.hid B5⟩
      case measure => simp [intOf]
    · obtain ⟨k9, lc, rfl, hc9⟩ := own_some (m := 5) (HHN.out _ (Below.refl _ _)).1 (by decide)
      have HJO := Lib.hid (show Calls Tryz.prog 40 #[.slice (some ⟨k9, 0, none⟩) 5 lc, .string ⟨#[32]⟩] wr _ from Tryz.strings_Join k9 0 lc (deW nm key val ent) spB wr hc9.1 hc9.2.1 (by show 5 ≤ 140737488355328; omega) hc9.2.2 HJL.out)
      rw [← HJ.out] at HJO
      clear hHU
      go_wp2_with (go_at_call 40; ((with_reducible refine (HJO.out).mono ?_); rintro e w3 ⟨rfl, b3⟩; obtain ⟨o3, i3, t3, B3, z3⟩ := HHN.out _ b3))
      go_ret
      exact ⟨rfl, B3⟩
end Go.Proofs.YtbneaihpnfkcdaaGreatDoor.L11
end

section
namespace Go.Proofs.YtbneaihpnfkcdaaGreatDoor.L11
open Go.RowKit
open L10 (Stm Pg)
attribute [local go_sem] Oper.semAt_some

theorem fe1 (e : Int) : L10.fe [e] = if e = 0 then (0, 0) else (0, e) := by
  unfold L10.fe
  rw [L10.feF]
  split
  · rfl
  · rfl
theorem br_def (d : L9.Df) : L10.brV ⟨[d], []⟩ = if L10.deE d = 0 then (false, 0, 15) else (true, 0, L10.deE d) := by
  have h0 : L10.cnd ⟨[d], []⟩ = [(true, L10.fe [L10.deE d]), (false, 0, 0), (true, 0, 0), (true, L10.fe (L10.dpE [] [[d.nm]])), (false, 0, 0), (false, (0, 15)), (false, 0, 0), (false, 0, 0), (false, 0, 0)] := rfl
  have h1 : L10.fe (L10.dpE [] [[d.nm]]) = (0, 0) := by
    have : L10.addB [] [d.nm] = true := by
      rw [L10.addB]
      have : L2.on [] d.nm = false := rfl
      rw [this]
      rfl
    rw [L10.dpE, this]
    rfl
  unfold L10.brV
  rw [h0, h1, fe1]
  by_cases h : L10.deE d = 0
  · rw [if_pos h, if_pos h]
    rfl
  · rw [if_neg h, if_neg h]
    show L10.frB ((true, 0, L10.deE d) :: _) = _
    rw [L10.frB, if_neg h]
theorem fits_def (d : L9.Df) (h : d.nm.size ≤ maxLen) : L10.Fits ⟨[d], []⟩ where
  maps := by simp
  stmts := by simp
  labs := by simp [L10.alL]
  nm := fun x hx => by
    obtain rfl : x = d := by simpa using hx
    exact h
  lb := fun s hs => by cases hs
  tg := fun s hs => by cases hs
theorem deE_15 (d : L9.Df) : L10.deE d ≠ 15 := by
  unfold L10.deE
  split
  · split <;> decide
  · decide
theorem deE_nm {d : L9.Df} (h : L10.deE d = 0) : d.nm.size ≤ 32 := by
  unfold L10.deE at h
  split at h
  · rename_i hv
    unfold L2.vd at hv
    simp only [Bool.and_eq_true, decide_eq_true_eq] at hv
    exact hv.1.1.1.2
  · cases h
theorem df_one (w : World) (nm : ByteArray) (key val ent : Int) : L10.DfAt (w.alloc (.cells #[.string nm, .int .i64 key, .int .i64 val, .int .i64 ent] 23)) (.slice (some ⟨w.heap.size, 0, none⟩) 1 1) [⟨nm, key, val, ent⟩] := by
  refine .inl ⟨w.heap.size, 0, 1, rfl, by simp, fun j hj i u hu => ?_⟩
  obtain rfl : j = 0 := by simpa using hj
  have h := heap_alloc_last w (.cells #[.string nm, .int .i64 key, .int .i64 val, .int .i64 ent] 23)
  unfold World.cell?
  rw [h]
  have hi : i < 4 := by
    have := (List.getElem?_eq_some_iff.1 hu).1
    simpa using this
  rcases (show i = 0 ∨ i = 1 ∨ i = 2 ∨ i = 3 by omega) with rfl | rfl | rfl | rfl <;> exact hu
set_option maxHeartbeats 2000000 in
set_option maxRecDepth 100000 in
theorem def_at (nm : ByteArray) (key val ent : Int) (w : World) (hT : Tb w) (hR : DRng key val ent) (hn : nm.size ≤ maxLen) :
    Calls Tryz.prog 8 #[.agg #[.string nm, .int .i64 key, .int .i64 val, .int .i64 ent]] w (fun e w' => e = .returned (.string (deR ⟨nm, key, val, ent⟩)) ∧ Below w.heap.size w w') := by
  have hD0 := heap_alloc_last w (.cells #[.string nm, .int .i64 key, .int .i64 val, .int .i64 ent] 23)
  have hB0 := L8.bnew w (.cells #[.string nm, .int .i64 key, .int .i64 val, .int .i64 ent] 23)
  have hT0 := hT.new (.cells #[.string nm, .int .i64 key, .int .i64 val, .int .i64 ent] 23)
  have hbr := br_def ⟨nm, key, val, ent⟩
  have hfit := fits_def ⟨nm, key, val, ent⟩ hn
  have HCK := Lib.hid (fun W (h : Tb W) (b : Bool) (k : Nat) (er : Int) (hr : L10.brV ⟨[⟨nm, key, val, ent⟩], []⟩ = (b, k, er)) => L10.check_at (.slice (some ⟨W.heap.size, 0, none⟩) 1 1) (.slice none 0 0) _ _ ⟨df_one W nm key val ent, .inr ⟨rfl, none, 0, rfl⟩⟩ hfit (h.below (L8.bnew W _)).two b k er hr)
  clear hfit
  by_cases h : L10.deE ⟨nm, key, val, ent⟩ = 0
  · rw [show deR ⟨nm, key, val, ent⟩ = deT ⟨nm, key, val, ent⟩ from if_pos h]
    rw [if_pos h] at hbr
    have hnm : nm.size ≤ 1000 := Nat.le_trans (deE_nm h) (by decide)
    have HD := Lib.hid (fun W hW => declaration_at nm key val ent W hW hR hnm)
    have HBR := Lib.hid hbr
    clear h hbr hT hnm
    go_enter Tryz.func8, Tryz.ntmps8
    go_upto_region 1 with (fail)
    generalize w.alloc (.cells #[.string nm, .int .i64 key, .int .i64 val, .int .i64 ent] 23) = W0 at hD0 hB0 hT0 ⊢
    generalize w.heap.size = ks at hD0 ⊢
    obtain ⟨x0, x1, x2, x3⟩ := cl4 hD0
    have hB1 := L8.bnew W0 (.cells #[.string nm, .int .i64 key, .int .i64 val, .int .i64 ent] 23)
    have HC := Lib.hid (HCK.out W0 hT0 _ _ _ HBR.out)
    have HT1 := Lib.hid (hT0.below hB1)
    have HB := Lib.hid (L2.bch hB0 hB1)
    have HD1 := Lib.hid (L8.row_up hD0 hB1)
    clear hB0 hB1 hD0 hT0 HCK HBR
    go_wp2_with (first
      | (go_at_call 21; ((with_reducible refine (HC.out).mono ?_); rintro e w1 ⟨rfl, b1⟩; have HB2 := Lib.hid (L2.bch HB.out b1); have HT2 := Lib.hid (HT1.out.below b1); obtain ⟨y0, y1, y2, y3⟩ := cl4 (L8.row_up HD1.out b1)))
      | (go_at_call 22; ((with_reducible refine (HD.out _ HT2.out).mono ?_); rintro e w2 ⟨rfl, b2⟩)))
    go_ret
    exact ⟨rfl, L2.bch HB2.out b2⟩
  · rw [show deR ⟨nm, key, val, ent⟩ = L9.eB from if_neg h]
    rw [if_neg h] at hbr
    have h15 := deE_15 ⟨nm, key, val, ent⟩
    generalize L10.deE ⟨nm, key, val, ent⟩ = er at hbr h15
    have HBR := Lib.hid hbr
    clear h hbr hT
    go_enter Tryz.func8, Tryz.ntmps8
    go_upto_region 1 with (fail)
    generalize w.alloc (.cells #[.string nm, .int .i64 key, .int .i64 val, .int .i64 ent] 23) = W0 at hD0 hB0 hT0 ⊢
    generalize w.heap.size = ks at hD0 ⊢
    obtain ⟨x0, x1, x2, x3⟩ := cl4 hD0
    have HC := Lib.hid (HCK.out W0 hT0 _ _ _ HBR.out)
    have HB := Lib.hid (L2.bch hB0 (L8.bnew W0 (.cells #[.string nm, .int .i64 key, .int .i64 val, .int .i64 ent] 23)))
    clear hB0 hD0 hT0 HCK HBR
    go_wp2_with (go_at_call 21; ((with_reducible refine (HC.out).mono ?_); rintro e w1 ⟨rfl, b1⟩))
    go_ret
    exact ⟨rfl, L2.bch HB.out b1⟩

theorem liT_snoc (l : List ByteArray) (t : ByteArray) : (liT (l ++ [t])).data.toList = (liT l).data.toList ++ t.data.toList ++ [10] := by
  rw [liT_app]
  simp [liT, lfB, L9.eB]
theorem liT_take (l : List ByteArray) (j : Nat) (h : j < l.length) : (liT (l.take (j + 1))).data.toList = (liT (l.take j)).data.toList ++ l[j].data.toList ++ [10] := by
  rw [List.take_succ_eq_append_getElem h, liT_snoc]
theorem liT_le (l : List ByteArray) : ∀ j, (liT (l.take j)).size ≤ (liT l).size := by
  intro j
  have : liT l = liT (l.take j) ++ liT (l.drop j) := by rw [← liT_app, List.take_append_drop]
  rw [this, ByteArray.size_append]
  omega
set_option maxHeartbeats 4000000 in
set_option maxRecDepth 100000 in
theorem lines_at (v : Value) (l : List ByteArray) (w : World) (hv : L8.StAt w v l) (hl : l.length ≤ 100000000) (hs : (liT l).size ≤ 100000000) :
    Calls Tryz.prog 27 #[v] w (fun e w' => e = .returned (.string (liT l)) ∧ Below w.heap.size w w') := by
  obtain ⟨n, hn⟩ : ∃ n, l.length = n := ⟨_, rfl⟩
  obtain ⟨a, c, rfl, hc⟩ := L10.st_form hn hv
  have HC := Lib.hid hc
  have HN := Lib.hid hn
  have h0 := Lib.fresh_isBuilder bT bE w
  have hB0 := L8.bnew w (.cells #[.pointer none, .slice none 0 0] bT)
  rw [hn] at hl
  clear hv hc hn
  go_enter Tryz.func27, Tryz.ntmps27
  go_wp2_with (fail)
  have HI : Hid (Lib.IsBuilder bT bE w.heap.size w.heap.size (Lib.byteCells (liT (l.take 0)).data.toList) (w.alloc (.cells #[.pointer none, .slice none 0 0] bT))) := Lib.hid h0
  have HB := Lib.hid hB0
  clear h0 hB0
  generalize w.alloc (.cells #[.pointer none, .slice none 0 0] bT) = W0 at HI HB ⊢
  go_loopw [8] (fun i wr => ∃ j : Nat, i = .int .i64 (j : Int) ∧ j ≤ n ∧ Hid (Lib.IsBuilder bT bE w.heap.size w.heap.size (Lib.byteCells (liT (l.take j)).data.toList) wr) ∧ Hid (Below w.heap.size w wr)) (fun i _ => n - (intOf i).toNat)
  case atStart => exact ⟨0, rfl, Nat.zero_le _, HI, HB⟩
  case round =>
    clear HI HB
    obtain ⟨j, rfl, hj, hI, hB⟩ := hrel
    have hz := hB.out.size
    by_cases hlt : j < n
    · have hjl : j < l.length := by rw [HN.out]; exact hlt
      obtain ⟨b, o, rfl, hb, hcc⟩ := HC.out (by omega)
      have x0 := (hB.out.cell (by exact hb)).trans (hcc j hjl)
      have ht := liT_take l j hjl
      have hle := liT_le l (j + 1)
      obtain ⟨T, hT⟩ : ∃ T, l[j] = T := ⟨_, rfl⟩
      rw [hT] at x0 ht
      have hsz : (liT (l.take j)).data.toList.length + T.size + 1 ≤ 100000000 := by
        have e1 : (liT (l.take (j + 1))).size = (liT (l.take (j + 1))).data.toList.length := (L8.size_list _).symm
        rw [ht] at e1
        simp only [List.length_append, List.length_cons, List.length_nil] at e1
        have e2 := L8.size_list T
        omega
      have hbl : (Lib.byteCells (liT (l.take j)).data.toList).length = (liT (l.take j)).data.toList.length := Lib.byteCells_length _
      have HS := Lib.hid (wstring_at T hI.out (by rw [hbl]; omega) hz)
      have HY := Lib.hid (fun (W : World) (h : BdAt w.heap.size w.heap.size (Lib.byteCells (liT (l.take j)).data.toList ++ Lib.strCells T) W) (hW : w.heap.size ≤ W.heap.size) => wbyte_at 10 (.inr h) (by rw [List.length_append, hbl, Lib.strCells_length]; omega) hW)
      have HT := Lib.hid ht
      have HBL := Lib.hid hB.out
      clear hcc hjl ht hle hT hsz hbl hI hB
      go_wp2_with (first
        | (go_at_call 46; ((with_reducible refine (HS.out).mono ?_); rintro e w3 ⟨rfl, h3, b3⟩; have B3 := HBL.out.trans b3; have z3 := B3.size; have H3 := Lib.hid h3; clear h3))
        | (go_at_call 47; ((with_reducible refine (HY.out _ H3.out z3).mono ?_); rintro e w4 ⟨rfl, h4, b4⟩; have B4 := B3.trans b4; have H4 := Lib.hid h4; clear h4)))
      go_roundw
      case rel =>
        refine ⟨j + 1, by go_num, by omega, Lib.hid (.inr ?_), Lib.hid B4⟩
        rw [HT.out, Lib.byteCells_append, Lib.byteCells_append]
        exact H4.out
      case measure => simp [intOf]; omega
    · obtain rfl : j = n := by omega
      have hI2 := hI.out
      rw [List.take_of_length_le (by rw [HN.out]; exact Nat.le_refl _)] at hI2
      have HS := Lib.hid (Tryz.Builder_String_any w.heap.size w.heap.size _ _ hI2 hz)
      have e : (⟨(liT l).data.toList.toArray⟩ : ByteArray) = liT l := by simp
      rw [e] at HS
      clear hI2 e
      go_wp2_with (go_at_call 48; ((with_reducible refine (HS.out).mono ?_); rintro e w3 ⟨rfl, b3⟩))
      go_ret
      exact ⟨rfl, hB.out.trans b3⟩
end Go.Proofs.YtbneaihpnfkcdaaGreatDoor.L11
end
