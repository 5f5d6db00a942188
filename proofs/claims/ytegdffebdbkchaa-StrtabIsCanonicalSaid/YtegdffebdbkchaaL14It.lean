/- The sequence of texts ahead of zero bytes: what its iterator hands to a loop's body. Condition: memory holds the bytes, which are no more than 1000000. -/
import Derived.Test.YtegdffebdbkchaaL14Rp
import Derived.RangeFuncNested
import Derived.RangeFuncBound
import Derived.RangeFuncCalls
import Derived.RangeFuncLeaves
import Derived.RangeFuncBox
import Derived.Shelf.Abstract
import Derived.Shelf.RegionOpen
import Derived.OwnWalkIn
import Derived.TacticsInMore
import Derived.LoopNIn
import Derived.LoopIn
import Derived.RegionIn
namespace Go.Proofs.Ytegdffebdbkchaa.L14
open Go.RowKit Go.Shelf
attribute [local go_sem] Oper.semAt_some

/-- The texts ahead of the zero bytes of l, each with the fact that it is one. -/
abbrev Pt (l : List UInt8) : Type := { x : Sg // x ∈ sg 0 [] l }
def pts (l : List UInt8) : List (Pt l) := (sg 0 [] l).attach
/-- What is handed over: the number of bytes ahead of the text, and the text, which lies in the bytes' own memory. -/
abbrev ptV (b o c : Nat) (l : List UInt8) (x : Pt l) : Array Value := #[.int .i64 (x.1.at' : Int), .slice (some ⟨b, o + x.1.at', none⟩) x.1.t.length (c - x.1.at')]
theorem pts_len (l : List UInt8) : (pts l).length = (sg 0 [] l).length := by simp [pts]
theorem pts_map {β : Type} (l : List UInt8) (f : Sg → β) : (pts l).map (fun x => f x.1) = (sg 0 [] l).map f := by
  unfold pts
  rw [List.attach_map_val]
theorem pt_in {l : List UInt8} (x : Pt l) : x.1.at' + x.1.t.length < l.length ∧ ∀ j (h : j < x.1.t.length) (h2 : x.1.at' + j < l.length), x.1.t[j] = l[x.1.at' + j] := by
  obtain ⟨k, h1, h2, h3⟩ := sg_in l 0 [] x.1 x.2
  rw [Nat.zero_add] at h1
  refine ⟨by rw [h1]; simpa using h2, fun j h hj => ?_⟩
  have := h3 j h
  rw [List.nil_append, ← h1, List.getElem?_eq_getElem h, List.getElem?_eq_getElem hj] at this
  exact Option.some.inj this

/-- The bytes l lie in a slice's memory, in a block below n₀. -/
structure Lo (n₀ : Nat) (w : World) (a : Option Addr) (c b o : Nat) (l : List UInt8) : Prop where
  cap : l.length ≤ c
  nil : a = none → c = 0
  adr : 0 < l.length → a = some ⟨b, o, none⟩ ∧ b < n₀
  cel : ∀ j, (h : j < l.length) → w.cell? ⟨b, o + j, none⟩ = some (eB l[j])
theorem Lo.below {n₀ : Nat} {w w' : World} {a : Option Addr} {c b o : Nat} {l : List UInt8} (h : Lo n₀ w a c b o l) (hb : Below n₀ w w') : Lo n₀ w' a c b o l :=
  ⟨h.cap, h.nil, h.adr, fun j hj => (hb.cell (by exact (h.adr (by omega)).2)).trans (h.cel j hj)⟩
theorem Lo.rw {n₀ : Nat} {w : World} {a : Option Addr} {c b o : Nat} {l : List UInt8} (h : Lo n₀ w a c b o l) (hn : n₀ ≤ w.heap.size) : Rw eB w (.slice a l.length c) l :=
  ⟨a, c, rfl, h.cap, h.nil, fun hp => ⟨b, o, (h.adr hp).1, Nat.lt_of_lt_of_le (h.adr hp).2 hn, h.cel⟩⟩
theorem Rw.lo {w : World} {a : Option Addr} {n c : Nat} {l : List UInt8} (h : Rw eB w (.slice a n c) l) : ∃ b o, Lo w.heap.size w a c b o l := by
  obtain ⟨h0, h1, h2, h3⟩ := h.at
  by_cases hp : 0 < n
  · obtain ⟨b, o, e, hb, hc⟩ := h3 hp
    exact ⟨b, o, by omega, h2, fun _ => ⟨e, hb⟩, hc⟩
  · exact ⟨0, 0, by omega, h2, fun h => by omega, fun j hj => by omega⟩
/-- A text that is handed over, as a slice. -/
theorem Lo.pt {n₀ : Nat} {w : World} {a : Option Addr} {c b o : Nat} {l : List UInt8} (h : Lo n₀ w a c b o l) (hn : n₀ ≤ w.heap.size) (x : Pt l) : Rw eB w (.slice (some ⟨b, o + x.1.at', none⟩) x.1.t.length (c - x.1.at')) x.1.t := by
  obtain ⟨h1, h2⟩ := pt_in x
  have hc := h.cap
  refine ⟨_, _, rfl, by omega, fun e => (by cases e), fun hp => ⟨b, o + x.1.at', rfl, Nat.lt_of_lt_of_le (h.adr (by omega)).2 hn, fun j hj => ?_⟩⟩
  rw [h2 j hj (by omega), Nat.add_assoc]
  exact h.cel _ (by omega)

theorem grown_of_below {w w' : World} (h : Below w.heap.size w w') : w.grownBy w' none := ⟨h.os, h.tape, h.output, h.size, fun k hk _ => h.block k hk⟩
theorem keeps_below {W W' : World} (h : Below W.heap.size W W') : KeepsOthers W W' := ⟨h.size, fun k _ hk _ => (h.block k (lt_of_block hk)).trans hk⟩
theorem Boxed.below {W W' : World} {B : Nat} {t : TypeId} {v : Value} (h : Boxed W B t v) (hb : Below W.heap.size W W') : Boxed W' B t v := (hb.block B h.lt).trans h
theorem box_putObj {W : World} {B : Nat} {t : TypeId} {v : Value} (h : Boxed W B t v) {l : Nat} {o : Obj} (o' : Obj) (hl : W.heap[l]? = some o) (ho : o.isCells = false) : Boxed (W.putObj l o') B t v :=
  h.kept (grownBy_putObj' W l o') (fun e => by
    cases e
    have h' : W.heap[B]? = some (.cells #[v] t (0, 0)) := h
    rw [h'] at hl; cases hl; cases ho)
/-- What a round of a loop over the texts keeps: what lay below n, and the iterator's own box. -/
def Kq (n Bn : Nat) (v : Value) (A B : World) : Prop := Below n A B ∧ (Boxed A Bn 25 v → Boxed B Bn 25 v)
theorem Kq.t {n Bn : Nat} {v : Value} {A B C : World} (h : Kq n Bn v A B) (k : Kq n Bn v B C) : Kq n Bn v A C := ⟨h.1.trans k.1, fun x => k.2 (h.2 x)⟩
theorem Kq.b {n Bn : Nat} {v : Value} {w : World} (hn : n ≤ w.heap.size) (W : World) (l : Nat) (o o' : Obj) (hl : w.heap.size ≤ l) (h : W.heap[l]? = some o) (ho : o.isCells = false) (hw : o.isWalk = false) : Kq n Bn v W (W.putObj l o') := ⟨belowK_b hn W l o o' hl h ho hw, fun x => box_putObj x o' h ho⟩

theorem pts_step (l : List UInt8) (k p i : Nat) (h : (sg 0 [] l).drop k = ⟨p, (l.drop p).take i⟩ :: sg (p + i + 1) [] (l.drop (p + i + 1))) :
    ∃ x : Pt l, x.1 = ⟨p, (l.drop p).take i⟩ ∧ (pts l).take (k + 1) = (pts l).take k ++ [x] ∧ k < (pts l).length ∧ (sg 0 [] l).drop (k + 1) = sg (p + i + 1) [] (l.drop (p + i + 1)) := by
  have hk : k < (sg 0 [] l).length := by
    rcases Nat.lt_or_ge k (sg 0 [] l).length with h' | h'
    · exact h'
    · rw [List.drop_eq_nil_of_le h'] at h; cases h
  have hk2 : k < (pts l).length := by rw [pts_len]; exact hk
  rw [List.drop_eq_getElem_cons hk] at h
  injection h with h1 h2
  refine ⟨(pts l)[k], ?_, take_snoc _ _ hk2, hk2, h2⟩
  rw [← h1]
  simp [pts]

set_option maxRecDepth 100000 in
set_option maxHeartbeats 2000000 in
theorem parts_in (n : Nat) (hn : 2 ≤ n) (lp Bn n₀ : Nat) (a : Option Addr) (N c b o : Nat) (l : List UInt8) (hN : l.length = N) (hl : N ≤ 1000000) (J Jx : List (Pt l) → World → Prop) (W : World) (hJ : AbidesFrom W.heap.size J)
    (hY : ∀ pre x W1, J pre W1 → pre.length < (pts l).length → YieldAt Fence.wide (n - 1) Try.prog lp (ptV b o c l x) W1 fun e W' =>
      (e = .returned (.bool true) ∧ J (pre ++ [x]) W' ∧ Kq n₀ Bn (.slice a N c) W1 W') ∨ (e = .returned (.bool false) ∧ Jx (pre ++ [x]) W'))
    (hBn : Boxed W Bn 25 (.slice a N c)) (hv : Lo n₀ W a c b o l) (hn₀ : n₀ ≤ W.heap.size) (h0 : J [] W) :
    CallsIn Fence.wide n Try.prog 27 #[.func (.yield lp) #[] #[], .pointer (some ⟨Bn, 0, none⟩)] W fun e W' => (∃ v, e = .returned v) ∧
      ((∃ ys, ys = pts l ∧ J ys W') ∨ (∃ pre, pre <+: pts l ∧ Jx pre W')) := by
  have HN := Lib.hid hN
  have HV := Lib.hid hv
  have HY := Lib.hid hY
  have HJ := Lib.hid hJ
  have hc : N ≤ c := by have := hv.cap; omega
  clear hv hN hY hJ
  refine callsIn_of_wp Try.func27 rfl trivial ?_ rfl
  simp only [Try.ntmps27, List.size_toArray, List.length_cons, List.length_nil, Nat.reduceAdd, Nat.reduceSub, Array.replicate_succ, Array.replicate_zero, List.push_toArray, List.append_toArray, List.nil_append, List.cons_append]
  gi_wp2
  have h1n : 1 ≤ n := by omega
  gi_loopw [3] (fun r wr => ∃ p k : Nat, p ≤ N ∧ r = .int .i64 (p : Int) ∧ Boxed wr Bn 25 (.slice a N c) ∧ Hid ((sg 0 [] l).drop k = sg p [] (l.drop p)) ∧ Hid (Below n₀ W wr ∧ W.heap.size ≤ wr.heap.size ∧ J ((pts l).take k) wr)) (fun r _ => N - (intOf r).toNat)
  case atStart => exact ⟨0, 0, Nat.zero_le _, rfl, hBn, Lib.hid (by simp), Lib.hid ⟨Below.refl _ _, Nat.le_refl _, by simpa using h0⟩⟩
  case round =>
    obtain ⟨p, k, hp, rfl, hbx, hS, hr⟩ := hrel
    obtain ⟨hB, hz, hJr⟩ := hr.out
    have hcell := hbx.cell
    have hrw := (HV.out.below hB).rw (Nat.le_trans hn₀ hz)
    rw [HN.out] at hrw
    have hd := hrw.drop p hp
    have hs := run_from und8 size8 a N c p hp hc
    have b0 := bnew wr (.cells #[.int .u8 0] 5)
    have hg : (wr.alloc (.cells #[.int .u8 0] 5)).cell? ⟨wr.heap.size, 0, none⟩ = some (.int .u8 0) := cell_new wr _ _
    cases hf : fz (l.drop p) with
    | none =>
      have e1 : (pts l).take k = pts l := by
        have h1 := hS.out
        rw [sg_none _ _ _ hf, List.drop_eq_nil_iff] at h1
        exact List.take_of_length_le (by rw [pts_len]; exact h1)
      have HJ2 := Lib.hid (show ∀ m, J (pts l) ((wr.alloc (.cells #[.int .u8 0] 5)).drewN m) from fun m => by
        rw [← e1]
        exact HJ.out _ _ _ none hJr (grown_of_below (bdN b0 m)) (fun r e => by cases e))
      have HC := Lib.hid (callsIn_wide (n := n - 1).2 (cut_none _ _ _ (l.drop p) wr.heap.size _ (hd.below b0) hg hf))
      generalize (if c = p then a else a.map (·.add p)) = a2 at hs HC
      generalize c - p = c2 at hs HC
      generalize N - p = n2 at hs HC
      clear hrw hd hg hf e1 hB hz hJr hr hS
      gi_wp2_with (refine ⟨trivial, ?_⟩; gi_at_call 24; ((with_reducible refine (HC.out).mono ?_); rintro e w1 ⟨rfl, m, rfl⟩))
      refine ⟨fun f h => (by cases h), ?_⟩
      gi_wp2
      refine bodyPost_ret (results_none rfl _ _ _) rfl ?_
      exact ⟨⟨_, rfl⟩, .inl ⟨_, rfl, HJ2.out m⟩⟩
    | some i =>
      obtain ⟨hi1, -, -⟩ := fz_some hf
      rw [List.length_drop, HN.out] at hi1
      have hpi : p + i + 1 ≤ N := by omega
      have hS1 := hS.out
      rw [sg_some _ _ _ _ hf, List.nil_append, List.length_nil, Nat.add_zero, List.drop_drop, ← Nat.add_assoc] at hS1
      obtain ⟨x, hx, hpre, hkl, hS2⟩ := pts_step l k p i hS1
      have htl : ((l.drop p).take i).length = i := by rw [List.length_take, List.length_drop, HN.out]; omega
      have ha : (if c = p then a else a.map (·.add p)) = some ⟨b, o + p, none⟩ := by
        rw [if_neg (by omega), (HV.out.adr (by rw [HN.out]; omega)).1]
        simp [add0]
      rw [ha] at hs hd
      have HC := Lib.hid (callsIn_wide (n := n - 1).2 (cut_some _ _ _ (l.drop p) wr.heap.size i _ (by omega) (hd.below b0) hg hf))
      have HJn := Lib.hid (fun m => HJ.out ((pts l).take k) wr ((wr.alloc (.cells #[.int .u8 0] 5)).drewN m) none hJr (grown_of_below (bdN b0 m)) (fun r e => by cases e))
      have HYn := Lib.hid (fun (m : Nat) => by
        have := HY.out ((pts l).take k) x _ (HJn.out m) (by rw [List.length_take]; omega)
        unfold ptV at this
        rw [hx] at this
        simp only [htl] at this
        rw [← hpre] at this
        exact this)
      have HS := Lib.hid hS2
      have HB := Lib.hid (And.intro hB hz)
      have hbm := Lib.hid (fun m => Boxed.below hbx (bdN b0 m))
      generalize c - p = c2 at hs HC HYn
      generalize N - p = n2 at hs HC hi1
      clear hrw hd hg hf hB hz hJr hr hS hS1 hx hpre hkl hS2 htl ha
      gi_wp2_with (refine ⟨trivial, ?_⟩; gi_at_call 24; ((with_reducible refine (HC.out).mono ?_); rintro e w1 ⟨⟨v2, rfl⟩, m, rfl⟩; obtain ⟨fn, tmps, assign, body, hy, hYR⟩ := HYn.out m))
      refine hYR.mono ?_
      rintro e W3 (⟨rfl, hJ3, hk3, hb3⟩ | ⟨rfl, hJx3⟩)
      · have hbx3 := hb3 (hbm.out m)
        have HK := Lib.hid (HB.out.1.trans (((bdN b0 m).mono (Nat.le_trans hn₀ HB.out.2)).trans hk3))
        have HZ := Lib.hid (show W.heap.size ≤ W3.heap.size from Nat.le_trans HB.out.2 (Nat.le_trans (by simp) hk3.size))
        have HJ3 := Lib.hid hJ3
        clear HYn hYR HC hb3 hk3 hJ3
        gi_wp2
        go_roundw
        case rel => exact ⟨p + i + 1, k + 1, by omega, by go_num, hbx3, HS, Lib.hid ⟨HK.out, HZ.out, HJ3.out⟩⟩
        case measure => simp [intOf]; omega
      · have HJX := Lib.hid hJx3
        have HT := Lib.hid (show (pts l).take (k + 1) <+: pts l from List.take_prefix _ _)
        clear HYn hYR HC hJx3
        gi_wp2
        refine bodyPost_ret (results_none rfl _ _ _) rfl ?_
        exact ⟨⟨_, rfl⟩, .inr ⟨_, HT.out, HJX.out⟩⟩

theorem parts_fn (v : Value) (a : Option Addr) (n c : Nat) (hv : v = .slice a n c) (w : World) : Calls Try.prog 23 #[v] w fun e w' => e = .returned (.func (.func 27) #[] #[.pointer (some ⟨w.heap.size, 0, none⟩)]) ∧ w' = w.alloc (.cells #[v] 25) := by
  subst hv
  have hmf : (Instr.makeFunc (.func 27) #[] #[.pointer (some ⟨w.heap.size, 0, none⟩)]).run Try.prog (w.alloc (.cells #[.slice a n c] 25)) = .ok (.func (.func 27) #[] #[.pointer (some ⟨w.heap.size, 0, none⟩)]) (w.alloc (.cells #[.slice a n c] 25)) := by rfl
  go_enter Try.func23, Try.ntmps23
  go_wp2
  go_ret
  exact ⟨rfl, rfl⟩
theorem stops_at (n : Nat) (hn : 2 ≤ n) (Bn n₀ : Nat) (a : Option Addr) (N c b o : Nat) (l : List UInt8) (hN : l.length = N) (hl : N ≤ 1000000) (w : World) (hn₀ : n₀ ≤ w.heap.size) (hc : ∀ W, Below w.heap.size w W → Boxed W Bn 25 (.slice a N c)) (hv : Lo n₀ w a c b o l) :
    SeqStopsK Fence.wide n Try.prog 27 #[.pointer (some ⟨Bn, 0, none⟩)] (ptV b o c l) (Kq n₀ Bn (.slice a N c)) (fun ys => ys = pts l) (fun pre => pre <+: pts l) (pts l).length w := fun lp J Jx W hW hJ _ hY hj =>
  parts_in n hn lp Bn n₀ a N c b o l hN hl J Jx W hJ hY (hc W hW) (hv.below (hW.mono hn₀)) (Nat.le_trans hn₀ hW.size) hj
end Go.Proofs.Ytegdffebdbkchaa.L14
