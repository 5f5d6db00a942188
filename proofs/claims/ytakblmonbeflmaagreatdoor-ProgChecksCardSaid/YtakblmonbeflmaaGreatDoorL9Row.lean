/- What the program's row, slices.Contains and Find return: the shapes of a form and what reads its operands; whether a text is in a list; the number of an operation. No condition but that memory holds what is handed over. -/
import Derived.Test.YtakblmonbeflmaaGreatDoorL9Stp
import Derived.Test.YtakblmonbeflmaaGreatDoorM4
namespace Go.Proofs.YtakblmonbeflmaaGreatDoor.L9
open Go.RowKit
attribute [local go_sem] Oper.semAt_some

def fnK : Rk → Nat
  | .dst => 144
  | .sec => 145
  | .src => 146
  | .tgt => 147
  | .hlp => 148
  | .off => 149
  | .i32 => 150
  | .i64 => 151
  | .mpn => 152
def fnV (g : Nat) (k : Rk) : Value := .func (.func (fnK k)) #[.pointer (some ⟨g, 0, none⟩)] #[]
def FnAt (w : World) (v : Value) (ks : List Rk) (g : Nat) : Prop := (∃ k0, v = .slice (some ⟨k0, 0, none⟩) ks.length ks.length ∧ w.heap[k0]? = some (.cells (ks.map (fnV g)).toArray 170)) ∨ (ks = [] ∧ v = .slice none 0 0)
def RowP (g : Nat) (f : Int) (w : World) (e : Ending) (w' : World) : Prop := ∃ v1 v2, e = .returned (.tuple #[v1, v2]) ∧ L8.StAt w' v1 (shV f) ∧ FnAt w' v2 (ksV f) g ∧ Below w.heap.size w w'
theorem rowP_mk {g : Nat} {f : Int} {w w1 : World} {a c : Array Value} {n m : Nat} (l : List ByteArray) (ks : List Rk) (hb : Below w.heap.size w w1) (h1 : shV f = l) (h2 : ksV f = ks) (h3 : (L8.stC l).toArray = a) (h4 : (ks.map (fnV g)).toArray = c) (h5 : l.length = n) (h6 : ks.length = m) :
    RowP g f w (.returned (.tuple #[.slice (some ⟨w1.heap.size, 0, none⟩) n n, .slice (some ⟨w1.heap.size + 1, 0, none⟩) m m])) ((w1.alloc (.cells a 9)).alloc (.cells c 170)) := by
  subst h3 h4 h5 h6
  refine ⟨_, _, rfl, ?_, ?_, L2.bch (L2.bch hb (L8.bnew _ _)) (L8.bnew _ _)⟩
  · rw [h1]; exact (st_new w1 l _).below (L8.bnew _ _)
  · rw [h2]
    refine .inl ⟨w1.heap.size + 1, rfl, ?_⟩
    have := heap_alloc_last (w1.alloc (.cells (L8.stC l).toArray 9)) (.cells (ks.map (fnV g)).toArray 170)
    simpa using this
theorem rowP_mk0 {g : Nat} {f : Int} {w w1 : World} {a : Array Value} {n : Nat} (l : List ByteArray) (hb : Below w.heap.size w w1) (h1 : shV f = l) (h2 : ksV f = []) (h3 : (L8.stC l).toArray = a) (h5 : l.length = n) :
    RowP g f w (.returned (.tuple #[.slice (some ⟨w1.heap.size, 0, none⟩) n n, .slice none 0 0])) (w1.alloc (.cells a 9)) := by
  subst h3 h5
  exact ⟨_, _, rfl, by rw [h1]; exact st_new w1 l _, by rw [h2]; exact .inr ⟨rfl, rfl⟩, L2.bch hb (L8.bnew _ _)⟩
set_option maxHeartbeats 8000000 in
set_option maxRecDepth 100000 in
theorem row_at (B g : Nat) (s : St) (w : World) (h : RdAt B g w s) (f : Int) (hf : L3.frm (L3.ix s.x.op) = f) (hf0 : 0 ≤ f ∧ f ≤ 11) : Calls Tryz.prog 125 #[.pointer (some ⟨g, 0, none⟩)] w fun e w' => RowP g f w e w' := by
  have hmf : ∀ (fn : Fn) (first cap : Array Value) (w : World), (Instr.makeFunc fn first cap).run Tryz.prog w = .ok (.func fn first cap) w := fun _ _ _ _ => rfl
  obtain ⟨vv, hr⟩ := rd_row h
  obtain ⟨r0, r1, r2, r3, r4, r5, r6, r7, r8⟩ := cells9 hr
  have HF := Lib.hid (fun w => L4.form_at s.x.op f w hf)
  generalize s.x.op = op at r1 HF
  clear r0 r2 r3 r4 r5 r6 r7 r8 hr h hf
  have hfs : f = 0 ∨ f = 1 ∨ f = 2 ∨ f = 3 ∨ f = 4 ∨ f = 5 ∨ f = 6 ∨ f = 7 ∨ f = 8 ∨ f = 9 ∨ f = 10 ∨ f = 11 := by omega
  clear hf0
  rcases hfs with rfl | rfl | rfl | rfl | rfl | rfl | rfl | rfl | rfl | rfl | rfl | rfl
  all_goals
    go_enter Tryz.func125, Tryz.ntmps125
    go_wp2_with (go_at_call 96; ((with_reducible refine (HF.out _).mono ?_); rintro e w1 ⟨rfl, hb1⟩))
    go_ret2
  · exact rowP_mk [sww, swmw] [.dst, .sec] hb1 rfl rfl rfl rfl rfl rfl
  · exact rowP_mk [sw] [.dst] hb1 rfl rfl rfl rfl rfl rfl
  · exact rowP_mk [sww] [.dst, .src] hb1 rfl rfl rfl rfl rfl rfl
  · exact rowP_mk [sw] [.tgt] hb1 rfl rfl rfl rfl rfl rfl
  · exact rowP_mk [swww, swmww] [.dst, .sec, .tgt] hb1 rfl rfl rfl rfl rfl rfl
  · exact rowP_mk [sw] [.hlp] hb1 rfl rfl rfl rfl rfl rfl
  · exact rowP_mk0 [eB] hb1 rfl rfl rfl rfl
  · exact rowP_mk [swM0, swMp, swMm] [.dst, .src, .off] hb1 rfl rfl rfl rfl rfl rfl
  · exact rowP_mk [sM0w, sMpw, sMmw, sM0mw, sMpmw, sMmmw] [.dst, .off, .i32] hb1 rfl rfl rfl rfl rfl rfl
  · exact rowP_mk [sM0w, sMpw, sMmw] [.dst, .off, .src] hb1 rfl rfl rfl rfl rfl rfl
  · exact rowP_mk [sww, swmw] [.dst, .i64] hb1 rfl rfl rfl rfl rfl rfl
  · exact rowP_mk [sww] [.dst, .mpn] hb1 rfl rfl rfl rfl rfl rfl

/-! ### is a text in a list? -/
def IdxP (l : List ByteArray) (t : ByteArray) (w : World) (e : Ending) (w' : World) : Prop := ∃ n : Int, e = .returned (.int .i64 n) ∧ decide (0 ≤ n) = l.any (fun x => decide (x = t)) ∧ w = w'
theorem any_take (l : List ByteArray) (t : ByteArray) (j : Nat) (h : j < l.length) : (l.take (j + 1)).any (fun x => decide (x = t)) = ((l.take j).any (fun x => decide (x = t)) || decide (l[j] = t)) := by
  rw [L8.take_snoc l j h, List.any_append]; simp
theorem any_of {l : List ByteArray} {t : ByteArray} {j : Nat} (h : j < l.length) (he : l[j] = t) : l.any (fun x => decide (x = t)) = true := by
  rw [List.any_eq_true]; exact ⟨l[j], List.getElem_mem _, by simpa using he⟩
set_option maxHeartbeats 1000000 in
set_option maxRecDepth 100000 in
theorem index_at (v : Value) (l : List ByteArray) (hl : l.length ≤ 100) (t : ByteArray) (w : World) (hv : L8.StAt w v l) : Calls Tryz.prog 37 #[v, .string t] w fun e w' => IdxP l t w e w' := by
  rcases hv with ⟨b, o, cap, rfl, hb, hc⟩ | ⟨rfl, a, cap, rfl⟩
  · obtain ⟨n, hn⟩ : ∃ n, l.length = n := ⟨_, rfl⟩
    rw [hn] at hc hl ⊢
    have HN := Lib.hid hn
    have HC := Lib.hid hc
    clear hn hc
    go_enter Tryz.func37, Tryz.ntmps37
    go_wp2
    go_loop [8] (fun a => ∃ j : Nat, a = .int .i64 (j : Int) ∧ j ≤ n ∧ Hid ((l.take j).any (fun x => decide (x = t)) = false)) (fun a => n - (intOf a).toNat)
    case atStart => exact ⟨0, rfl, Nat.zero_le _, Lib.hid rfl⟩
    case round =>
      obtain ⟨j, rfl, hj, hA⟩ := hrel
      by_cases hlt : j < n
      · have hjx : j < l.length := by rw [HN.out]; exact hlt
        have c0 := HC.out j hlt
        obtain ⟨T, hT⟩ : ∃ T, l[j] = T := ⟨_, rfl⟩
        rw [show l.getD j ByteArray.empty = T by rw [← hT]; simp [List.getD, List.getElem?_eq_getElem hjx]] at c0
        by_cases he : T = t
        · have HF := Lib.hid (any_of hjx (hT.trans he))
          have t1 := L2.txt_eq he.symm
          clear hT he
          go_wp2
          go_ret
          exact ⟨_, rfl, by rw [HF.out]; simp, rfl⟩
        · have HF := Lib.hid (show (l.take (j + 1)).any (fun x => decide (x = t)) = false by rw [any_take l t j hjx, hA.out, hT]; simpa using he)
          have t1 := L2.txt_ne (fun e => he e.symm)
          clear hT he
          go_wp2
          go_round
          case rel => exact ⟨j + 1, by go_num, by omega, HF⟩
          case measure => simp [intOf]; omega
      · obtain rfl : j = n := by omega
        have HF := Lib.hid (show l.any (fun x => decide (x = t)) = false by rw [← hA.out, List.take_of_length_le (by rw [HN.out]; exact Nat.le_refl _)])
        go_wp2
        go_ret
        exact ⟨_, rfl, by rw [HF.out]; rfl, rfl⟩
  · go_enter Tryz.func37, Tryz.ntmps37
    go_wp2
    refine wp_loop_rounds 1 ?_
    rw [rounds_succ]
    go_wp2
    go_ret
    exact ⟨_, rfl, rfl, rfl⟩
theorem contains_at (v : Value) (l : List ByteArray) (hl : l.length ≤ 100) (t : ByteArray) (b : Bool) (w : World) (hv : L8.StAt w v l) (hb : l.any (fun x => decide (x = t)) = b) : Calls Tryz.prog 17 #[v, .string t] w fun e w' => e = .returned (.bool b) ∧ w = w' := by
  subst hb
  have HI := Lib.hid (index_at v l hl t w hv)
  clear hv
  obtain ⟨A, hA⟩ : ∃ A, l.any (fun x => decide (x = t)) = A := ⟨_, rfl⟩
  have HA := Lib.hid hA
  rw [hA]
  clear hA
  go_enter Tryz.func17, Tryz.ntmps17
  go_wp2_with (go_at_call 37; ((with_reducible refine (HI.out).mono ?_); rintro e w1 ⟨n, rfl, hn, rfl⟩; rw [HA.out] at hn; cases A))
  · go_ret
    exact ⟨rfl, rfl⟩
  · go_ret
    exact ⟨rfl, rfl⟩

/-! ### the number of an operation -/
theorem fnd_nm : ∀ k, k < 86 → L3.fnd (L3.nm k) 86 = ((k : Int), true) := by decide +kernel
theorem fnd_no {s : ByteArray} : ∀ n, (∀ k, k < n → L3.nm k ≠ s) → (L3.fnd s n).2 = false
  | 0, _ => rfl
  | n + 1, h => by rw [L3.fnd, if_neg (h n (by omega))]; exact fnd_no n fun k hk => h k (by omega)
theorem fnd_fiV (s : ByteArray) : (fiV s < 0 ∧ (L3.fnd s 86).2 = false) ∨ (∃ k : Nat, k < 86 ∧ fiV s = (k : Int) ∧ L3.fnd s 86 = ((k : Int), true)) := by
  unfold fiV
  cases e : (List.range 86).find? (fun k => decide (L3.nm k = s)) with
  | none =>
    refine .inl ⟨by decide, fnd_no 86 fun k hk he => ?_⟩
    rw [List.find?_eq_none] at e
    exact e k (by simpa using hk) (by simpa using he)
  | some k =>
    have hk : k < 86 := by simpa using List.mem_of_find?_eq_some e
    have he : L3.nm k = s := by simpa using List.find?_some e
    exact .inr ⟨k, hk, rfl, by rw [← he]; exact fnd_nm k hk⟩
end Go.Proofs.YtakblmonbeflmaaGreatDoor.L9
