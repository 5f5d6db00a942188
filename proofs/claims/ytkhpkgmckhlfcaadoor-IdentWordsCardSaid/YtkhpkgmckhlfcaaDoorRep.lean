/- What Repeated returns, the program's and the reference's, for lists of up to 1000 texts: the least index of a text that stands before, or -1. -/
import Derived.Test.YtkhpkgmckhlfcaaDoorNames
import Derived.Maps.OwnSet
namespace Go.Proofs.YtkhpkgmckhlfcaaDoor
open Go.RowKit Go.Maps

/-! ### a set of texts, asked for its bool -/
theorem bool_inv {H : Type} {P : Program} {e : TypeId} (he : P.underlying e = some .bool) {v : Value} {z : DataW H × List MemPlace} (h : plainElem P e v = some z) : ∃ x, v = .bool x ∧ z = (.lit (.bool x), []) := by
  unfold plainElem at h
  rw [he] at h
  cases v <;> simp at h
  exact ⟨_, rfl, h.symm⟩

/-- A look-up in a map of bools that the call made, where what stands at the key is known. -/
theorem wpList_look_bool {H : Type} {P : Program} (w : World) {ops : Array Oper} {rest : List Oper} {o : Oper} {a : Act} {Q : Exit → Act → World → Prop}
    (hg : o.guard = none) (m x : Operand) (t : TypeId) (hop : o.op = Op.lookup t m x false)
    (k e : TypeId) (K : Keyed P k) (ht : P.underlying t = some (.map k e)) (he : P.underlying e = some .bool) (hz : (zeroValue e).run P w = .ok (.bool false) w) (b n : Nat) (D : DataW H)
    (hm : a.eval m = .map (some b)) (hown : w.ownsMap P k (plainElem P e) b n D) (key : Value) (kl : Lit) (hx : a.eval x = key) (hkey : keyOf P k key = some kl)
    (c : Bool) (hat : D.atKey kl (.lit (.bool false)) = .lit (.bool c))
    (hK : wpList P ops Q rest (a.put o.dst (.bool c)) w) :
    wpList P ops Q (o :: rest) a w := by
  refine wpList_plain hg fun K' hK' => ?_
  obtain ⟨v, ps, hrun, hv⟩ := hown.lookup K ht hz (plainElem_bool he false) hkey
  rw [hat] at hv
  obtain ⟨y, rfl, hy⟩ := bool_inv he hv
  simp only [Prod.mk.injEq, DataW.lit.injEq, Lit.bool.injEq] at hy
  obtain ⟨rfl, _⟩ := hy
  unfold Oper.wp
  simp [execOp, hop, hm, hx, hrun, Result.andThen]
  exact hK' _ _ hK

section
variable {H : Type} (u z : DataW H) (k : Lit)

theorem fold_out : ∀ (acc : List Lit) (m : DataW H), ¬ k ∈ acc → (acc.foldl (fun m x => m.put x u) m).atKey k z = m.atKey k z
  | [], _, _ => rfl
  | x :: r, m, h => by
    rw [List.foldl_cons, fold_out r _ (fun h' => h (by simp [h'])), atKey_put_other (fun e => h (by simp [e]))]

theorem fold_in : ∀ (acc : List Lit) (m : DataW H), IsMap m → (∀ x ∈ acc, WideAt.IsKeyLit x) → k ∈ acc → (acc.foldl (fun m x => m.put x u) m).atKey k z = u
  | x :: r, m, hm, ha, h => by
    rw [List.foldl_cons]
    by_cases hr : k ∈ r
    · exact fold_in r _ (hm.put x u) (fun y hy => ha y (by simp [hy])) hr
    · obtain rfl : k = x := by
        rcases List.mem_cons.1 h with h | h
        · exact h
        · exact absurd h hr
      rw [fold_out _ _ _ r _ hr, atKey_put_same hm (ha k (by simp))]
end

def txt (s : ByteArray) : Lit := .string s.data.toList
def keys (ss : List ByteArray) (k : Nat) : List Lit := (ss.take k).map txt
/-- The set of the first k texts. -/
def Sn {H : Type} (ss : List ByteArray) (k : Nat) : DataW H := setOf (.lit (.bool true)) (keys ss k)

theorem txt_inj {a b : ByteArray} (h : txt a = txt b) : a = b := by
  cases a; cases b
  simp only [txt, Lit.string.injEq] at h
  rw [Array.toList_inj.1 h]

theorem keys_mem (ss : List ByteArray) (k : Nat) (x : ByteArray) : txt x ∈ keys ss k ↔ x ∈ ss.take k := by
  unfold keys
  rw [List.mem_map]
  constructor
  · rintro ⟨y, hy, e⟩
    rw [← txt_inj e]; exact hy
  · intro h; exact ⟨x, h, rfl⟩

theorem keys_key (ss : List ByteArray) (k : Nat) : ∀ y ∈ keys ss k, WideAt.IsKeyLit y := by
  intro y hy
  obtain ⟨s, _, rfl⟩ := List.mem_map.1 hy
  trivial

theorem keys_succ (ss : List ByteArray) (k : Nat) (hk : k < ss.length) : keys ss (k + 1) = keys ss k ++ [txt (ss.getD k ByteArray.empty)] := by
  unfold keys
  rw [List.take_add_one, List.map_append]
  simp [List.getD, List.getElem?_eq_getElem hk]
theorem Sn_succ {H : Type} (ss : List ByteArray) (k : Nat) (hk : k < ss.length) : Sn (H := H) ss (k + 1) = (Sn ss k).put (txt (ss.getD k ByteArray.empty)) (.lit (.bool true)) := by
  unfold Sn
  rw [keys_succ ss k hk, setOf_snoc]
theorem Sn_zero {H : Type} (ss : List ByteArray) : Sn (H := H) ss 0 = .map [] := by simp [Sn, keys, setOf]

theorem Sn_in {H : Type} (ss : List ByteArray) (k : Nat) (x : ByteArray) (h : x ∈ ss.take k) : (Sn (H := H) ss k).atKey (txt x) (.lit (.bool false)) = .lit (.bool true) :=
  fold_in _ _ _ _ _ isMap_empty (keys_key ss k) ((keys_mem ss k x).2 h)
theorem Sn_out {H : Type} (ss : List ByteArray) (k : Nat) (x : ByteArray) (h : ¬ x ∈ ss.take k) : (Sn (H := H) ss k).atKey (txt x) (.lit (.bool false)) = .lit (.bool false) := by
  rw [Sn, setOf, fold_out _ _ _ _ _ (fun h' => h ((keys_mem ss k x).1 h'))]
  rfl

/-! ### the list -/
/-- Does it stand on the list? -/
def on (l : List ByteArray) (x : ByteArray) : Bool := l.any fun s => decide (s = x)
theorem on_mem (l : List ByteArray) (x : ByteArray) : on l x = true ↔ x ∈ l := by simp [on]

/-- The least index, from k on, of a text that stands before, or -1. -/
def rpFrom : Nat → Nat → List ByteArray → Int
  | 0, _, _ => -1
  | n + 1, k, ss => if on (ss.take k) (ss.getD k ByteArray.empty) then (k : Int) else rpFrom n (k + 1) ss

def rp (ss : List ByteArray) : Int := rpFrom ss.length 0 ss

/-- v is a slice of the texts ss. -/
def TextsAt (w : World) (v : Value) (ss : List ByteArray) : Prop :=
  (∃ b off cap, v = .slice (some ⟨b, off, none⟩) ss.length cap ∧ b < w.heap.size ∧ ∀ j, j < ss.length → w.cell? ⟨b, off + j, none⟩ = some (.string (ss.getD j ByteArray.empty))) ∨ (ss = [] ∧ ∃ a cap, v = .slice a 0 cap)

theorem TextsAt.below {w w' : World} {v : Value} {ss : List ByteArray} (h : TextsAt w v ss) (hb : Below w.heap.size w w') : TextsAt w' v ss := by
  rcases h with ⟨b, off, cap, rfl, hlt, hc⟩ | h
  · exact Or.inl ⟨b, off, cap, rfl, Nat.lt_of_lt_of_le hlt hb.size, fun j hj => (hb.cell (by exact hlt)).trans (hc j hj)⟩
  · exact Or.inr h

theorem law9 : Keyed Tryd.prog 9 := string_keyed Tryd.underlying9

set_option maxHeartbeats 1000000 in
set_option maxRecDepth 100000 in
theorem rep_some (b off cap n : Nat) (ss : List ByteArray) (w : World) (hn : n = ss.length) (hn2 : n ≤ 1000) (hb : b < w.heap.size) (hsz : ∀ s ∈ ss, s.size ≤ maxLen)
    (hc : ∀ j, j < n → w.cell? ⟨b, off + j, none⟩ = some (.string (ss.getD j ByteArray.empty))) :
    Calls Tryd.prog 18 #[.slice (some ⟨b, off, none⟩) n cap] w fun e w' => e = .returned (.int .i64 (rp ss)) ∧ Below w.heap.size w w' := by
  have hmm := @run_makeMap Tryd.prog
  have HC := Lib.hid hc
  have HS := Lib.hid hsz
  have HN := Lib.hid hn
  clear hc hsz hn
  go_enter Tryd.func18, Tryd.ntmps18
  go_wp2
  go_loopw [9] (fun i wr => ∃ k : Nat, k ≤ n ∧ i = .int .i64 k ∧ wr.ownsMap Tryd.prog 9 (plainElem Tryd.prog 4) w.heap.size k (Sn (H := Unit) ss k) ∧ Below w.heap.size w wr ∧ Hid (rpFrom (n - k) k ss = rp ss)) (fun i _ => n - (intOf i).toNat)
  case atStart => exact ⟨0, Nat.zero_le _, rfl, by rw [Sn_zero]; exact World.ownsMap_made _ _ _ _, (Below.refl _ _).alloc (Nat.le_refl _) _, Lib.hid (by rw [HN.out]; rfl)⟩
  case round =>
    obtain ⟨k, hk, rfl, hown, hnx, hR⟩ := hrel
    by_cases hlt : k < n
    · obtain ⟨x, hx⟩ : ∃ x, x = ss.getD k ByteArray.empty := ⟨_, rfl⟩
      have hcx : wr.cell? ⟨b, off + k, none⟩ = some (.string x) := hx ▸ (hnx.cell (by exact hb)).trans (HC.out k hlt)
      have hxs : x.size ≤ maxLen := by
        have hk' : k < ss.length := by rw [← HN.out]; exact hlt
        rw [hx, List.getD, List.getElem?_eq_getElem hk']
        exact HS.out _ (List.getElem_mem hk')
      have hkey : keyOf Tryd.prog 9 (.string x) = some (txt x) := WideMaps.keyOf_string_mk Tryd.underlying9 hxs
      have hsub : n - k = (n - (k + 1)) + 1 := by omega
      have HX := Lib.hid hx
      clear hx
      by_cases hin : ss.getD k ByteArray.empty ∈ ss.take k
      · have hat : (Sn (H := Unit) ss k).atKey (txt x) (.lit (.bool false)) = .lit (.bool true) := Sn_in ss k x (by rw [HX.out]; exact hin)
        have HR : Hid (rp ss = k) := Lib.hid (by rw [← hR.out, hsub, rpFrom, if_pos ((on_mem _ _).2 hin)])
        clear hin
        go_wp2_with (first
          | (at_lookup; refine wpList_look_bool _ rfl _ _ 37 rfl 9 4 law9 Tryd.underlying37 Tryd.underlying4 (by kernel_rfl) w.heap.size k _ rfl hown _ _ rfl hkey true hat ?_)
          | go_in)
        go_ret
        exact ⟨by rw [HR.out] <;> rfl, hnx⟩
      · have hat : (Sn (H := Unit) ss k).atKey (txt x) (.lit (.bool false)) = .lit (.bool false) := Sn_out ss k x (by rw [HX.out]; exact hin)
        have HR : Hid (rpFrom (n - (k + 1)) (k + 1) ss = rp ss) := Lib.hid (by rw [← hR.out, hsub, rpFrom, if_neg (fun h => hin ((on_mem _ _).1 h))])
        clear hin
        go_wp2_with (first
          | (at_lookup; refine wpList_look_bool _ rfl _ _ 37 rfl 9 4 law9 Tryd.underlying37 Tryd.underlying4 (by kernel_rfl) w.heap.size k _ rfl hown _ _ rfl hkey false hat ?_)
          | (at_mapUpdate; refine wpList_mapUpdate_own _ rfl _ _ _ 37 rfl 9 4 law9 Tryd.underlying37 (plainElem (H := Unit) Tryd.prog 4) w.heap.size k _ rfl hown (by unfold maxLen; omega) _ _ _ rfl rfl hkey _ [] (plainElem_bool Tryd.underlying4 true) ?_; intro w1 hown1 hgrow1)
          | go_in)
        go_roundw
        case rel => exact ⟨k + 1, by omega, by go_num, (by rw [Sn_succ ss k (by rw [← HN.out]; exact hlt), ← HX.out]; exact hown1), hnx.grown hgrow1 hnx.size (fun j hj => by cases hj; exact Nat.le_refl _), HR⟩
        case measure => simp [intOf]; omega
    · have HR : Hid (rp ss = -1) := Lib.hid (by rw [← hR.out, show n - k = 0 by omega]; rfl)
      go_wp2
      go_ret
      exact ⟨by rw [HR.out] <;> rfl, hnx⟩

set_option maxRecDepth 100000 in
theorem rep_none (a : Option Addr) (cap : Nat) (w : World) : Calls Tryd.prog 18 #[.slice a 0 cap] w fun e w' => e = .returned (.int .i64 (-1)) ∧ Below w.heap.size w w' := by
  have hmm := @run_makeMap Tryd.prog
  go_enter Tryd.func18, Tryd.ntmps18
  go_wp2
  refine wp_loop_rounds 1 ?_
  rw [rounds_succ]
  go_wp2
  go_ret
  exact ⟨rfl, (Below.refl _ _).alloc (Nat.le_refl _) _⟩

theorem rep_any (v : Value) (ss : List ByteArray) (w : World) (hn : ss.length ≤ 1000) (h : TextsAt w v ss) (hsz : ∀ s ∈ ss, s.size ≤ maxLen) :
    Calls Tryd.prog 18 #[v] w fun e w' => e = .returned (.int .i64 (rp ss)) ∧ Below w.heap.size w w' := by
  rcases h with ⟨b, off, cap, rfl, hlt, hc⟩ | ⟨rfl, a, cap, rfl⟩
  · exact rep_some b off cap _ ss w rfl hn hlt hsz hc
  · exact rep_none a cap w

set_option maxHeartbeats 1000000 in
set_option maxRecDepth 100000 in
theorem rrep_some (b off cap n : Nat) (ss : List ByteArray) (w : World) (hn : n = ss.length) (hn2 : n ≤ 1000)
    (hc : ∀ j, j < n → w.cell? ⟨b, off + j, none⟩ = some (.string (ss.getD j ByteArray.empty))) :
    Calls Tryd.prog 19 #[.slice (some ⟨b, off, none⟩) n cap] w fun e w' => e = .returned (.int .i64 (rp ss)) ∧ ∃ m, w' = w.drewN m := by
  have HC := Lib.hid hc
  have HN := Lib.hid hn
  clear hc hn
  go_enter Tryd.func19, Tryd.ntmps19
  go_wp2
  go_loopw [3] (fun i wr => ∃ k m : Nat, k ≤ n ∧ i = .int .i64 k ∧ wr = w.drewN m ∧ Hid (rpFrom (n - k) k ss = rp ss)) (fun i _ => n - (intOf i).toNat)
  case atStart => exact ⟨0, 0, Nat.zero_le _, rfl, rfl, Lib.hid (by rw [HN.out]; rfl)⟩
  case round =>
    obtain ⟨k, m, hk, rfl, rfl, hR⟩ := hrel
    by_cases hlt : k < n
    · have hsub : n - k = (n - (k + 1)) + 1 := by omega
      obtain ⟨x, hx⟩ : ∃ x, x = ss.getD k ByteArray.empty := ⟨_, rfl⟩
      have hcx : w.cell? ⟨b, off + k, none⟩ = some (.string x) := hx ▸ HC.out k hlt
      have HX := Lib.hid hx
      clear hx
      go_wp2
      go_loopw [4] (fun i wr => ∃ j m : Nat, j ≤ k ∧ i = .int .i64 j ∧ wr = w.drewN m ∧ Hid (¬ x ∈ ss.take j)) (fun i _ => k - (intOf i).toNat)
      case atStart => exact ⟨0, m, Nat.zero_le _, rfl, rfl, Lib.hid (by simp)⟩
      case round =>
        obtain ⟨j, m', hj, rfl, rfl, hO⟩ := hrel
        by_cases hjk : j < k
        · obtain ⟨y, hy⟩ : ∃ y, y = ss.getD j ByteArray.empty := ⟨_, rfl⟩
          have hcy : w.cell? ⟨b, off + j, none⟩ = some (.string y) := hy ▸ HC.out j (by omega)
          have hjl : j < ss.length := by rw [← HN.out]; omega
          have htake : ss.take (j + 1) = ss.take j ++ [y] := by
            rw [List.take_add_one, hy]
            simp [List.getD, List.getElem?_eq_getElem hjl]
          have HT := Lib.hid htake
          clear hy htake
          by_cases he : x = y
          · have hin : x ∈ ss.take k := (List.take_subset_take_left _ (by omega : j + 1 ≤ k)) (by rw [HT.out, he]; simp)
            have HR : Hid (rp ss = k) := Lib.hid (by rw [← hR.out, hsub, rpFrom, if_pos ((on_mem _ _).2 (by rw [← HX.out]; exact hin))])
            have he2 := txt_eq he
            clear he hin
            go_wp2
            go_quiet (fail)
            go_wp2
            go_ret
            exact ⟨by rw [HR.out] <;> rfl, m' + nq, World.drewN_drewN w m' nq⟩
          · have HO : Hid (¬ x ∈ ss.take (j + 1)) := Lib.hid (by
              rw [HT.out]
              intro h
              rcases List.mem_append.1 h with h | h
              · exact hO.out h
              · exact he (by simpa using h))
            have he2 := txt_ne he
            clear he
            go_wp2
            go_quiet (fail)
            go_wp2
            go_roundw
            case rel => exact ⟨j + 1, m' + nq, by omega, by go_num, rfl, HO⟩
            case measure => simp [intOf]; omega
        · have HR : Hid (rpFrom (n - (k + 1)) (k + 1) ss = rp ss) := Lib.hid (by
            rw [← hR.out, hsub, rpFrom, if_neg]
            intro h
            have h := (on_mem _ _).1 h
            rw [← HX.out, show k = j by omega] at h
            exact hO.out h)
          go_wp2
          go_roundw
          case rel => exact ⟨k + 1, m', by omega, by go_num, rfl, HR⟩
          case measure => simp [intOf]; omega
    · have HR : Hid (rp ss = -1) := Lib.hid (by rw [← hR.out, show n - k = 0 by omega]; rfl)
      go_wp2
      go_ret
      exact ⟨by rw [HR.out] <;> rfl, _, rfl⟩

set_option maxRecDepth 100000 in
theorem rrep_none (a : Option Addr) (cap : Nat) (w : World) : Calls Tryd.prog 19 #[.slice a 0 cap] w fun e w' => e = .returned (.int .i64 (-1)) ∧ ∃ m, w' = w.drewN m := by
  go_enter Tryd.func19, Tryd.ntmps19
  go_wp2
  refine wp_loop_rounds 1 ?_
  rw [rounds_succ]
  go_wp2
  go_ret
  exact ⟨rfl, 0, rfl⟩

theorem rrep_any (v : Value) (ss : List ByteArray) (w : World) (hn : ss.length ≤ 1000) (h : TextsAt w v ss) :
    Calls Tryd.prog 19 #[v] w fun e w' => e = .returned (.int .i64 (rp ss)) ∧ ∃ m, w' = w.drewN m := by
  rcases h with ⟨b, off, cap, rfl, hlt, hc⟩ | ⟨rfl, a, cap, rfl⟩
  · exact rrep_some b off cap _ ss w rfl hn hc
  · exact rrep_none a cap w
end Go.Proofs.YtkhpkgmckhlfcaaDoor
