/- What the library's Clone of bytes, HasPrefix and CutPrefix return, and append of bytes to a slice that the call made. Condition: memory holds the bytes, which are no more than 1000000000. -/
import Derived.Test.YtdamijicombmkaaL15Sa
import Derived.Laws.AppendOwnNone
import Derived.OwnWalkIn
import Derived.TacticsInMore
import Derived.Deep.OwnRows
namespace Go.Proofs.Ytdamijicombmkaa.L15
open Go.RowKit L14
attribute [local go_sem] Oper.semAt_some

theorem one_eB (l : List UInt8) : ∀ u ∈ l.map eB, u.oneCell' = true := by
  intro u hu
  obtain ⟨c, _, rfl⟩ := List.mem_map.1 hu
  rfl
theorem rw_news {w : World} {x : Addr} {n c : Nat} {l : List UInt8} (h : Rw eB w (.slice (some x) n c) l) : ∀ j u, (l.map eB)[j]? = some u → w.cell? (x.add j) = some u := by
  obtain ⟨h0, -, -, h3⟩ := h.at
  intro j u hu
  have hj : j < l.length := by
    have := (List.getElem?_eq_some_iff.1 hu).1
    simpa using this
  obtain ⟨b, o, e, -, hc⟩ := h3 (by omega)
  cases e
  rw [List.getElem?_map, List.getElem?_eq_getElem hj] at hu
  rw [add0, hc j hj]
  exact hu
/-- append(b, x...), b a slice of bytes that the call made, x a slice of known bytes, nil or not. -/
theorem wpList_append_rw {w : World} {ops : Array Oper} {rest : List Oper} {o : Oper} {a : Act} {Q : Exit → Act → World → Prop} (hgd : o.guard = none) (s x : Operand)
    (ho : o.op = .call { callee := .builtin .append, args := #[s, x], argTypes := #[25, 25] }) (base : Nat)
    (v : Value) (n : Nat) (xs : List Value) (hs : a.eval s = v) (hown : w.ownsRow base 5 1 v n xs)
    (vx : Value) (l : List UInt8) (hx : a.eval x = vx) (hr : Rw eB w vx l) (h63 : n + l.length ≤ 140737488355328) (hbase : base ≤ w.heap.size)
    (h : ∀ v' w', w'.ownsRow base 5 1 v' (n + l.length) (xs ++ l.map eB) → w.grownBy w' v.ownBlock → wpList Try.prog ops Q rest (a.put o.dst v') w') : wpList Try.prog ops Q (o :: rest) a w := by
  obtain ⟨ib, ki, kz0, kz1, kz2⟩ := info_parts infoByte
  obtain ⟨ax, c, rfl, -, h2, -⟩ := id hr
  cases ax with
  | none =>
    obtain rfl : c = 0 := h2 rfl
    obtain ⟨-, hle, -, -⟩ := hr.at
    obtain rfl : l = [] := List.eq_nil_of_length_eq_zero (by omega)
    refine wpList_append_own_none hgd s x 25 ho base 5 ib 1 Try.underlying25 ki v n xs hs hown hx ?_
    exact h v w (by simpa using hown) ⟨rfl, rfl, rfl, Nat.le_refl _, fun _ _ _ => rfl⟩
  | some ax =>
    refine wpList_append_own w hgd s x 25 ho base 5 ib (.int .u8 0) 1 1 Try.underlying25 ki kz0 kz1 kz2 rfl (by decide) v n xs hs hown ax l.length c (l.map eB) hx (by simp) (rw_news hr) (one_eB l) (by unfold maxLen; omega) (by omega) hbase ?_
    exact fun v' w' h1 h2 _ => h v' w' h1 h2
theorem wpListIn_append_rw {F : Fence} {nF : Nat} {w : World} {ops : Array Oper} {rest : List Oper} {o : Oper} {a : Act} {Q : Exit → Act → World → Prop} (hgd : o.guard = none) (s x : Operand)
    (ho : o.op = .call { callee := .builtin .append, args := #[s, x], argTypes := #[25, 25] }) (base : Nat)
    (v : Value) (n : Nat) (xs : List Value) (hs : a.eval s = v) (hown : w.ownsRow base 5 1 v n xs)
    (vx : Value) (l : List UInt8) (hx : a.eval x = vx) (hr : Rw eB w vx l) (h63 : n + l.length ≤ 140737488355328) (hbase : base ≤ w.heap.size)
    (h : ∀ v' w', w'.ownsRow base 5 1 v' (n + l.length) (xs ++ l.map eB) → w.grownBy w' v.ownBlock → wpListIn F nF Try.prog ops Q rest (a.put o.dst v') w') : wpListIn F nF Try.prog ops Q (o :: rest) a w := by
  obtain ⟨ib, ki, kz0, kz1, kz2⟩ := info_parts infoByte
  obtain ⟨ax, c, rfl, -, h2, -⟩ := id hr
  cases ax with
  | none =>
    obtain rfl : c = 0 := h2 rfl
    obtain ⟨-, hle, -, -⟩ := hr.at
    obtain rfl : l = [] := List.eq_nil_of_length_eq_zero (by omega)
    refine wpListIn_plain hgd fun K hK => ?_
    have hrun := run_append_owned_none (P := Try.prog) (w := w) base 25 o.type 5 ib 1 Try.underlying25 ki v n xs hown
    unfold Oper.wpIn
    refine ⟨by simp [Oper.about, ho, resolve, Target.leads, Sem.run_pure], ?_⟩
    rw [Oper.semAt_plain F _ _ (by rw [ho]; intro c hc'; cases hc')]
    simp [execOp, ho, resolve, invoke, builtin, hs, hx, hrun, Result.andThen]
    exact hK _ _ (h v w (by simpa using hown) ⟨rfl, rfl, rfl, Nat.le_refl _, fun _ _ _ => rfl⟩)
  | some ax =>
    refine wpListIn_append_own w hgd s x 25 ho base 5 ib (.int .u8 0) 1 1 Try.underlying25 ki kz0 kz1 kz2 rfl (by decide) v n xs hs hown ax l.length c (l.map eB) hx (by simp) (rw_news hr) (one_eB l) (by unfold maxLen; omega) (by omega) hbase ?_
    exact fun v' w' h1 h2 _ => h v' w' h1 h2

/-- What a clone leaves. -/
def ClB (l : List UInt8) (w : World) (e : Ending) (w' : World) : Prop := ∃ v', e = .returned v' ∧ w'.ownsRow w.heap.size 5 1 v' l.length (l.map eB) ∧ Below w.heap.size w w'
set_option maxHeartbeats 1000000 in
set_option maxRecDepth 100000 in
theorem bclone_at (v : Value) (l : List UInt8) (w : World) (hl : l.length ≤ 1000000000) (hv : Rw eB w v l) :
    Calls Try.prog 33 #[v] w (ClB l w) := by
  obtain ⟨a, c, rfl, -, h2, -⟩ := id hv
  have q : ∀ (w : World) (a : Option Addr) (n c n' c' : Nat), (binOp .eql 25 (.slice a n c) (.slice none n' c')).run Try.prog w = .ok (.bool a.isNone) w := fun w a n c n' c' => Lib.run_eql_slice_nil w _ _ a n c n' c' Try.underlying25
  cases a with
  | none =>
    obtain rfl : c = 0 := h2 rfl
    obtain ⟨-, hle, -, -⟩ := hv.at
    obtain rfl : l = [] := List.eq_nil_of_length_eq_zero (by omega)
    clear hv h2 hle
    go_enter Try.func33, Try.ntmps33
    go_wp2
    go_ret
    exact ⟨_, rfl, World.ownsRow_nil _ _ _ _, Below.refl _ _⟩
  | some x =>
    have HV := Lib.hid hv
    have HL := Lib.hid hl
    obtain ⟨n, hn⟩ : ∃ n, l.length = n := ⟨_, rfl⟩
    have HN := Lib.hid hn
    rw [hn] at HV
    unfold ClB
    rw [hn]
    clear h2 hl hv hn
    go_enter Try.func33, Try.ntmps33
    go_wp2_with (at_builtin; refine wpList_append_rw rfl _ _ rfl w.heap.size _ _ _ rfl (World.ownsRow_made w #[] 0 (Nat.le_refl _) (Nat.zero_le _) rfl) _ l rfl (HV.out.below (bnew _ _)) (by have := HL.out; omega) (by simp) ?_; intro v' w1 hown hgrow)
    go_ret
    refine ⟨v', rfl, by rw [← HN.out]; simpa using hown, ?_⟩
    exact ((Below.refl _ w).alloc (Nat.le_refl _) _).grown hgrow (by simp) (own_base (World.ownsRow_made (e := 5) (size := 1) w #[] 0 (Nat.le_refl _) (Nat.zero_le _) rfl))
set_option maxHeartbeats 1000000 in
set_option maxRecDepth 100000 in
theorem sclone_at (v : Value) (l : List UInt8) (w : World) (hl : l.length ≤ 1000000000) (hv : Rw eB w v l) :
    Calls Try.prog 18 #[v] w (ClB l w) := by
  obtain ⟨a, c, rfl, -, h2, -⟩ := id hv
  have q : ∀ (w : World) (a : Option Addr) (n c n' c' : Nat), (binOp .eql 25 (.slice a n c) (.slice none n' c')).run Try.prog w = .ok (.bool a.isNone) w := fun w a n c n' c' => Lib.run_eql_slice_nil w _ _ a n c n' c' Try.underlying25
  cases a with
  | none =>
    obtain rfl : c = 0 := h2 rfl
    obtain ⟨-, hle, -, -⟩ := hv.at
    obtain rfl : l = [] := List.eq_nil_of_length_eq_zero (by omega)
    clear hv h2 hle
    go_enter Try.func18, Try.ntmps18
    go_wp2
    go_ret
    exact ⟨_, rfl, World.ownsRow_nil _ _ _ _, Below.refl _ _⟩
  | some x =>
    have HV := Lib.hid hv
    have HL := Lib.hid hl
    obtain ⟨n, hn⟩ : ∃ n, l.length = n := ⟨_, rfl⟩
    have HN := Lib.hid hn
    rw [hn] at HV
    unfold ClB
    rw [hn]
    clear h2 hl hv hn
    go_enter Try.func18, Try.ntmps18
    go_wp2_with (at_builtin; refine wpList_append_rw rfl _ _ rfl w.heap.size _ _ _ rfl (World.ownsRow_made w #[] 0 (Nat.le_refl _) (Nat.zero_le _) rfl) _ l rfl (HV.out.below (bnew _ _)) (by have := HL.out; omega) (by simp) ?_; intro v' w1 hown hgrow)
    go_ret
    refine ⟨v', rfl, by rw [← HN.out]; simpa using hown, ?_⟩
    exact ((Below.refl _ w).alloc (Nat.le_refl _) _).grown hgrow (by simp) (own_base (World.ownsRow_made (e := 5) (size := 1) w #[] 0 (Nat.le_refl _) (Nat.zero_le _) rfl))

/-! ### HasPrefix, CutPrefix -/
set_option maxHeartbeats 2000000 in
set_option maxRecDepth 100000 in
theorem bpre_at (v1 v2 : Value) (t s : List UInt8) (b : Bool) (w : World) (_ : t.length ≤ 1000000000) (_ : s.length ≤ 1000000000) (h1 : Rw eB w v1 t) (h2 : Rw eB w v2 s) (hb : b = true ↔ s <+: t) :
    Calls Try.prog 40 #[v1, v2] w fun e w' => e = .returned (.bool b) ∧ w = w' := by
  obtain ⟨n, hn⟩ : ∃ n, t.length = n := ⟨_, rfl⟩
  obtain ⟨m, hm'⟩ : ∃ m, s.length = m := ⟨_, rfl⟩
  obtain ⟨a1, c1, rfl, hc1, -⟩ := h1.form hn
  obtain ⟨a2, c2, rfl, -⟩ := h2.form hm'
  by_cases hlt : m ≤ n
  · have hd := h1.take m (by omega)
    have hs := run_upto und8 size8 a1 n c1 m (by omega) hc1
    have HE := Lib.hid (bequal_at _ _ _ _ b w hd h2 (by rw [hb, List.prefix_iff_eq_take, hm']; exact eq_comm))
    have hge : ((m : Int) ≤ (n : Int)) := by omega
    have hl' : n ≤ 1000000000 := by omega
    have hm2 : m ≤ 1000000000 := by omega
    clear hd h1 h2 hb hn hm'
    go_enter Try.func40, Try.ntmps40
    go_wp2_with (go_at_call 42; ((with_reducible refine (HE.out).mono ?_); rintro e w1 ⟨rfl, rfl⟩))
    go_ret
    exact ⟨rfl, rfl⟩
  · have hf : b = false := by
      cases b with
      | false => rfl
      | true =>
        have := (hb.1 rfl).length_le
        omega
    subst hf
    have hge : ¬ ((m : Int) ≤ (n : Int)) := by omega
    have hl' : n ≤ 1000000000 := by omega
    have hm2 : m ≤ 1000000000 := by omega
    clear h1 h2 hb hn hm'
    go_enter Try.func40, Try.ntmps40
    go_wp2
    go_ret
    exact ⟨rfl, rfl⟩
set_option maxHeartbeats 2000000 in
set_option maxRecDepth 100000 in
theorem cutp_no (a : Option Addr) (n c : Nat) (v2 : Value) (t s : List UInt8) (w : World) (hl : t.length ≤ 1000000000) (hm : s.length ≤ 1000000000) (h1 : Rw eB w (.slice a n c) t) (h2 : Rw eB w v2 s) (hb : ¬ s <+: t) :
    Calls Try.prog 32 #[.slice a n c, v2] w fun e w' => e = .returned (.tuple #[.slice a n c, .bool false]) ∧ w = w' := by
  have HP := Lib.hid (bpre_at _ _ t s false w hl hm h1 h2 (by simpa using hb))
  obtain ⟨a2, c2, rfl, -⟩ := h2
  clear h1 hb hl hm
  go_enter Try.func32, Try.ntmps32
  go_wp2_with (go_at_call 40; ((with_reducible refine (HP.out).mono ?_); rintro e w1 ⟨rfl, rfl⟩))
  refine bodyPost_ret (v := .tuple #[.slice a n c, .bool false]) (by simp [results, Try.results32, go_sem]) rfl ⟨rfl, rfl⟩
/-- b[m:], where it lies. -/
def dropV (a : Option Addr) (n c m : Nat) : Value := .slice (if c = m then a else a.map (·.add m)) (n - m) (c - m)
theorem drop_rw {w : World} {a : Option Addr} {n c : Nat} {b : List UInt8} (h : Rw eB w (.slice a n c) b) (m : Nat) (hm : m ≤ n) : Rw eB w (dropV a n c m) (b.drop m) := h.drop m hm
theorem drop_form (a : Option Addr) (n c m : Nat) : ∃ a' c', dropV a n c m = .slice a' (n - m) c' := ⟨_, _, rfl⟩
set_option maxHeartbeats 2000000 in
set_option maxRecDepth 100000 in
theorem cutp_yes (a : Option Addr) (n c m : Nat) (v2 : Value) (t s : List UInt8) (w : World) (hl : t.length ≤ 1000000000) (hm : s.length ≤ 1000000000) (h1 : Rw eB w (.slice a n c) t) (h2 : Rw eB w v2 s) (hb : s <+: t) (hm' : s.length = m) :
    Calls Try.prog 32 #[.slice a n c, v2] w fun e w' => e = .returned (.tuple #[dropV a n c m, .bool true]) ∧ w = w' := by
  have HP := Lib.hid (bpre_at _ _ t s true w hl hm h1 h2 (by simpa using hb))
  obtain ⟨a2, c2, rfl, -⟩ := h2.form hm'
  obtain ⟨hn, hc1, -, -⟩ := h1.at
  have hlen := hb.length_le
  have hs := run_from und8 size8 a n c m (by omega) hc1
  unfold dropV
  generalize (if c = m then a else a.map (·.add m)) = a3 at hs ⊢
  generalize c - m = c3 at hs ⊢
  generalize n - m = n3 at hs ⊢
  rw [hm'] at hm
  clear h1 h2 hb hl hm' hlen hn hc1
  go_enter Try.func32, Try.ntmps32
  go_wp2_with (go_at_call 40; ((with_reducible refine (HP.out).mono ?_); rintro e w1 ⟨rfl, rfl⟩))
  refine bodyPost_ret (v := .tuple #[.slice a3 n3 c3, .bool true]) (by simp [results, Try.results32, go_sem]) rfl ⟨rfl, rfl⟩
end Go.Proofs.Ytdamijicombmkaa.L15
