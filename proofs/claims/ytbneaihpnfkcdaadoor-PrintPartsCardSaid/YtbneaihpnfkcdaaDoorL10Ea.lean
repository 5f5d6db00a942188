/- What the searches return that the program's each makes, one for each check: the first element with an error, and the error. Condition: memory holds the list and the check; each check is given by its contract. -/
import Derived.Test.YtbneaihpnfkcdaaDoorL10Cks
namespace Go.Proofs.YtbneaihpnfkcdaaDoor.L10
open Go.RowKit Go.Maps
attribute [local go_sem] Oper.semAt_some

/-- What a frame changes holds no cells. -/
def NoC (w : World) (o : Option Nat) : Prop := ∀ g, o = some g → ∀ cs t fr, w.heap[g]? ≠ some (.cells cs t fr)
theorem gr_cell {w W : World} {o : Option Nat} {p : Addr} {v : Value} (hg : w.grownBy W o) (hn : NoC w o) (h : w.cell? p = some v) : W.cell? p = some v := by
  refine hg.cell h ?_
  intro e
  unfold World.cell? at h
  split at h
  · exact hn p.block e.symm _ _ _ ‹_›
  · cases h
theorem gr_row {w W : World} {o : Option Nat} {k : Nat} {cs : Array Value} {t : TypeId} {fr : Nat × Nat} (hg : w.grownBy W o) (hn : NoC w o) (h : w.heap[k]? = some (.cells cs t fr)) : W.heap[k]? = some (.cells cs t fr) := by
  refine (hg.block k (Array.getElem?_eq_some_iff.1 h).1 ?_).trans h
  intro e
  exact hn k e.symm _ _ _ h
theorem gr_refl (w : World) (o : Option Nat) : w.grownBy w o := ⟨rfl, rfl, rfl, Nat.le_refl _, fun _ _ _ => rfl⟩
theorem gr_of {w W : World} (h : Below w.heap.size w W) (o : Option Nat) : w.grownBy W o := ⟨h.os, h.tape, h.output, h.size, fun k hk _ => h.block k hk⟩
theorem gr_to {w W : World} (h : w.grownBy W none) : Below w.heap.size w W := ⟨h.os, h.tape, h.output, h.size, fun k hk => h.block k hk (by simp)⟩
theorem gr_tr {w a b : World} {o : Option Nat} (h : w.grownBy a o) (k : a.grownBy b o) : w.grownBy b o := ⟨k.os.trans h.os, k.tape.trans h.tape, k.output.trans h.output, Nat.le_trans h.size k.size, fun x hx hn => (k.block x (Nat.lt_of_lt_of_le hx h.size) hn).trans (h.block x hx hn)⟩
theorem st_gr {w W : World} {o : Option Nat} {v : Value} {l : List ByteArray} (h : L8.StAt w v l) (hg : w.grownBy W o) (hn : NoC w o) : L8.StAt W v l := by
  rcases h with ⟨b, i, cap, rfl, hlt, hc⟩ | h
  · exact .inl ⟨b, i, cap, rfl, Nat.lt_of_lt_of_le hlt hg.size, fun j hj => gr_cell hg hn (hc j hj)⟩
  · exact .inr h
theorem df_form {w : World} {v : Value} {l : List L9.Df} {n : Nat} (hn : l.length = n) (h : DfAt w v l) : ∃ a c, v = .slice a n c ∧ (0 < n → ∃ b o, a = some ⟨b, o, none⟩ ∧ b < w.heap.size ∧ ∀ j, (h : j < l.length) → ∀ i u, (dfL l[j])[i]? = some u → w.cell? ⟨b, o + j * 4 + i, none⟩ = some u) := by
  subst hn
  rcases h with ⟨b, o, cap, rfl, hb, hc⟩ | ⟨rfl, a, cap, rfl⟩
  · exact ⟨_, _, rfl, fun _ => ⟨b, o, rfl, hb, hc⟩⟩
  · exact ⟨a, cap, rfl, fun h => absurd h (by simp)⟩
theorem sm_form {w : World} {v : Value} {l : List Stm} {n : Nat} (hn : l.length = n) (h : SmAt w v l) : ∃ a c, v = .slice a n c ∧ (0 < n → ∃ b o, a = some ⟨b, o, none⟩ ∧ b < w.heap.size ∧ ∀ j, (h : j < l.length) → ∃ lv, L8.StAt w lv l[j].labs ∧ ∀ i u, (smL lv l[j])[i]? = some u → w.cell? ⟨b, o + j * 9 + i, none⟩ = some u) := by
  subst hn
  rcases h with ⟨b, o, cap, rfl, hb, hc⟩ | ⟨rfl, a, cap, rfl⟩
  · exact ⟨_, _, rfl, fun _ => ⟨b, o, rfl, hb, hc⟩⟩
  · exact ⟨a, cap, rfl, fun h => absurd h (by simp)⟩
theorem fe_step {es : List Int} {j n : Nat} (hn : es.length = n) (hj : j < n) (h : feF j (es.drop j) = fe es) : (es.getD j 0 = 0 → feF (j + 1) (es.drop (j + 1)) = fe es) ∧ (es.getD j 0 ≠ 0 → fe es = (j, es.getD j 0)) := by
  have hjl : j < es.length := by omega
  have e : es.getD j 0 = es[j] := by simp [List.getD, List.getElem?_eq_getElem hjl]
  rw [feF_step es j hjl] at h
  rw [e]
  exact ⟨fun h0 => by rw [if_pos h0] at h; exact h, fun h0 => by rw [if_neg h0] at h; exact h.symm⟩
theorem fe_end {es : List Int} {n : Nat} (hn : es.length = n) (h : feF n (es.drop n) = fe es) : fe es = (0, 0) := by
  rw [← h, feF_end es n (by omega)]
/-- What a search comes to. -/
def EaP (o : Option Nat) (n : Nat) (es : List Int) (Q : Nat → World → Prop) (w : World) (e : Ending) (w' : World) : Prop :=
  e = .returned (.tuple #[.int .i64 ((fe es).1 : Int), .int .i64 (fe es).2]) ∧ w.grownBy w' o ∧ ((fe es).2 = 0 → Q n w')
set_option maxHeartbeats 1000000 in
set_option maxRecDepth 100000 in
theorem each1 (o : Option Nat) (kb kf : Nat) (vm : Value) (l : List L9.Df) (es : List Int) (Q : Nat → World → Prop) (w : World) (hv : DfAt w vm l) (hm : l.length ≤ 100000) (he : es.length = l.length)
    (hb : w.cell? ⟨kb, 0, none⟩ = some vm) (hf : w.cell? ⟨kf, 0, none⟩ = some (.func (.func 51) #[] #[])) (ho : NoC w o) (h0 : Q 0 w)
    (hQ : ∀ j W W', Q j W → Below W.heap.size W W' → Q j W')
    (hK : ∀ j (h : j < l.length) W, Q j W → Calls Tryd.prog 51 #[.int .i64 (j : Int), .agg (#[.string l[j].nm, .int .i64 l[j].key, .int .i64 l[j].val, .int .i64 l[j].ent])] W fun e W' => e = .returned (.int .i64 (es.getD j 0)) ∧ W.grownBy W' o ∧ (es.getD j 0 = 0 → Q (j + 1) W')) :
    Calls Tryd.prog 74 #[.pointer (some ⟨kb, 0, none⟩), .pointer (some ⟨kf, 0, none⟩)] w fun e w' => EaP o l.length es Q w e w' := by
  obtain ⟨n, hn⟩ : ∃ n, l.length = n := ⟨_, rfl⟩
  rw [hn] at hm he ⊢
  obtain ⟨a, cap, rfl, hc⟩ := df_form hn hv
  have HD := Lib.hid hc
  have HN := Lib.hid hn
  have HE := Lib.hid he
  have HK := Lib.hid hK
  have HQ := Lib.hid hQ
  have HO := Lib.hid ho
  have HF := Lib.hid hf
  have HI : Hid (w.grownBy w o ∧ Q 0 w) := Lib.hid ⟨gr_refl w o, h0⟩
  clear hc hn he hK hQ ho hf h0 hv
  go_enter Tryd.func74, Tryd.ntmps74
  go_wp2
  go_loopw [9] (fun i wr => ∃ j : Nat, j ≤ n ∧ i = .int .i64 (j : Int) ∧ Hid (w.grownBy wr o ∧ Q j wr) ∧ Hid (feF j (es.drop j) = fe es)) (fun i _ => n - (intOf i).toNat)
  case atStart => exact ⟨0, Nat.zero_le _, rfl, HI, Lib.hid rfl⟩
  case round =>
    obtain ⟨j, hj, rfl, hG, hL⟩ := hrel
    by_cases hlt : j < n
    · have hjl : j < l.length := by rw [HN.out]; exact hlt
      obtain ⟨b, o', rfl, hbl, hc⟩ := HD.out (by omega)
      obtain ⟨d, hd⟩ : ∃ d, l[j] = d := ⟨_, rfl⟩
      have hC := fun i u hu => gr_cell hG.out.1 HO.out (hc j hjl i u hu)
      have a0 := hC 0 _ rfl
      have a1 := hC 1 _ rfl
      have a2 := hC 2 _ rfl
      have a3 := hC 3 _ rfl
      have hk := HK.out j hjl
      rw [hd] at a0 a1 a2 a3 hk
      rw [Nat.add_zero] at a0
      clear hC
      have hfc := gr_cell hG.out.1 HO.out HF.out
      have hkf : kf < wr.heap.size := World.block_lt_of_cell? wr _ hfc
      have hlt' : (j : Int) < (n : Int) := by omega
      obtain ⟨ej, hej⟩ : ∃ ej, es.getD j 0 = ej := ⟨_, rfl⟩
      rw [hej] at hk
      obtain ⟨hs1, hs2⟩ := fe_step HE.out hlt hL.out
      rw [hej] at hs1 hs2
      have HK2 := Lib.hid (fun W hq => hk W hq)
      have HS1 := Lib.hid hs1
      have HS2 := Lib.hid hs2
      clear hk hs1 hs2 hej hd hc hL
      by_cases h0 : ej = 0
      · subst h0
        go_wp2_with (go_at_call 51; ((with_reducible refine (HK2.out _ (HQ.out _ _ _ hG.out.2 (L8.bnew wr _))).mono ?_); rintro e w1 ⟨rfl, g1, q1⟩))
        go_roundw
        case rel => exact ⟨j + 1, by omega, by go_num, Lib.hid ⟨gr_tr hG.out.1 (gr_tr (gr_of (L8.bnew wr _) o) g1), q1 (by trivial)⟩, Lib.hid (HS1.out (by trivial))⟩
        case measure => simp [intOf]; omega
      · go_wp2_with (go_at_call 51; ((with_reducible refine (HK2.out _ (HQ.out _ _ _ hG.out.2 (L8.bnew wr _))).mono ?_); rintro e w1 ⟨rfl, g1, q1⟩))
        go_ret2
        unfold EaP
        rw [HS2.out h0]
        exact ⟨rfl, gr_tr hG.out.1 (gr_tr (gr_of (L8.bnew wr _) o) g1), fun h => absurd h h0⟩
    · obtain rfl : j = n := by omega
      go_wp2
      go_ret2
      unfold EaP
      rw [fe_end HE.out hL.out]
      exact ⟨rfl, hG.out.1, fun _ => hG.out.2⟩
set_option maxHeartbeats 1000000 in
set_option maxRecDepth 100000 in
theorem each3 (o : Option Nat) (kb kf : Nat) (vm : Value) (l : List L9.Df) (es : List Int) (Q : Nat → World → Prop) (w : World) (hv : DfAt w vm l) (hm : l.length ≤ 100000) (he : es.length = l.length)
    (hb : w.cell? ⟨kb, 0, none⟩ = some vm) (hf : w.cell? ⟨kf, 0, none⟩ = some (.func (.func 56) #[] #[])) (ho : NoC w o) (h0 : Q 0 w)
    (hQ : ∀ j W W', Q j W → Below W.heap.size W W' → Q j W')
    (hK : ∀ j (h : j < l.length) W, Q j W → Calls Tryd.prog 56 #[.int .i64 (j : Int), .agg (#[.string l[j].nm, .int .i64 l[j].key, .int .i64 l[j].val, .int .i64 l[j].ent])] W fun e W' => e = .returned (.int .i64 (es.getD j 0)) ∧ W.grownBy W' o ∧ (es.getD j 0 = 0 → Q (j + 1) W')) :
    Calls Tryd.prog 74 #[.pointer (some ⟨kb, 0, none⟩), .pointer (some ⟨kf, 0, none⟩)] w fun e w' => EaP o l.length es Q w e w' := by
  obtain ⟨n, hn⟩ : ∃ n, l.length = n := ⟨_, rfl⟩
  rw [hn] at hm he ⊢
  obtain ⟨a, cap, rfl, hc⟩ := df_form hn hv
  have HD := Lib.hid hc
  have HN := Lib.hid hn
  have HE := Lib.hid he
  have HK := Lib.hid hK
  have HQ := Lib.hid hQ
  have HO := Lib.hid ho
  have HF := Lib.hid hf
  have HI : Hid (w.grownBy w o ∧ Q 0 w) := Lib.hid ⟨gr_refl w o, h0⟩
  clear hc hn he hK hQ ho hf h0 hv
  go_enter Tryd.func74, Tryd.ntmps74
  go_wp2
  go_loopw [9] (fun i wr => ∃ j : Nat, j ≤ n ∧ i = .int .i64 (j : Int) ∧ Hid (w.grownBy wr o ∧ Q j wr) ∧ Hid (feF j (es.drop j) = fe es)) (fun i _ => n - (intOf i).toNat)
  case atStart => exact ⟨0, Nat.zero_le _, rfl, HI, Lib.hid rfl⟩
  case round =>
    obtain ⟨j, hj, rfl, hG, hL⟩ := hrel
    by_cases hlt : j < n
    · have hjl : j < l.length := by rw [HN.out]; exact hlt
      obtain ⟨b, o', rfl, hbl, hc⟩ := HD.out (by omega)
      obtain ⟨d, hd⟩ : ∃ d, l[j] = d := ⟨_, rfl⟩
      have hC := fun i u hu => gr_cell hG.out.1 HO.out (hc j hjl i u hu)
      have a0 := hC 0 _ rfl
      have a1 := hC 1 _ rfl
      have a2 := hC 2 _ rfl
      have a3 := hC 3 _ rfl
      have hk := HK.out j hjl
      rw [hd] at a0 a1 a2 a3 hk
      rw [Nat.add_zero] at a0
      clear hC
      have hfc := gr_cell hG.out.1 HO.out HF.out
      have hkf : kf < wr.heap.size := World.block_lt_of_cell? wr _ hfc
      have hlt' : (j : Int) < (n : Int) := by omega
      obtain ⟨ej, hej⟩ : ∃ ej, es.getD j 0 = ej := ⟨_, rfl⟩
      rw [hej] at hk
      obtain ⟨hs1, hs2⟩ := fe_step HE.out hlt hL.out
      rw [hej] at hs1 hs2
      have HK2 := Lib.hid (fun W hq => hk W hq)
      have HS1 := Lib.hid hs1
      have HS2 := Lib.hid hs2
      clear hk hs1 hs2 hej hd hc hL
      by_cases h0 : ej = 0
      · subst h0
        go_wp2_with (go_at_call 56; ((with_reducible refine (HK2.out _ (HQ.out _ _ _ hG.out.2 (L8.bnew wr _))).mono ?_); rintro e w1 ⟨rfl, g1, q1⟩))
        go_roundw
        case rel => exact ⟨j + 1, by omega, by go_num, Lib.hid ⟨gr_tr hG.out.1 (gr_tr (gr_of (L8.bnew wr _) o) g1), q1 (by trivial)⟩, Lib.hid (HS1.out (by trivial))⟩
        case measure => simp [intOf]; omega
      · go_wp2_with (go_at_call 56; ((with_reducible refine (HK2.out _ (HQ.out _ _ _ hG.out.2 (L8.bnew wr _))).mono ?_); rintro e w1 ⟨rfl, g1, q1⟩))
        go_ret2
        unfold EaP
        rw [HS2.out h0]
        exact ⟨rfl, gr_tr hG.out.1 (gr_tr (gr_of (L8.bnew wr _) o) g1), fun h => absurd h h0⟩
    · obtain rfl : j = n := by omega
      go_wp2
      go_ret2
      unfold EaP
      rw [fe_end HE.out hL.out]
      exact ⟨rfl, hG.out.1, fun _ => hG.out.2⟩
set_option maxHeartbeats 1000000 in
set_option maxRecDepth 100000 in
theorem each4 (o : Option Nat) (kb kf k3 : Nat) (vm : Value) (l : List L9.Df) (es : List Int) (Q : Nat → World → Prop) (w : World) (hv : DfAt w vm l) (hm : l.length ≤ 100000) (he : es.length = l.length)
    (hb : w.cell? ⟨kb, 0, none⟩ = some vm) (hf : w.cell? ⟨kf, 0, none⟩ = some (.func (.func 58) #[] #[.pointer (some ⟨k3, 0, none⟩)])) (ho : NoC w o) (h0 : Q 0 w)
    (hQ : ∀ j W W', Q j W → Below W.heap.size W W' → Q j W')
    (hK : ∀ j (h : j < l.length) W, Q j W → Calls Tryd.prog 58 #[.int .i64 (j : Int), .agg (#[.string l[j].nm, .int .i64 l[j].key, .int .i64 l[j].val, .int .i64 l[j].ent]), .pointer (some ⟨k3, 0, none⟩)] W fun e W' => e = .returned (.int .i64 (es.getD j 0)) ∧ W.grownBy W' o ∧ (es.getD j 0 = 0 → Q (j + 1) W')) :
    Calls Tryd.prog 74 #[.pointer (some ⟨kb, 0, none⟩), .pointer (some ⟨kf, 0, none⟩)] w fun e w' => EaP o l.length es Q w e w' := by
  obtain ⟨n, hn⟩ : ∃ n, l.length = n := ⟨_, rfl⟩
  rw [hn] at hm he ⊢
  obtain ⟨a, cap, rfl, hc⟩ := df_form hn hv
  have HD := Lib.hid hc
  have HN := Lib.hid hn
  have HE := Lib.hid he
  have HK := Lib.hid hK
  have HQ := Lib.hid hQ
  have HO := Lib.hid ho
  have HF := Lib.hid hf
  have HI : Hid (w.grownBy w o ∧ Q 0 w) := Lib.hid ⟨gr_refl w o, h0⟩
  clear hc hn he hK hQ ho hf h0 hv
  go_enter Tryd.func74, Tryd.ntmps74
  go_wp2
  go_loopw [9] (fun i wr => ∃ j : Nat, j ≤ n ∧ i = .int .i64 (j : Int) ∧ Hid (w.grownBy wr o ∧ Q j wr) ∧ Hid (feF j (es.drop j) = fe es)) (fun i _ => n - (intOf i).toNat)
  case atStart => exact ⟨0, Nat.zero_le _, rfl, HI, Lib.hid rfl⟩
  case round =>
    obtain ⟨j, hj, rfl, hG, hL⟩ := hrel
    by_cases hlt : j < n
    · have hjl : j < l.length := by rw [HN.out]; exact hlt
      obtain ⟨b, o', rfl, hbl, hc⟩ := HD.out (by omega)
      obtain ⟨d, hd⟩ : ∃ d, l[j] = d := ⟨_, rfl⟩
      have hC := fun i u hu => gr_cell hG.out.1 HO.out (hc j hjl i u hu)
      have a0 := hC 0 _ rfl
      have a1 := hC 1 _ rfl
      have a2 := hC 2 _ rfl
      have a3 := hC 3 _ rfl
      have hk := HK.out j hjl
      rw [hd] at a0 a1 a2 a3 hk
      rw [Nat.add_zero] at a0
      clear hC
      have hfc := gr_cell hG.out.1 HO.out HF.out
      have hkf : kf < wr.heap.size := World.block_lt_of_cell? wr _ hfc
      have hlt' : (j : Int) < (n : Int) := by omega
      obtain ⟨ej, hej⟩ : ∃ ej, es.getD j 0 = ej := ⟨_, rfl⟩
      rw [hej] at hk
      obtain ⟨hs1, hs2⟩ := fe_step HE.out hlt hL.out
      rw [hej] at hs1 hs2
      have HK2 := Lib.hid (fun W hq => hk W hq)
      have HS1 := Lib.hid hs1
      have HS2 := Lib.hid hs2
      clear hk hs1 hs2 hej hd hc hL
      by_cases h0 : ej = 0
      · subst h0
        go_wp2_with (go_at_call 58; ((with_reducible refine (HK2.out _ (HQ.out _ _ _ hG.out.2 (L8.bnew wr _))).mono ?_); rintro e w1 ⟨rfl, g1, q1⟩))
        go_roundw
        case rel => exact ⟨j + 1, by omega, by go_num, Lib.hid ⟨gr_tr hG.out.1 (gr_tr (gr_of (L8.bnew wr _) o) g1), q1 (by trivial)⟩, Lib.hid (HS1.out (by trivial))⟩
        case measure => simp [intOf]; omega
      · go_wp2_with (go_at_call 58; ((with_reducible refine (HK2.out _ (HQ.out _ _ _ hG.out.2 (L8.bnew wr _))).mono ?_); rintro e w1 ⟨rfl, g1, q1⟩))
        go_ret2
        unfold EaP
        rw [HS2.out h0]
        exact ⟨rfl, gr_tr hG.out.1 (gr_tr (gr_of (L8.bnew wr _) o) g1), fun h => absurd h h0⟩
    · obtain rfl : j = n := by omega
      go_wp2
      go_ret2
      unfold EaP
      rw [fe_end HE.out hL.out]
      exact ⟨rfl, hG.out.1, fun _ => hG.out.2⟩
set_option maxHeartbeats 1000000 in
set_option maxRecDepth 100000 in
theorem each2 (o : Option Nat) (kb kf : Nat) (vm : Value) (l : List Stm) (es : List Int) (Q : Nat → World → Prop) (w : World) (hv : SmAt w vm l) (hm : l.length ≤ 100000) (he : es.length = l.length)
    (hb : w.cell? ⟨kb, 0, none⟩ = some vm) (hf : w.cell? ⟨kf, 0, none⟩ = some (.func (.func 54) #[] #[])) (ho : NoC w o) (h0 : Q 0 w)
    (hQ : ∀ j W W', Q j W → Below W.heap.size W W' → Q j W')
    (hK : ∀ j (h : j < l.length) lv W, L8.StAt W lv l[j].labs → Q j W → Calls Tryd.prog 54 #[.int .i64 (j : Int), .agg (smA lv l[j].x.op l[j].x.reg l[j].x.dst l[j].x.src l[j].x.off l[j].x.imm l[j].tg l[j].mp)] W fun e W' => e = .returned (.int .i64 (es.getD j 0)) ∧ W.grownBy W' o ∧ (es.getD j 0 = 0 → Q (j + 1) W')) :
    Calls Tryd.prog 77 #[.pointer (some ⟨kb, 0, none⟩), .pointer (some ⟨kf, 0, none⟩)] w fun e w' => EaP o l.length es Q w e w' := by
  obtain ⟨n, hn⟩ : ∃ n, l.length = n := ⟨_, rfl⟩
  rw [hn] at hm he ⊢
  obtain ⟨a, cap, rfl, hc⟩ := sm_form hn hv
  have HD := Lib.hid hc
  have HN := Lib.hid hn
  have HE := Lib.hid he
  have HK := Lib.hid hK
  have HQ := Lib.hid hQ
  have HO := Lib.hid ho
  have HF := Lib.hid hf
  have HI : Hid (w.grownBy w o ∧ Q 0 w) := Lib.hid ⟨gr_refl w o, h0⟩
  clear hc hn he hK hQ ho hf h0 hv
  go_enter Tryd.func77, Tryd.ntmps77
  go_wp2
  go_loopw [9] (fun i wr => ∃ j : Nat, j ≤ n ∧ i = .int .i64 (j : Int) ∧ Hid (w.grownBy wr o ∧ Q j wr) ∧ Hid (feF j (es.drop j) = fe es)) (fun i _ => n - (intOf i).toNat)
  case atStart => exact ⟨0, Nat.zero_le _, rfl, HI, Lib.hid rfl⟩
  case round =>
    obtain ⟨j, hj, rfl, hG, hL⟩ := hrel
    by_cases hlt : j < n
    · have hjl : j < l.length := by rw [HN.out]; exact hlt
      obtain ⟨b, o', rfl, hbl, hc⟩ := HD.out (by omega)
      obtain ⟨d, hd⟩ : ∃ d, l[j] = d := ⟨_, rfl⟩
      obtain ⟨lv, hst, hc2⟩ := hc j hjl
      obtain ⟨ln, hln⟩ : ∃ ln, l[j].labs.length = ln := ⟨_, rfl⟩
      obtain ⟨la, lc, rfl, -⟩ := st_form hln hst
      have hC := fun i u hu => gr_cell hG.out.1 HO.out (hc2 i u hu)
      have a0 := hC 0 _ rfl
      have a1 := hC 1 _ rfl
      have a2 := hC 2 _ rfl
      have a3 := hC 3 _ rfl
      have a4 := hC 4 _ rfl
      have a5 := hC 5 _ rfl
      have a6 := hC 6 _ rfl
      have a7 := hC 7 _ rfl
      have a8 := hC 8 _ rfl
      have hk := HK.out j hjl (.slice la ln lc)
      rw [hd] at a1 a2 a3 a4 a5 a6 a7 a8 hk hst
      rw [Nat.add_zero] at a0
      have HST := Lib.hid (st_gr hst hG.out.1 HO.out)
      clear hC hc2 hst hln
      have hfc := gr_cell hG.out.1 HO.out HF.out
      have hkf : kf < wr.heap.size := World.block_lt_of_cell? wr _ hfc
      have hlt' : (j : Int) < (n : Int) := by omega
      obtain ⟨ej, hej⟩ : ∃ ej, es.getD j 0 = ej := ⟨_, rfl⟩
      rw [hej] at hk
      obtain ⟨hs1, hs2⟩ := fe_step HE.out hlt hL.out
      rw [hej] at hs1 hs2
      have HK2 := Lib.hid (fun W hq hs => hk W hs hq)
      have HS1 := Lib.hid hs1
      have HS2 := Lib.hid hs2
      clear hk hs1 hs2 hej hd hc hL
      by_cases h0 : ej = 0
      · subst h0
        go_wp2_with (go_at_call 54; ((with_reducible refine (HK2.out _ (HQ.out _ _ _ hG.out.2 (L8.bnew wr _)) (HST.out.below (L8.bnew wr _))).mono ?_); rintro e w1 ⟨rfl, g1, q1⟩))
        go_roundw
        case rel => exact ⟨j + 1, by omega, by go_num, Lib.hid ⟨gr_tr hG.out.1 (gr_tr (gr_of (L8.bnew wr _) o) g1), q1 (by trivial)⟩, Lib.hid (HS1.out (by trivial))⟩
        case measure => simp [intOf]; omega
      · go_wp2_with (go_at_call 54; ((with_reducible refine (HK2.out _ (HQ.out _ _ _ hG.out.2 (L8.bnew wr _)) (HST.out.below (L8.bnew wr _))).mono ?_); rintro e w1 ⟨rfl, g1, q1⟩))
        go_ret2
        unfold EaP
        rw [HS2.out h0]
        exact ⟨rfl, gr_tr hG.out.1 (gr_tr (gr_of (L8.bnew wr _) o) g1), fun h => absurd h h0⟩
    · obtain rfl : j = n := by omega
      go_wp2
      go_ret2
      unfold EaP
      rw [fe_end HE.out hL.out]
      exact ⟨rfl, hG.out.1, fun _ => hG.out.2⟩
set_option maxHeartbeats 1000000 in
set_option maxRecDepth 100000 in
theorem each5 (o : Option Nat) (kb kf k4 : Nat) (vm : Value) (l : List Stm) (es : List Int) (Q : Nat → World → Prop) (w : World) (hv : SmAt w vm l) (hm : l.length ≤ 100000) (he : es.length = l.length)
    (hb : w.cell? ⟨kb, 0, none⟩ = some vm) (hf : w.cell? ⟨kf, 0, none⟩ = some (.func (.func 60) #[] #[.pointer (some ⟨k4, 0, none⟩)])) (ho : NoC w o) (h0 : Q 0 w)
    (hQ : ∀ j W W', Q j W → Below W.heap.size W W' → Q j W')
    (hK : ∀ j (h : j < l.length) lv W, L8.StAt W lv l[j].labs → Q j W → Calls Tryd.prog 60 #[.int .i64 (j : Int), .agg (smA lv l[j].x.op l[j].x.reg l[j].x.dst l[j].x.src l[j].x.off l[j].x.imm l[j].tg l[j].mp), .pointer (some ⟨k4, 0, none⟩)] W fun e W' => e = .returned (.int .i64 (es.getD j 0)) ∧ W.grownBy W' o ∧ (es.getD j 0 = 0 → Q (j + 1) W')) :
    Calls Tryd.prog 77 #[.pointer (some ⟨kb, 0, none⟩), .pointer (some ⟨kf, 0, none⟩)] w fun e w' => EaP o l.length es Q w e w' := by
  obtain ⟨n, hn⟩ : ∃ n, l.length = n := ⟨_, rfl⟩
  rw [hn] at hm he ⊢
  obtain ⟨a, cap, rfl, hc⟩ := sm_form hn hv
  have HD := Lib.hid hc
  have HN := Lib.hid hn
  have HE := Lib.hid he
  have HK := Lib.hid hK
  have HQ := Lib.hid hQ
  have HO := Lib.hid ho
  have HF := Lib.hid hf
  have HI : Hid (w.grownBy w o ∧ Q 0 w) := Lib.hid ⟨gr_refl w o, h0⟩
  clear hc hn he hK hQ ho hf h0 hv
  go_enter Tryd.func77, Tryd.ntmps77
  go_wp2
  go_loopw [9] (fun i wr => ∃ j : Nat, j ≤ n ∧ i = .int .i64 (j : Int) ∧ Hid (w.grownBy wr o ∧ Q j wr) ∧ Hid (feF j (es.drop j) = fe es)) (fun i _ => n - (intOf i).toNat)
  case atStart => exact ⟨0, Nat.zero_le _, rfl, HI, Lib.hid rfl⟩
  case round =>
    obtain ⟨j, hj, rfl, hG, hL⟩ := hrel
    by_cases hlt : j < n
    · have hjl : j < l.length := by rw [HN.out]; exact hlt
      obtain ⟨b, o', rfl, hbl, hc⟩ := HD.out (by omega)
      obtain ⟨d, hd⟩ : ∃ d, l[j] = d := ⟨_, rfl⟩
      obtain ⟨lv, hst, hc2⟩ := hc j hjl
      obtain ⟨ln, hln⟩ : ∃ ln, l[j].labs.length = ln := ⟨_, rfl⟩
      obtain ⟨la, lc, rfl, -⟩ := st_form hln hst
      have hC := fun i u hu => gr_cell hG.out.1 HO.out (hc2 i u hu)
      have a0 := hC 0 _ rfl
      have a1 := hC 1 _ rfl
      have a2 := hC 2 _ rfl
      have a3 := hC 3 _ rfl
      have a4 := hC 4 _ rfl
      have a5 := hC 5 _ rfl
      have a6 := hC 6 _ rfl
      have a7 := hC 7 _ rfl
      have a8 := hC 8 _ rfl
      have hk := HK.out j hjl (.slice la ln lc)
      rw [hd] at a1 a2 a3 a4 a5 a6 a7 a8 hk hst
      rw [Nat.add_zero] at a0
      have HST := Lib.hid (st_gr hst hG.out.1 HO.out)
      clear hC hc2 hst hln
      have hfc := gr_cell hG.out.1 HO.out HF.out
      have hkf : kf < wr.heap.size := World.block_lt_of_cell? wr _ hfc
      have hlt' : (j : Int) < (n : Int) := by omega
      obtain ⟨ej, hej⟩ : ∃ ej, es.getD j 0 = ej := ⟨_, rfl⟩
      rw [hej] at hk
      obtain ⟨hs1, hs2⟩ := fe_step HE.out hlt hL.out
      rw [hej] at hs1 hs2
      have HK2 := Lib.hid (fun W hq hs => hk W hs hq)
      have HS1 := Lib.hid hs1
      have HS2 := Lib.hid hs2
      clear hk hs1 hs2 hej hd hc hL
      by_cases h0 : ej = 0
      · subst h0
        go_wp2_with (go_at_call 60; ((with_reducible refine (HK2.out _ (HQ.out _ _ _ hG.out.2 (L8.bnew wr _)) (HST.out.below (L8.bnew wr _))).mono ?_); rintro e w1 ⟨rfl, g1, q1⟩))
        go_roundw
        case rel => exact ⟨j + 1, by omega, by go_num, Lib.hid ⟨gr_tr hG.out.1 (gr_tr (gr_of (L8.bnew wr _) o) g1), q1 (by trivial)⟩, Lib.hid (HS1.out (by trivial))⟩
        case measure => simp [intOf]; omega
      · go_wp2_with (go_at_call 60; ((with_reducible refine (HK2.out _ (HQ.out _ _ _ hG.out.2 (L8.bnew wr _)) (HST.out.below (L8.bnew wr _))).mono ?_); rintro e w1 ⟨rfl, g1, q1⟩))
        go_ret2
        unfold EaP
        rw [HS2.out h0]
        exact ⟨rfl, gr_tr hG.out.1 (gr_tr (gr_of (L8.bnew wr _) o) g1), fun h => absurd h h0⟩
    · obtain rfl : j = n := by omega
      go_wp2
      go_ret2
      unfold EaP
      rw [fe_end HE.out hL.out]
      exact ⟨rfl, hG.out.1, fun _ => hG.out.2⟩
set_option maxHeartbeats 1000000 in
set_option maxRecDepth 100000 in
theorem each7 (o : Option Nat) (kb kf k4 k3 : Nat) (vm : Value) (l : List Stm) (es : List Int) (Q : Nat → World → Prop) (w : World) (hv : SmAt w vm l) (hm : l.length ≤ 100000) (he : es.length = l.length)
    (hb : w.cell? ⟨kb, 0, none⟩ = some vm) (hf : w.cell? ⟨kf, 0, none⟩ = some (.func (.func 62) #[] #[.pointer (some ⟨k4, 0, none⟩), .pointer (some ⟨k3, 0, none⟩)])) (ho : NoC w o) (h0 : Q 0 w)
    (hQ : ∀ j W W', Q j W → Below W.heap.size W W' → Q j W')
    (hK : ∀ j (h : j < l.length) lv W, L8.StAt W lv l[j].labs → Q j W → Calls Tryd.prog 62 #[.int .i64 (j : Int), .agg (smA lv l[j].x.op l[j].x.reg l[j].x.dst l[j].x.src l[j].x.off l[j].x.imm l[j].tg l[j].mp), .pointer (some ⟨k4, 0, none⟩), .pointer (some ⟨k3, 0, none⟩)] W fun e W' => e = .returned (.int .i64 (es.getD j 0)) ∧ W.grownBy W' o ∧ (es.getD j 0 = 0 → Q (j + 1) W')) :
    Calls Tryd.prog 77 #[.pointer (some ⟨kb, 0, none⟩), .pointer (some ⟨kf, 0, none⟩)] w fun e w' => EaP o l.length es Q w e w' := by
  obtain ⟨n, hn⟩ : ∃ n, l.length = n := ⟨_, rfl⟩
  rw [hn] at hm he ⊢
  obtain ⟨a, cap, rfl, hc⟩ := sm_form hn hv
  have HD := Lib.hid hc
  have HN := Lib.hid hn
  have HE := Lib.hid he
  have HK := Lib.hid hK
  have HQ := Lib.hid hQ
  have HO := Lib.hid ho
  have HF := Lib.hid hf
  have HI : Hid (w.grownBy w o ∧ Q 0 w) := Lib.hid ⟨gr_refl w o, h0⟩
  clear hc hn he hK hQ ho hf h0 hv
  go_enter Tryd.func77, Tryd.ntmps77
  go_wp2
  go_loopw [9] (fun i wr => ∃ j : Nat, j ≤ n ∧ i = .int .i64 (j : Int) ∧ Hid (w.grownBy wr o ∧ Q j wr) ∧ Hid (feF j (es.drop j) = fe es)) (fun i _ => n - (intOf i).toNat)
  case atStart => exact ⟨0, Nat.zero_le _, rfl, HI, Lib.hid rfl⟩
  case round =>
    obtain ⟨j, hj, rfl, hG, hL⟩ := hrel
    by_cases hlt : j < n
    · have hjl : j < l.length := by rw [HN.out]; exact hlt
      obtain ⟨b, o', rfl, hbl, hc⟩ := HD.out (by omega)
      obtain ⟨d, hd⟩ : ∃ d, l[j] = d := ⟨_, rfl⟩
      obtain ⟨lv, hst, hc2⟩ := hc j hjl
      obtain ⟨ln, hln⟩ : ∃ ln, l[j].labs.length = ln := ⟨_, rfl⟩
      obtain ⟨la, lc, rfl, -⟩ := st_form hln hst
      have hC := fun i u hu => gr_cell hG.out.1 HO.out (hc2 i u hu)
      have a0 := hC 0 _ rfl
      have a1 := hC 1 _ rfl
      have a2 := hC 2 _ rfl
      have a3 := hC 3 _ rfl
      have a4 := hC 4 _ rfl
      have a5 := hC 5 _ rfl
      have a6 := hC 6 _ rfl
      have a7 := hC 7 _ rfl
      have a8 := hC 8 _ rfl
      have hk := HK.out j hjl (.slice la ln lc)
      rw [hd] at a1 a2 a3 a4 a5 a6 a7 a8 hk hst
      rw [Nat.add_zero] at a0
      have HST := Lib.hid (st_gr hst hG.out.1 HO.out)
      clear hC hc2 hst hln
      have hfc := gr_cell hG.out.1 HO.out HF.out
      have hkf : kf < wr.heap.size := World.block_lt_of_cell? wr _ hfc
      have hlt' : (j : Int) < (n : Int) := by omega
      obtain ⟨ej, hej⟩ : ∃ ej, es.getD j 0 = ej := ⟨_, rfl⟩
      rw [hej] at hk
      obtain ⟨hs1, hs2⟩ := fe_step HE.out hlt hL.out
      rw [hej] at hs1 hs2
      have HK2 := Lib.hid (fun W hq hs => hk W hs hq)
      have HS1 := Lib.hid hs1
      have HS2 := Lib.hid hs2
      clear hk hs1 hs2 hej hd hc hL
      by_cases h0 : ej = 0
      · subst h0
        go_wp2_with (go_at_call 62; ((with_reducible refine (HK2.out _ (HQ.out _ _ _ hG.out.2 (L8.bnew wr _)) (HST.out.below (L8.bnew wr _))).mono ?_); rintro e w1 ⟨rfl, g1, q1⟩))
        go_roundw
        case rel => exact ⟨j + 1, by omega, by go_num, Lib.hid ⟨gr_tr hG.out.1 (gr_tr (gr_of (L8.bnew wr _) o) g1), q1 (by trivial)⟩, Lib.hid (HS1.out (by trivial))⟩
        case measure => simp [intOf]; omega
      · go_wp2_with (go_at_call 62; ((with_reducible refine (HK2.out _ (HQ.out _ _ _ hG.out.2 (L8.bnew wr _)) (HST.out.below (L8.bnew wr _))).mono ?_); rintro e w1 ⟨rfl, g1, q1⟩))
        go_ret2
        unfold EaP
        rw [HS2.out h0]
        exact ⟨rfl, gr_tr hG.out.1 (gr_tr (gr_of (L8.bnew wr _) o) g1), fun h => absurd h h0⟩
    · obtain rfl : j = n := by omega
      go_wp2
      go_ret2
      unfold EaP
      rw [fe_end HE.out hL.out]
      exact ⟨rfl, hG.out.1, fun _ => hG.out.2⟩
set_option maxHeartbeats 1000000 in
set_option maxRecDepth 100000 in
theorem each8 (o : Option Nat) (kb kf : Nat) (vm : Value) (l : List Stm) (es : List Int) (Q : Nat → World → Prop) (w : World) (hv : SmAt w vm l) (hm : l.length ≤ 100000) (he : es.length = l.length)
    (hb : w.cell? ⟨kb, 0, none⟩ = some vm) (hf : w.cell? ⟨kf, 0, none⟩ = some (.func (.func 63) #[] #[])) (ho : NoC w o) (h0 : Q 0 w)
    (hQ : ∀ j W W', Q j W → Below W.heap.size W W' → Q j W')
    (hK : ∀ j (h : j < l.length) lv W, L8.StAt W lv l[j].labs → Q j W → Calls Tryd.prog 63 #[.int .i64 (j : Int), .agg (smA lv l[j].x.op l[j].x.reg l[j].x.dst l[j].x.src l[j].x.off l[j].x.imm l[j].tg l[j].mp)] W fun e W' => e = .returned (.int .i64 (es.getD j 0)) ∧ W.grownBy W' o ∧ (es.getD j 0 = 0 → Q (j + 1) W')) :
    Calls Tryd.prog 77 #[.pointer (some ⟨kb, 0, none⟩), .pointer (some ⟨kf, 0, none⟩)] w fun e w' => EaP o l.length es Q w e w' := by
  obtain ⟨n, hn⟩ : ∃ n, l.length = n := ⟨_, rfl⟩
  rw [hn] at hm he ⊢
  obtain ⟨a, cap, rfl, hc⟩ := sm_form hn hv
  have HD := Lib.hid hc
  have HN := Lib.hid hn
  have HE := Lib.hid he
  have HK := Lib.hid hK
  have HQ := Lib.hid hQ
  have HO := Lib.hid ho
  have HF := Lib.hid hf
  have HI : Hid (w.grownBy w o ∧ Q 0 w) := Lib.hid ⟨gr_refl w o, h0⟩
  clear hc hn he hK hQ ho hf h0 hv
  go_enter Tryd.func77, Tryd.ntmps77
  go_wp2
  go_loopw [9] (fun i wr => ∃ j : Nat, j ≤ n ∧ i = .int .i64 (j : Int) ∧ Hid (w.grownBy wr o ∧ Q j wr) ∧ Hid (feF j (es.drop j) = fe es)) (fun i _ => n - (intOf i).toNat)
  case atStart => exact ⟨0, Nat.zero_le _, rfl, HI, Lib.hid rfl⟩
  case round =>
    obtain ⟨j, hj, rfl, hG, hL⟩ := hrel
    by_cases hlt : j < n
    · have hjl : j < l.length := by rw [HN.out]; exact hlt
      obtain ⟨b, o', rfl, hbl, hc⟩ := HD.out (by omega)
      obtain ⟨d, hd⟩ : ∃ d, l[j] = d := ⟨_, rfl⟩
      obtain ⟨lv, hst, hc2⟩ := hc j hjl
      obtain ⟨ln, hln⟩ : ∃ ln, l[j].labs.length = ln := ⟨_, rfl⟩
      obtain ⟨la, lc, rfl, -⟩ := st_form hln hst
      have hC := fun i u hu => gr_cell hG.out.1 HO.out (hc2 i u hu)
      have a0 := hC 0 _ rfl
      have a1 := hC 1 _ rfl
      have a2 := hC 2 _ rfl
      have a3 := hC 3 _ rfl
      have a4 := hC 4 _ rfl
      have a5 := hC 5 _ rfl
      have a6 := hC 6 _ rfl
      have a7 := hC 7 _ rfl
      have a8 := hC 8 _ rfl
      have hk := HK.out j hjl (.slice la ln lc)
      rw [hd] at a1 a2 a3 a4 a5 a6 a7 a8 hk hst
      rw [Nat.add_zero] at a0
      have HST := Lib.hid (st_gr hst hG.out.1 HO.out)
      clear hC hc2 hst hln
      have hfc := gr_cell hG.out.1 HO.out HF.out
      have hkf : kf < wr.heap.size := World.block_lt_of_cell? wr _ hfc
      have hlt' : (j : Int) < (n : Int) := by omega
      obtain ⟨ej, hej⟩ : ∃ ej, es.getD j 0 = ej := ⟨_, rfl⟩
      rw [hej] at hk
      obtain ⟨hs1, hs2⟩ := fe_step HE.out hlt hL.out
      rw [hej] at hs1 hs2
      have HK2 := Lib.hid (fun W hq hs => hk W hs hq)
      have HS1 := Lib.hid hs1
      have HS2 := Lib.hid hs2
      clear hk hs1 hs2 hej hd hc hL
      by_cases h0 : ej = 0
      · subst h0
        go_wp2_with (go_at_call 63; ((with_reducible refine (HK2.out _ (HQ.out _ _ _ hG.out.2 (L8.bnew wr _)) (HST.out.below (L8.bnew wr _))).mono ?_); rintro e w1 ⟨rfl, g1, q1⟩))
        go_roundw
        case rel => exact ⟨j + 1, by omega, by go_num, Lib.hid ⟨gr_tr hG.out.1 (gr_tr (gr_of (L8.bnew wr _) o) g1), q1 (by trivial)⟩, Lib.hid (HS1.out (by trivial))⟩
        case measure => simp [intOf]; omega
      · go_wp2_with (go_at_call 63; ((with_reducible refine (HK2.out _ (HQ.out _ _ _ hG.out.2 (L8.bnew wr _)) (HST.out.below (L8.bnew wr _))).mono ?_); rintro e w1 ⟨rfl, g1, q1⟩))
        go_ret2
        unfold EaP
        rw [HS2.out h0]
        exact ⟨rfl, gr_tr hG.out.1 (gr_tr (gr_of (L8.bnew wr _) o) g1), fun h => absurd h h0⟩
    · obtain rfl : j = n := by omega
      go_wp2
      go_ret2
      unfold EaP
      rw [fe_end HE.out hL.out]
      exact ⟨rfl, hG.out.1, fun _ => hG.out.2⟩
set_option maxHeartbeats 1000000 in
set_option maxRecDepth 100000 in
theorem each9 (o : Option Nat) (kb kf k1 : Nat) (vm : Value) (l : List Stm) (es : List Int) (Q : Nat → World → Prop) (w : World) (hv : SmAt w vm l) (hm : l.length ≤ 100000) (he : es.length = l.length)
    (hb : w.cell? ⟨kb, 0, none⟩ = some vm) (hf : w.cell? ⟨kf, 0, none⟩ = some (.func (.func 65) #[] #[.pointer (some ⟨k1, 0, none⟩)])) (ho : NoC w o) (h0 : Q 0 w)
    (hQ : ∀ j W W', Q j W → Below W.heap.size W W' → Q j W')
    (hK : ∀ j (h : j < l.length) lv W, L8.StAt W lv l[j].labs → Q j W → Calls Tryd.prog 65 #[.int .i64 (j : Int), .agg (smA lv l[j].x.op l[j].x.reg l[j].x.dst l[j].x.src l[j].x.off l[j].x.imm l[j].tg l[j].mp), .pointer (some ⟨k1, 0, none⟩)] W fun e W' => e = .returned (.int .i64 (es.getD j 0)) ∧ W.grownBy W' o ∧ (es.getD j 0 = 0 → Q (j + 1) W')) :
    Calls Tryd.prog 77 #[.pointer (some ⟨kb, 0, none⟩), .pointer (some ⟨kf, 0, none⟩)] w fun e w' => EaP o l.length es Q w e w' := by
  obtain ⟨n, hn⟩ : ∃ n, l.length = n := ⟨_, rfl⟩
  rw [hn] at hm he ⊢
  obtain ⟨a, cap, rfl, hc⟩ := sm_form hn hv
  have HD := Lib.hid hc
  have HN := Lib.hid hn
  have HE := Lib.hid he
  have HK := Lib.hid hK
  have HQ := Lib.hid hQ
  have HO := Lib.hid ho
  have HF := Lib.hid hf
  have HI : Hid (w.grownBy w o ∧ Q 0 w) := Lib.hid ⟨gr_refl w o, h0⟩
  clear hc hn he hK hQ ho hf h0 hv
  go_enter Tryd.func77, Tryd.ntmps77
  go_wp2
  go_loopw [9] (fun i wr => ∃ j : Nat, j ≤ n ∧ i = .int .i64 (j : Int) ∧ Hid (w.grownBy wr o ∧ Q j wr) ∧ Hid (feF j (es.drop j) = fe es)) (fun i _ => n - (intOf i).toNat)
  case atStart => exact ⟨0, Nat.zero_le _, rfl, HI, Lib.hid rfl⟩
  case round =>
    obtain ⟨j, hj, rfl, hG, hL⟩ := hrel
    by_cases hlt : j < n
    · have hjl : j < l.length := by rw [HN.out]; exact hlt
      obtain ⟨b, o', rfl, hbl, hc⟩ := HD.out (by omega)
      obtain ⟨d, hd⟩ : ∃ d, l[j] = d := ⟨_, rfl⟩
      obtain ⟨lv, hst, hc2⟩ := hc j hjl
      obtain ⟨ln, hln⟩ : ∃ ln, l[j].labs.length = ln := ⟨_, rfl⟩
      obtain ⟨la, lc, rfl, -⟩ := st_form hln hst
      have hC := fun i u hu => gr_cell hG.out.1 HO.out (hc2 i u hu)
      have a0 := hC 0 _ rfl
      have a1 := hC 1 _ rfl
      have a2 := hC 2 _ rfl
      have a3 := hC 3 _ rfl
      have a4 := hC 4 _ rfl
      have a5 := hC 5 _ rfl
      have a6 := hC 6 _ rfl
      have a7 := hC 7 _ rfl
      have a8 := hC 8 _ rfl
      have hk := HK.out j hjl (.slice la ln lc)
      rw [hd] at a1 a2 a3 a4 a5 a6 a7 a8 hk hst
      rw [Nat.add_zero] at a0
      have HST := Lib.hid (st_gr hst hG.out.1 HO.out)
      clear hC hc2 hst hln
      have hfc := gr_cell hG.out.1 HO.out HF.out
      have hkf : kf < wr.heap.size := World.block_lt_of_cell? wr _ hfc
      have hlt' : (j : Int) < (n : Int) := by omega
      obtain ⟨ej, hej⟩ : ∃ ej, es.getD j 0 = ej := ⟨_, rfl⟩
      rw [hej] at hk
      obtain ⟨hs1, hs2⟩ := fe_step HE.out hlt hL.out
      rw [hej] at hs1 hs2
      have HK2 := Lib.hid (fun W hq hs => hk W hs hq)
      have HS1 := Lib.hid hs1
      have HS2 := Lib.hid hs2
      clear hk hs1 hs2 hej hd hc hL
      by_cases h0 : ej = 0
      · subst h0
        go_wp2_with (go_at_call 65; ((with_reducible refine (HK2.out _ (HQ.out _ _ _ hG.out.2 (L8.bnew wr _)) (HST.out.below (L8.bnew wr _))).mono ?_); rintro e w1 ⟨rfl, g1, q1⟩))
        go_roundw
        case rel => exact ⟨j + 1, by omega, by go_num, Lib.hid ⟨gr_tr hG.out.1 (gr_tr (gr_of (L8.bnew wr _) o) g1), q1 (by trivial)⟩, Lib.hid (HS1.out (by trivial))⟩
        case measure => simp [intOf]; omega
      · go_wp2_with (go_at_call 65; ((with_reducible refine (HK2.out _ (HQ.out _ _ _ hG.out.2 (L8.bnew wr _)) (HST.out.below (L8.bnew wr _))).mono ?_); rintro e w1 ⟨rfl, g1, q1⟩))
        go_ret2
        unfold EaP
        rw [HS2.out h0]
        exact ⟨rfl, gr_tr hG.out.1 (gr_tr (gr_of (L8.bnew wr _) o) g1), fun h => absurd h h0⟩
    · obtain rfl : j = n := by omega
      go_wp2
      go_ret2
      unfold EaP
      rw [fe_end HE.out hL.out]
      exact ⟨rfl, hG.out.1, fun _ => hG.out.2⟩
end Go.Proofs.YtbneaihpnfkcdaaDoor.L10
