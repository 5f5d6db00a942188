/- What the reference's Same of bytes and of sections return: whether they are equal. Conditions: memory holds them; bytes are no more than 1000000000, sections no more than 100000. -/
import Derived.Test.YtdamijicombmkaaL15Ck
namespace Go.Proofs.Ytdamijicombmkaa.L15
open Go.RowKit L14
attribute [local go_sem] Oper.semAt_some

theorem take_eq {α : Type} {l m : List α} {k : Nat} (h1 : k < l.length) (h2 : k < m.length) (h : l.take k = m.take k) (e : l[k] = m[k]) : l.take (k + 1) = m.take (k + 1) := by
  rw [List.take_add_one, List.take_add_one, h, List.getElem?_eq_getElem h1, List.getElem?_eq_getElem h2, e]
theorem take_all {α : Type} {l m : List α} {n : Nat} (h1 : l.length = n) (h2 : m.length = n) (h : l.take n = m.take n) : l = m := by
  rwa [List.take_of_length_le (by omega), List.take_of_length_le (by omega)] at h
theorem off_len {α : Type} {l m : List α} {b : Bool} {n n' : Nat} (hn : l.length = n) (hn' : m.length = n') (hne : ¬ n = n') (hb : b = true ↔ l = m) : b = false := by
  cases b with
  | false => rfl
  | true =>
    have := hb.1 rfl
    subst this
    omega
theorem at_ne {α : Type} {l m : List α} {b : Bool} {k : Nat} (hk1 : k < l.length) (hk2 : k < m.length) (he : ¬ l[k] = m[k]) (hb : b = true ↔ l = m) : b = false := by
  cases b with
  | false => rfl
  | true =>
    have := hb.1 rfl
    subst this
    exact absurd rfl he
theorem byte_ne2 {x y : UInt8} (h : x ≠ y) : ((x.toNat : Int) == (y.toNat : Int)) = false ∧ ¬ (x.toNat : Int) = (y.toNat : Int) := by
  have : ¬ (x.toNat : Int) = (y.toNat : Int) := fun e => h (UInt8.toNat_inj.1 (by omega))
  exact ⟨by simpa using this, this⟩

set_option maxHeartbeats 4000000 in
set_option maxRecDepth 100000 in
theorem rsameB_at (v v' : Value) (l m : List UInt8) (b : Bool) (w : World) (hl : l.length ≤ 1000000000) (hm : m.length ≤ 1000000000) (hv : Rw eB w v l) (hv' : Rw eB w v' m) (hb : b = true ↔ l = m) :
    Calls Try.prog 16 #[v, v'] w fun e w' => e = .returned (.bool b) ∧ ∃ q, w' = w.drewN q := by
  obtain ⟨n, hn⟩ : ∃ n, l.length = n := ⟨_, rfl⟩
  obtain ⟨n', hn'⟩ : ∃ n, m.length = n := ⟨_, rfl⟩
  obtain ⟨a, c, rfl, -, -, hc⟩ := hv.form hn
  obtain ⟨a', c', rfl, -, -, hc'⟩ := hv'.form hn'
  rw [hn] at hl
  rw [hn'] at hm
  by_cases hne : n = n'
  · subst hne
    have HN := Lib.hid hn
    have HM := Lib.hid hn'
    have HC := Lib.hid hc
    have HC' := Lib.hid hc'
    have HB := Lib.hid hb
    clear hn hn' hc hc' hb hv hv'
    go_enter Try.func16, Try.ntmps16
    go_wp2
    go_loopw [5] (fun i wr => ∃ k q : Nat, k ≤ n ∧ i = .int .i64 (k : Int) ∧ wr = w.drewN q ∧ Hid (l.take k = m.take k)) (fun i _ => n - (intOf i).toNat)
    case atStart => exact ⟨0, 0, Nat.zero_le _, rfl, rfl, Lib.hid rfl⟩
    case round =>
      obtain ⟨k, q, hk, rfl, rfl, hT⟩ := hrel
      by_cases hlt : k < n
      · have hk1 : k < l.length := by rw [HN.out]; exact hlt
        have hk2 : k < m.length := by rw [HM.out]; exact hlt
        obtain ⟨b1, o1, rfl, hb1, hc1⟩ := HC.out (by omega)
        obtain ⟨b2, o2, rfl, hb2, hc2⟩ := HC'.out (by omega)
        have hx := hc1 k hk1
        have hy := hc2 k hk2
        clear hc1 hc2
        have hlt' : (k : Int) < (n : Int) := by omega
        by_cases he : l[k] = m[k]
        · have HT := Lib.hid (take_eq hk1 hk2 hT.out he)
          rw [← he] at hy
          obtain ⟨d, hd⟩ : ∃ d, l[k].toNat = d := ⟨_, rfl⟩
          unfold eB at hx hy
          rw [hd] at hx hy
          clear he hd hT
          go_wp2
          go_quiet (fail)
          go_wp2
          go_roundw
          case rel => exact ⟨k + 1, q + nq, by omega, by go_num, rfl, HT⟩
          case measure => simp [intOf]; omega
        · have HB2 := Lib.hid (at_ne hk1 hk2 he HB.out)
          obtain ⟨n1, n2⟩ := byte_ne2 he
          unfold eB at hx hy
          obtain ⟨d, hd⟩ : ∃ d, l[k].toNat = d := ⟨_, rfl⟩
          obtain ⟨d', hd'⟩ : ∃ d, m[k].toNat = d := ⟨_, rfl⟩
          rw [hd] at hx n1 n2
          rw [hd'] at hy n1 n2
          clear he hd hd' hT
          go_wp2
          go_quiet (fail)
          go_wp2
          go_ret
          rw [HB2.out]
          exact ⟨rfl, q + nq, World.drewN_drewN ..⟩
      · obtain rfl : k = n := by omega
        have HB2 : Hid (b = true) := Lib.hid (HB.out.2 (take_all HN.out HM.out hT.out))
        clear hT
        go_wp2
        go_ret
        rw [HB2.out]
        exact ⟨rfl, q, rfl⟩
  · obtain rfl := off_len hn hn' hne hb
    have h1 : ¬ (n : Int) = (n' : Int) := by omega
    have h2 : ((n : Int) == (n' : Int)) = false := by simpa using h1
    clear hn hn' hc hc' hb hv hv'
    go_enter Try.func16, Try.ntmps16
    go_wp2
    go_ret
    exact ⟨rfl, 0, rfl⟩

set_option maxHeartbeats 8000000 in
set_option maxRecDepth 100000 in
theorem rsame15_at (v v' : Value) (l m : List Sc) (b : Bool) (w : World) (hl : Sml l) (hm : Sml m) (hv : Ss w v l) (hv' : Ss w v' m) (hb : b = true ↔ l = m) :
    Calls Try.prog 21 #[v, v'] w fun e w' => e = .returned (.bool b) ∧ ∃ q, w' = w.drewN q := by
  obtain ⟨n, hn⟩ : ∃ n, l.length = n := ⟨_, rfl⟩
  obtain ⟨n', hn'⟩ : ∃ n, m.length = n := ⟨_, rfl⟩
  obtain ⟨a, c, rfl, -, -, hc⟩ := hv.form hn
  obtain ⟨a', c', rfl, -, -, hc'⟩ := hv'.form hn'
  have hln := hl.n
  have hmn := hm.n
  rw [hn] at hln
  rw [hn'] at hmn
  by_cases hne : n = n'
  · subst hne
    have HN := Lib.hid hn
    have HM := Lib.hid hn'
    have HC := Lib.hid hc
    have HC' := Lib.hid hc'
    have HB := Lib.hid hb
    have HD := Lib.hid (And.intro hl.d hm.d)
    clear hn hn' hc hc' hb hv hv' hl hm
    go_enter Try.func21, Try.ntmps21
    go_wp2
    go_loopw [5] (fun i wr => ∃ k q : Nat, k ≤ n ∧ i = .int .i64 (k : Int) ∧ wr = w.drewN q ∧ Hid (l.take k = m.take k)) (fun i _ => n - (intOf i).toNat)
    case atStart => exact ⟨0, 0, Nat.zero_le _, rfl, rfl, Lib.hid rfl⟩
    case round =>
      obtain ⟨k, q, hk, rfl, rfl, hT⟩ := hrel
      by_cases hlt : k < n
      · have hkl : k < l.length := by rw [HN.out]; exact hlt
        have hkm : k < m.length := by rw [HM.out]; exact hlt
        obtain ⟨b1, o1, rfl, hb1, hc1⟩ := HC.out (by omega)
        obtain ⟨b2, o2, rfl, hb2, hc2⟩ := HC'.out (by omega)
        obtain ⟨x0, dv1, x1, hr1⟩ := hc1 k hkl
        obtain ⟨y0, dv2, y1, hr2⟩ := hc2 k hkm
        obtain ⟨dn, hdn⟩ : ∃ dn, l[k].2.length = dn := ⟨_, rfl⟩
        obtain ⟨en, hen⟩ : ∃ en, m[k].2.length = en := ⟨_, rfl⟩
        have hS : ∀ b2 : Bool, (b2 = true ↔ l[k].2 = m[k].2) → ∀ W, (∃ q, W = w.drewN q) → Calls Try.prog 16 #[dv1, dv2] W fun e w' => e = .returned (.bool b2) ∧ ∃ q, w' = W.drewN q := by
          rintro b2 hb2 W ⟨q, rfl⟩
          have hb := bdN (Below.refl w.heap.size w) q
          exact rsameB_at _ _ _ _ b2 _ (by have := HD.out.1 _ (List.getElem_mem hkl); omega) (by have := HD.out.2 _ (List.getElem_mem hkm); omega) (hr1.below hb) (hr2.below hb) hb2
        obtain ⟨da, dc, rfl, -⟩ := hr1.form hdn
        obtain ⟨ea, ec, rfl, -⟩ := hr2.form hen
        have HE := Lib.hid (fun (e1 : l[k].1 = m[k].1) (e2 : l[k].2 = m[k].2) => take_eq hkl hkm hT.out (Prod.ext e1 e2))
        have HF := Lib.hid (fun (e : ¬ l[k] = m[k]) => at_ne hkl hkm e HB.out)
        have HP := Lib.hid (show l[k] = m[k] → l[k].1 = m[k].1 ∧ l[k].2 = m[k].2 from fun e => ⟨by rw [e], by rw [e]⟩)
        have HI := Lib.hid hS
        obtain ⟨k1, hk1⟩ : ∃ k1, l[k].1 = k1 := ⟨_, rfl⟩
        obtain ⟨k2, hk2⟩ : ∃ k2, m[k].1 = k2 := ⟨_, rfl⟩
        rw [hk1] at x0 HE HP
        rw [hk2] at y0 HE HP
        have hlt' : (k : Int) < (n : Int) := by omega
        clear hc1 hc2 hr1 hr2 hdn hen hS hk1 hk2
        by_cases hkk : k1 = k2
        · subst hkk
          have hkb : (k1 == k1) = true := by simp
          by_cases hd : l[k].2 = m[k].2
          · have HT := Lib.hid (HE.out rfl hd)
            have HS := Lib.hid (HI.out true (by simpa using hd))
            clear HE HF HP HI hd hT
            go_wp2
            refine wp_region_held_drew (S := fun W => ∃ q, W = w.drewN q) (by kernel_rfl) ⟨q + 1, rfl⟩ (fun hH => ?_)
            refine wpAnyH_take (i := 0) (oi := ⟨some 17, .move (.tmp 0), _, _, _, none⟩) (v := .slice (some ⟨b1, o1, none⟩) n c) rfl (by kernel_rfl) (by kernel_rfl) (by kernel_rfl) (fun _ _ _ h => h) (Or.inl ⟨by rfl, fun wS hS => by rfl⟩) hH ?_
            simp only [Act.put, List.setIfInBounds_toArray, List.set_cons_zero, List.set_cons_succ]
            refine wpAnyH_take (i := 1) (oi := ⟨some 18, .move (.tmp 5), _, _, _, none⟩) (v := .int .i64 (k : Int)) rfl (by kernel_rfl) (by kernel_rfl) (by kernel_rfl) (fun _ _ _ h => h) (Or.inl ⟨by rfl, fun wS hS => by rfl⟩) hH ?_
            simp only [Act.put, List.setIfInBounds_toArray, List.set_cons_zero, List.set_cons_succ]
            refine wpAnyH_take (i := 2) (oi := ⟨some 19, .indexAddr 22 (.tmp 17) (.tmp 18), _, _, _, none⟩) (v := .pointer (some ⟨b1, o1 + k * 2, none⟩)) rfl (by kernel_rfl) (by kernel_rfl) (by kernel_rfl) (fun _ _ _ h => h) (Or.inl ⟨by rfl, fun wS hS => (by obtain ⟨q8, rfl⟩ := hS; go_simp)⟩) hH ?_
            simp only [Act.put, List.setIfInBounds_toArray, List.set_cons_zero, List.set_cons_succ]
            refine wpAnyH_take (i := 3) (oi := ⟨some 20, .fieldAddr 46 (.tmp 19) 0, _, _, _, none⟩) (v := .pointer (some ⟨b1, o1 + k * 2, none⟩)) rfl (by kernel_rfl) (by kernel_rfl) (by kernel_rfl) (fun _ _ _ h => h) (Or.inl ⟨by rfl, fun wS hS => (by obtain ⟨q8, rfl⟩ := hS; go_simp)⟩) hH ?_
            simp only [Act.put, List.setIfInBounds_toArray, List.set_cons_zero, List.set_cons_succ]
            refine wpAnyH_take (i := 4) (oi := ⟨some 21, .load 3 (.tmp 20), _, _, _, none⟩) (v := .int .i64 k1) rfl (by kernel_rfl) (by kernel_rfl) (by kernel_rfl) (fun _ _ _ h => h) (Or.inl ⟨by rfl, fun wS hS => (by obtain ⟨q8, rfl⟩ := hS; go_simp)⟩) hH ?_
            simp only [Act.put, List.setIfInBounds_toArray, List.set_cons_zero, List.set_cons_succ]
            refine wpAnyH_take (i := 5) (oi := ⟨some 22, .move (.tmp 1), _, _, _, none⟩) (v := .slice (some ⟨b2, o2, none⟩) n c') rfl (by kernel_rfl) (by kernel_rfl) (by kernel_rfl) (fun _ _ _ h => h) (Or.inl ⟨by rfl, fun wS hS => by rfl⟩) hH ?_
            simp only [Act.put, List.setIfInBounds_toArray, List.set_cons_zero, List.set_cons_succ]
            refine wpAnyH_take (i := 6) (oi := ⟨some 23, .move (.tmp 5), _, _, _, none⟩) (v := .int .i64 (k : Int)) rfl (by kernel_rfl) (by kernel_rfl) (by kernel_rfl) (fun _ _ _ h => h) (Or.inl ⟨by rfl, fun wS hS => by rfl⟩) hH ?_
            simp only [Act.put, List.setIfInBounds_toArray, List.set_cons_zero, List.set_cons_succ]
            refine wpAnyH_take (i := 7) (oi := ⟨some 24, .indexAddr 22 (.tmp 22) (.tmp 23), _, _, _, none⟩) (v := .pointer (some ⟨b2, o2 + k * 2, none⟩)) rfl (by kernel_rfl) (by kernel_rfl) (by kernel_rfl) (fun _ _ _ h => h) (Or.inl ⟨by rfl, fun wS hS => (by obtain ⟨q8, rfl⟩ := hS; go_simp)⟩) hH ?_
            simp only [Act.put, List.setIfInBounds_toArray, List.set_cons_zero, List.set_cons_succ]
            refine wpAnyH_take (i := 8) (oi := ⟨some 25, .fieldAddr 46 (.tmp 24) 0, _, _, _, none⟩) (v := .pointer (some ⟨b2, o2 + k * 2, none⟩)) rfl (by kernel_rfl) (by kernel_rfl) (by kernel_rfl) (fun _ _ _ h => h) (Or.inl ⟨by rfl, fun wS hS => (by obtain ⟨q8, rfl⟩ := hS; go_simp)⟩) hH ?_
            simp only [Act.put, List.setIfInBounds_toArray, List.set_cons_zero, List.set_cons_succ]
            refine wpAnyH_take (i := 9) (oi := ⟨some 26, .load 3 (.tmp 25), _, _, _, none⟩) (v := .int .i64 k1) rfl (by kernel_rfl) (by kernel_rfl) (by kernel_rfl) (fun _ _ _ h => h) (Or.inl ⟨by rfl, fun wS hS => (by obtain ⟨q8, rfl⟩ := hS; go_simp)⟩) hH ?_
            simp only [Act.put, List.setIfInBounds_toArray, List.set_cons_zero, List.set_cons_succ]
            refine wpAnyH_take (i := 10) (oi := ⟨some 27, .binOp .neq 3 (.tmp 21) (.tmp 26) 3, _, _, _, none⟩) (v := .bool false) rfl (by kernel_rfl) (by kernel_rfl) (by kernel_rfl) (fun _ _ _ h => h) (Or.inl ⟨by rfl, fun wS hS => (by obtain ⟨q8, rfl⟩ := hS; go_simp)⟩) hH ?_
            simp only [Act.put, List.setIfInBounds_toArray, List.set_cons_zero, List.set_cons_succ]
            refine wpAnyH_take (i := 11) (oi := ⟨some 28, .move (.tmp 27), _, _, _, none⟩) (v := .bool false) rfl (by kernel_rfl) (by kernel_rfl) (by kernel_rfl) (fun _ _ _ h => h) (Or.inl ⟨by rfl, fun wS hS => by rfl⟩) hH ?_
            simp only [Act.put, List.setIfInBounds_toArray, List.set_cons_zero, List.set_cons_succ]
            refine wpAnyH_take (i := 12) (oi := ⟨some 29, .move (.tmp 0), _, _, _, some (11, false)⟩) (v := .slice (some ⟨b1, o1, none⟩) n c) rfl (by kernel_rfl) (by kernel_rfl) (by kernel_rfl) (fun _ _ _ h => h) (Or.inl ⟨by rfl, fun wS hS => by rfl⟩) hH ?_
            simp only [Act.put, List.setIfInBounds_toArray, List.set_cons_zero, List.set_cons_succ]
            refine wpAnyH_take (i := 13) (oi := ⟨some 30, .move (.tmp 5), _, _, _, some (11, false)⟩) (v := .int .i64 (k : Int)) rfl (by kernel_rfl) (by kernel_rfl) (by kernel_rfl) (fun _ _ _ h => h) (Or.inl ⟨by rfl, fun wS hS => by rfl⟩) hH ?_
            simp only [Act.put, List.setIfInBounds_toArray, List.set_cons_zero, List.set_cons_succ]
            refine wpAnyH_take (i := 14) (oi := ⟨some 31, .indexAddr 22 (.tmp 29) (.tmp 30), _, _, _, some (11, false)⟩) (v := .pointer (some ⟨b1, o1 + k * 2, none⟩)) rfl (by kernel_rfl) (by kernel_rfl) (by kernel_rfl) (fun _ _ _ h => h) (Or.inl ⟨by rfl, fun wS hS => (by obtain ⟨q8, rfl⟩ := hS; go_simp)⟩) hH ?_
            simp only [Act.put, List.setIfInBounds_toArray, List.set_cons_zero, List.set_cons_succ]
            refine wpAnyH_take (i := 15) (oi := ⟨some 32, .fieldAddr 46 (.tmp 31) 1, _, _, _, some (11, false)⟩) (v := .pointer (some ⟨b1, o1 + k * 2 + 1, none⟩)) rfl (by kernel_rfl) (by kernel_rfl) (by kernel_rfl) (fun _ _ _ h => h) (Or.inl ⟨by rfl, fun wS hS => (by obtain ⟨q8, rfl⟩ := hS; go_simp)⟩) hH ?_
            simp only [Act.put, List.setIfInBounds_toArray, List.set_cons_zero, List.set_cons_succ]
            refine wpAnyH_take (i := 16) (oi := ⟨some 33, .load 25 (.tmp 32), _, _, _, some (11, false)⟩) (v := .slice da dn dc) rfl (by kernel_rfl) (by kernel_rfl) (by kernel_rfl) (fun _ _ _ h => h) (Or.inl ⟨by rfl, fun wS hS => (by obtain ⟨q8, rfl⟩ := hS; go_simp)⟩) hH ?_
            simp only [Act.put, List.setIfInBounds_toArray, List.set_cons_zero, List.set_cons_succ]
            refine wpAnyH_take (i := 17) (oi := ⟨some 34, .move (.tmp 1), _, _, _, some (11, false)⟩) (v := .slice (some ⟨b2, o2, none⟩) n c') rfl (by kernel_rfl) (by kernel_rfl) (by kernel_rfl) (fun _ _ _ h => h) (Or.inl ⟨by rfl, fun wS hS => by rfl⟩) hH ?_
            simp only [Act.put, List.setIfInBounds_toArray, List.set_cons_zero, List.set_cons_succ]
            refine wpAnyH_take (i := 18) (oi := ⟨some 35, .move (.tmp 5), _, _, _, some (11, false)⟩) (v := .int .i64 (k : Int)) rfl (by kernel_rfl) (by kernel_rfl) (by kernel_rfl) (fun _ _ _ h => h) (Or.inl ⟨by rfl, fun wS hS => by rfl⟩) hH ?_
            simp only [Act.put, List.setIfInBounds_toArray, List.set_cons_zero, List.set_cons_succ]
            refine wpAnyH_take (i := 19) (oi := ⟨some 36, .indexAddr 22 (.tmp 34) (.tmp 35), _, _, _, some (11, false)⟩) (v := .pointer (some ⟨b2, o2 + k * 2, none⟩)) rfl (by kernel_rfl) (by kernel_rfl) (by kernel_rfl) (fun _ _ _ h => h) (Or.inl ⟨by rfl, fun wS hS => (by obtain ⟨q8, rfl⟩ := hS; go_simp)⟩) hH ?_
            simp only [Act.put, List.setIfInBounds_toArray, List.set_cons_zero, List.set_cons_succ]
            refine wpAnyH_take (i := 20) (oi := ⟨some 37, .fieldAddr 46 (.tmp 36) 1, _, _, _, some (11, false)⟩) (v := .pointer (some ⟨b2, o2 + k * 2 + 1, none⟩)) rfl (by kernel_rfl) (by kernel_rfl) (by kernel_rfl) (fun _ _ _ h => h) (Or.inl ⟨by rfl, fun wS hS => (by obtain ⟨q8, rfl⟩ := hS; go_simp)⟩) hH ?_
            simp only [Act.put, List.setIfInBounds_toArray, List.set_cons_zero, List.set_cons_succ]
            refine wpAnyH_take (i := 21) (oi := ⟨some 38, .load 25 (.tmp 37), _, _, _, some (11, false)⟩) (v := .slice ea en ec) rfl (by kernel_rfl) (by kernel_rfl) (by kernel_rfl) (fun _ _ _ h => h) (Or.inl ⟨by rfl, fun wS hS => (by obtain ⟨q8, rfl⟩ := hS; go_simp)⟩) hH ?_
            simp only [Act.put, List.setIfInBounds_toArray, List.set_cons_zero, List.set_cons_succ]
            refine wpAnyH_ready (rs := [22]) (by kernel_rfl) (by simp) ?_
            refine AllReadyH.cons (o := ⟨some 39, .call ⟨.value (.func 16), #[.tmp 33, .tmp 38], #[25, 25]⟩, _, _, _, some (11, false)⟩) rfl (fun K hK => ?_) AllReadyH.nil
            go_simp
            refine (HS.out _ (by assumption)).mono ?_
            rintro e w9 ⟨rfl, q9, rfl⟩
            refine hK.out _ _ ⟨q + 1 + q9, World.drewN_drewN ..⟩ (fun hH2 => ?_)
            clear hK K hH
            (try simp only [Act.put, List.setIfInBounds_toArray, List.set_cons_zero, List.set_cons_succ])
            refine wpAnyH_take (i := 23) (oi := ⟨some 40, .unOp .not 4 (.tmp 39), _, _, _, some (11, false)⟩) (v := .bool false) rfl (by kernel_rfl) (by kernel_rfl) (by kernel_rfl) (fun _ _ _ h => h) (Or.inl ⟨by rfl, fun wS hS => (by obtain ⟨q8, rfl⟩ := hS; go_simp)⟩) hH2 ?_
            simp only [Act.put, List.setIfInBounds_toArray, List.set_cons_zero, List.set_cons_succ]
            refine wpAnyH_take (i := 24) (oi := ⟨some 41, .pick (.tmp 28) (.const (.bool true)) (.tmp 40), _, _, _, none⟩) (v := .bool false) rfl (by kernel_rfl) (by kernel_rfl) (by kernel_rfl) (fun _ _ _ h => h) (Or.inl ⟨by rfl, fun wS hS => by rfl⟩) hH2 ?_
            simp only [Act.put, List.setIfInBounds_toArray, List.set_cons_zero, List.set_cons_succ]
            refine wpAnyH_done (by kernel_rfl) ?_ _
            go_wp2
            obtain ⟨q8, hq8⟩ := hH2
            go_roundw
            case rel => exact ⟨k + 1, q + 1 + q9, by omega, by go_num, rfl, HT⟩
            case measure => simp [intOf]; omega
          · have HB2 := Lib.hid (HF.out (fun e => hd (HP.out e).2))
            have HS := Lib.hid (HI.out false (by simpa using hd))
            clear HE HF HP HI hd hT
            go_wp2
            refine wp_region_held_drew (S := fun W => ∃ q, W = w.drewN q) (by kernel_rfl) ⟨q + 1, rfl⟩ (fun hH => ?_)
            refine wpAnyH_take (i := 0) (oi := ⟨some 17, .move (.tmp 0), _, _, _, none⟩) (v := .slice (some ⟨b1, o1, none⟩) n c) rfl (by kernel_rfl) (by kernel_rfl) (by kernel_rfl) (fun _ _ _ h => h) (Or.inl ⟨by rfl, fun wS hS => by rfl⟩) hH ?_
            simp only [Act.put, List.setIfInBounds_toArray, List.set_cons_zero, List.set_cons_succ]
            refine wpAnyH_take (i := 1) (oi := ⟨some 18, .move (.tmp 5), _, _, _, none⟩) (v := .int .i64 (k : Int)) rfl (by kernel_rfl) (by kernel_rfl) (by kernel_rfl) (fun _ _ _ h => h) (Or.inl ⟨by rfl, fun wS hS => by rfl⟩) hH ?_
            simp only [Act.put, List.setIfInBounds_toArray, List.set_cons_zero, List.set_cons_succ]
            refine wpAnyH_take (i := 2) (oi := ⟨some 19, .indexAddr 22 (.tmp 17) (.tmp 18), _, _, _, none⟩) (v := .pointer (some ⟨b1, o1 + k * 2, none⟩)) rfl (by kernel_rfl) (by kernel_rfl) (by kernel_rfl) (fun _ _ _ h => h) (Or.inl ⟨by rfl, fun wS hS => (by obtain ⟨q8, rfl⟩ := hS; go_simp)⟩) hH ?_
            simp only [Act.put, List.setIfInBounds_toArray, List.set_cons_zero, List.set_cons_succ]
            refine wpAnyH_take (i := 3) (oi := ⟨some 20, .fieldAddr 46 (.tmp 19) 0, _, _, _, none⟩) (v := .pointer (some ⟨b1, o1 + k * 2, none⟩)) rfl (by kernel_rfl) (by kernel_rfl) (by kernel_rfl) (fun _ _ _ h => h) (Or.inl ⟨by rfl, fun wS hS => (by obtain ⟨q8, rfl⟩ := hS; go_simp)⟩) hH ?_
            simp only [Act.put, List.setIfInBounds_toArray, List.set_cons_zero, List.set_cons_succ]
            refine wpAnyH_take (i := 4) (oi := ⟨some 21, .load 3 (.tmp 20), _, _, _, none⟩) (v := .int .i64 k1) rfl (by kernel_rfl) (by kernel_rfl) (by kernel_rfl) (fun _ _ _ h => h) (Or.inl ⟨by rfl, fun wS hS => (by obtain ⟨q8, rfl⟩ := hS; go_simp)⟩) hH ?_
            simp only [Act.put, List.setIfInBounds_toArray, List.set_cons_zero, List.set_cons_succ]
            refine wpAnyH_take (i := 5) (oi := ⟨some 22, .move (.tmp 1), _, _, _, none⟩) (v := .slice (some ⟨b2, o2, none⟩) n c') rfl (by kernel_rfl) (by kernel_rfl) (by kernel_rfl) (fun _ _ _ h => h) (Or.inl ⟨by rfl, fun wS hS => by rfl⟩) hH ?_
            simp only [Act.put, List.setIfInBounds_toArray, List.set_cons_zero, List.set_cons_succ]
            refine wpAnyH_take (i := 6) (oi := ⟨some 23, .move (.tmp 5), _, _, _, none⟩) (v := .int .i64 (k : Int)) rfl (by kernel_rfl) (by kernel_rfl) (by kernel_rfl) (fun _ _ _ h => h) (Or.inl ⟨by rfl, fun wS hS => by rfl⟩) hH ?_
            simp only [Act.put, List.setIfInBounds_toArray, List.set_cons_zero, List.set_cons_succ]
            refine wpAnyH_take (i := 7) (oi := ⟨some 24, .indexAddr 22 (.tmp 22) (.tmp 23), _, _, _, none⟩) (v := .pointer (some ⟨b2, o2 + k * 2, none⟩)) rfl (by kernel_rfl) (by kernel_rfl) (by kernel_rfl) (fun _ _ _ h => h) (Or.inl ⟨by rfl, fun wS hS => (by obtain ⟨q8, rfl⟩ := hS; go_simp)⟩) hH ?_
            simp only [Act.put, List.setIfInBounds_toArray, List.set_cons_zero, List.set_cons_succ]
            refine wpAnyH_take (i := 8) (oi := ⟨some 25, .fieldAddr 46 (.tmp 24) 0, _, _, _, none⟩) (v := .pointer (some ⟨b2, o2 + k * 2, none⟩)) rfl (by kernel_rfl) (by kernel_rfl) (by kernel_rfl) (fun _ _ _ h => h) (Or.inl ⟨by rfl, fun wS hS => (by obtain ⟨q8, rfl⟩ := hS; go_simp)⟩) hH ?_
            simp only [Act.put, List.setIfInBounds_toArray, List.set_cons_zero, List.set_cons_succ]
            refine wpAnyH_take (i := 9) (oi := ⟨some 26, .load 3 (.tmp 25), _, _, _, none⟩) (v := .int .i64 k1) rfl (by kernel_rfl) (by kernel_rfl) (by kernel_rfl) (fun _ _ _ h => h) (Or.inl ⟨by rfl, fun wS hS => (by obtain ⟨q8, rfl⟩ := hS; go_simp)⟩) hH ?_
            simp only [Act.put, List.setIfInBounds_toArray, List.set_cons_zero, List.set_cons_succ]
            refine wpAnyH_take (i := 10) (oi := ⟨some 27, .binOp .neq 3 (.tmp 21) (.tmp 26) 3, _, _, _, none⟩) (v := .bool false) rfl (by kernel_rfl) (by kernel_rfl) (by kernel_rfl) (fun _ _ _ h => h) (Or.inl ⟨by rfl, fun wS hS => (by obtain ⟨q8, rfl⟩ := hS; go_simp)⟩) hH ?_
            simp only [Act.put, List.setIfInBounds_toArray, List.set_cons_zero, List.set_cons_succ]
            refine wpAnyH_take (i := 11) (oi := ⟨some 28, .move (.tmp 27), _, _, _, none⟩) (v := .bool false) rfl (by kernel_rfl) (by kernel_rfl) (by kernel_rfl) (fun _ _ _ h => h) (Or.inl ⟨by rfl, fun wS hS => by rfl⟩) hH ?_
            simp only [Act.put, List.setIfInBounds_toArray, List.set_cons_zero, List.set_cons_succ]
            refine wpAnyH_take (i := 12) (oi := ⟨some 29, .move (.tmp 0), _, _, _, some (11, false)⟩) (v := .slice (some ⟨b1, o1, none⟩) n c) rfl (by kernel_rfl) (by kernel_rfl) (by kernel_rfl) (fun _ _ _ h => h) (Or.inl ⟨by rfl, fun wS hS => by rfl⟩) hH ?_
            simp only [Act.put, List.setIfInBounds_toArray, List.set_cons_zero, List.set_cons_succ]
            refine wpAnyH_take (i := 13) (oi := ⟨some 30, .move (.tmp 5), _, _, _, some (11, false)⟩) (v := .int .i64 (k : Int)) rfl (by kernel_rfl) (by kernel_rfl) (by kernel_rfl) (fun _ _ _ h => h) (Or.inl ⟨by rfl, fun wS hS => by rfl⟩) hH ?_
            simp only [Act.put, List.setIfInBounds_toArray, List.set_cons_zero, List.set_cons_succ]
            refine wpAnyH_take (i := 14) (oi := ⟨some 31, .indexAddr 22 (.tmp 29) (.tmp 30), _, _, _, some (11, false)⟩) (v := .pointer (some ⟨b1, o1 + k * 2, none⟩)) rfl (by kernel_rfl) (by kernel_rfl) (by kernel_rfl) (fun _ _ _ h => h) (Or.inl ⟨by rfl, fun wS hS => (by obtain ⟨q8, rfl⟩ := hS; go_simp)⟩) hH ?_
            simp only [Act.put, List.setIfInBounds_toArray, List.set_cons_zero, List.set_cons_succ]
            refine wpAnyH_take (i := 15) (oi := ⟨some 32, .fieldAddr 46 (.tmp 31) 1, _, _, _, some (11, false)⟩) (v := .pointer (some ⟨b1, o1 + k * 2 + 1, none⟩)) rfl (by kernel_rfl) (by kernel_rfl) (by kernel_rfl) (fun _ _ _ h => h) (Or.inl ⟨by rfl, fun wS hS => (by obtain ⟨q8, rfl⟩ := hS; go_simp)⟩) hH ?_
            simp only [Act.put, List.setIfInBounds_toArray, List.set_cons_zero, List.set_cons_succ]
            refine wpAnyH_take (i := 16) (oi := ⟨some 33, .load 25 (.tmp 32), _, _, _, some (11, false)⟩) (v := .slice da dn dc) rfl (by kernel_rfl) (by kernel_rfl) (by kernel_rfl) (fun _ _ _ h => h) (Or.inl ⟨by rfl, fun wS hS => (by obtain ⟨q8, rfl⟩ := hS; go_simp)⟩) hH ?_
            simp only [Act.put, List.setIfInBounds_toArray, List.set_cons_zero, List.set_cons_succ]
            refine wpAnyH_take (i := 17) (oi := ⟨some 34, .move (.tmp 1), _, _, _, some (11, false)⟩) (v := .slice (some ⟨b2, o2, none⟩) n c') rfl (by kernel_rfl) (by kernel_rfl) (by kernel_rfl) (fun _ _ _ h => h) (Or.inl ⟨by rfl, fun wS hS => by rfl⟩) hH ?_
            simp only [Act.put, List.setIfInBounds_toArray, List.set_cons_zero, List.set_cons_succ]
            refine wpAnyH_take (i := 18) (oi := ⟨some 35, .move (.tmp 5), _, _, _, some (11, false)⟩) (v := .int .i64 (k : Int)) rfl (by kernel_rfl) (by kernel_rfl) (by kernel_rfl) (fun _ _ _ h => h) (Or.inl ⟨by rfl, fun wS hS => by rfl⟩) hH ?_
            simp only [Act.put, List.setIfInBounds_toArray, List.set_cons_zero, List.set_cons_succ]
            refine wpAnyH_take (i := 19) (oi := ⟨some 36, .indexAddr 22 (.tmp 34) (.tmp 35), _, _, _, some (11, false)⟩) (v := .pointer (some ⟨b2, o2 + k * 2, none⟩)) rfl (by kernel_rfl) (by kernel_rfl) (by kernel_rfl) (fun _ _ _ h => h) (Or.inl ⟨by rfl, fun wS hS => (by obtain ⟨q8, rfl⟩ := hS; go_simp)⟩) hH ?_
            simp only [Act.put, List.setIfInBounds_toArray, List.set_cons_zero, List.set_cons_succ]
            refine wpAnyH_take (i := 20) (oi := ⟨some 37, .fieldAddr 46 (.tmp 36) 1, _, _, _, some (11, false)⟩) (v := .pointer (some ⟨b2, o2 + k * 2 + 1, none⟩)) rfl (by kernel_rfl) (by kernel_rfl) (by kernel_rfl) (fun _ _ _ h => h) (Or.inl ⟨by rfl, fun wS hS => (by obtain ⟨q8, rfl⟩ := hS; go_simp)⟩) hH ?_
            simp only [Act.put, List.setIfInBounds_toArray, List.set_cons_zero, List.set_cons_succ]
            refine wpAnyH_take (i := 21) (oi := ⟨some 38, .load 25 (.tmp 37), _, _, _, some (11, false)⟩) (v := .slice ea en ec) rfl (by kernel_rfl) (by kernel_rfl) (by kernel_rfl) (fun _ _ _ h => h) (Or.inl ⟨by rfl, fun wS hS => (by obtain ⟨q8, rfl⟩ := hS; go_simp)⟩) hH ?_
            simp only [Act.put, List.setIfInBounds_toArray, List.set_cons_zero, List.set_cons_succ]
            refine wpAnyH_ready (rs := [22]) (by kernel_rfl) (by simp) ?_
            refine AllReadyH.cons (o := ⟨some 39, .call ⟨.value (.func 16), #[.tmp 33, .tmp 38], #[25, 25]⟩, _, _, _, some (11, false)⟩) rfl (fun K hK => ?_) AllReadyH.nil
            go_simp
            refine (HS.out _ (by assumption)).mono ?_
            rintro e w9 ⟨rfl, q9, rfl⟩
            refine hK.out _ _ ⟨q + 1 + q9, World.drewN_drewN ..⟩ (fun hH2 => ?_)
            clear hK K hH
            (try simp only [Act.put, List.setIfInBounds_toArray, List.set_cons_zero, List.set_cons_succ])
            refine wpAnyH_take (i := 23) (oi := ⟨some 40, .unOp .not 4 (.tmp 39), _, _, _, some (11, false)⟩) (v := .bool true) rfl (by kernel_rfl) (by kernel_rfl) (by kernel_rfl) (fun _ _ _ h => h) (Or.inl ⟨by rfl, fun wS hS => (by obtain ⟨q8, rfl⟩ := hS; go_simp)⟩) hH2 ?_
            simp only [Act.put, List.setIfInBounds_toArray, List.set_cons_zero, List.set_cons_succ]
            refine wpAnyH_take (i := 24) (oi := ⟨some 41, .pick (.tmp 28) (.const (.bool true)) (.tmp 40), _, _, _, none⟩) (v := .bool true) rfl (by kernel_rfl) (by kernel_rfl) (by kernel_rfl) (fun _ _ _ h => h) (Or.inl ⟨by rfl, fun wS hS => by rfl⟩) hH2 ?_
            simp only [Act.put, List.setIfInBounds_toArray, List.set_cons_zero, List.set_cons_succ]
            refine wpAnyH_done (by kernel_rfl) ?_ _
            go_wp2
            go_ret
            rw [HB2.out]
            exact ⟨rfl, hH2⟩
        · have HB2 := Lib.hid (HF.out (fun e => hkk (HP.out e).1))
          have hkb : (k1 == k2) = false := by simpa using hkk
          clear HE HF HP HI hT
          go_wp2
          refine wp_region_held_drew (S := fun W => ∃ q, W = w.drewN q) (by kernel_rfl) ⟨q + 1, rfl⟩ (fun hH => ?_)
          refine wpAnyH_take (i := 0) (oi := ⟨some 17, .move (.tmp 0), _, _, _, none⟩) (v := .slice (some ⟨b1, o1, none⟩) n c) rfl (by kernel_rfl) (by kernel_rfl) (by kernel_rfl) (fun _ _ _ h => h) (Or.inl ⟨by rfl, fun wS hS => by rfl⟩) hH ?_
          simp only [Act.put, List.setIfInBounds_toArray, List.set_cons_zero, List.set_cons_succ]
          refine wpAnyH_take (i := 1) (oi := ⟨some 18, .move (.tmp 5), _, _, _, none⟩) (v := .int .i64 (k : Int)) rfl (by kernel_rfl) (by kernel_rfl) (by kernel_rfl) (fun _ _ _ h => h) (Or.inl ⟨by rfl, fun wS hS => by rfl⟩) hH ?_
          simp only [Act.put, List.setIfInBounds_toArray, List.set_cons_zero, List.set_cons_succ]
          refine wpAnyH_take (i := 2) (oi := ⟨some 19, .indexAddr 22 (.tmp 17) (.tmp 18), _, _, _, none⟩) (v := .pointer (some ⟨b1, o1 + k * 2, none⟩)) rfl (by kernel_rfl) (by kernel_rfl) (by kernel_rfl) (fun _ _ _ h => h) (Or.inl ⟨by rfl, fun wS hS => (by obtain ⟨q8, rfl⟩ := hS; go_simp)⟩) hH ?_
          simp only [Act.put, List.setIfInBounds_toArray, List.set_cons_zero, List.set_cons_succ]
          refine wpAnyH_take (i := 3) (oi := ⟨some 20, .fieldAddr 46 (.tmp 19) 0, _, _, _, none⟩) (v := .pointer (some ⟨b1, o1 + k * 2, none⟩)) rfl (by kernel_rfl) (by kernel_rfl) (by kernel_rfl) (fun _ _ _ h => h) (Or.inl ⟨by rfl, fun wS hS => (by obtain ⟨q8, rfl⟩ := hS; go_simp)⟩) hH ?_
          simp only [Act.put, List.setIfInBounds_toArray, List.set_cons_zero, List.set_cons_succ]
          refine wpAnyH_take (i := 4) (oi := ⟨some 21, .load 3 (.tmp 20), _, _, _, none⟩) (v := .int .i64 k1) rfl (by kernel_rfl) (by kernel_rfl) (by kernel_rfl) (fun _ _ _ h => h) (Or.inl ⟨by rfl, fun wS hS => (by obtain ⟨q8, rfl⟩ := hS; go_simp)⟩) hH ?_
          simp only [Act.put, List.setIfInBounds_toArray, List.set_cons_zero, List.set_cons_succ]
          refine wpAnyH_take (i := 5) (oi := ⟨some 22, .move (.tmp 1), _, _, _, none⟩) (v := .slice (some ⟨b2, o2, none⟩) n c') rfl (by kernel_rfl) (by kernel_rfl) (by kernel_rfl) (fun _ _ _ h => h) (Or.inl ⟨by rfl, fun wS hS => by rfl⟩) hH ?_
          simp only [Act.put, List.setIfInBounds_toArray, List.set_cons_zero, List.set_cons_succ]
          refine wpAnyH_take (i := 6) (oi := ⟨some 23, .move (.tmp 5), _, _, _, none⟩) (v := .int .i64 (k : Int)) rfl (by kernel_rfl) (by kernel_rfl) (by kernel_rfl) (fun _ _ _ h => h) (Or.inl ⟨by rfl, fun wS hS => by rfl⟩) hH ?_
          simp only [Act.put, List.setIfInBounds_toArray, List.set_cons_zero, List.set_cons_succ]
          refine wpAnyH_take (i := 7) (oi := ⟨some 24, .indexAddr 22 (.tmp 22) (.tmp 23), _, _, _, none⟩) (v := .pointer (some ⟨b2, o2 + k * 2, none⟩)) rfl (by kernel_rfl) (by kernel_rfl) (by kernel_rfl) (fun _ _ _ h => h) (Or.inl ⟨by rfl, fun wS hS => (by obtain ⟨q8, rfl⟩ := hS; go_simp)⟩) hH ?_
          simp only [Act.put, List.setIfInBounds_toArray, List.set_cons_zero, List.set_cons_succ]
          refine wpAnyH_take (i := 8) (oi := ⟨some 25, .fieldAddr 46 (.tmp 24) 0, _, _, _, none⟩) (v := .pointer (some ⟨b2, o2 + k * 2, none⟩)) rfl (by kernel_rfl) (by kernel_rfl) (by kernel_rfl) (fun _ _ _ h => h) (Or.inl ⟨by rfl, fun wS hS => (by obtain ⟨q8, rfl⟩ := hS; go_simp)⟩) hH ?_
          simp only [Act.put, List.setIfInBounds_toArray, List.set_cons_zero, List.set_cons_succ]
          refine wpAnyH_take (i := 9) (oi := ⟨some 26, .load 3 (.tmp 25), _, _, _, none⟩) (v := .int .i64 k2) rfl (by kernel_rfl) (by kernel_rfl) (by kernel_rfl) (fun _ _ _ h => h) (Or.inl ⟨by rfl, fun wS hS => (by obtain ⟨q8, rfl⟩ := hS; go_simp)⟩) hH ?_
          simp only [Act.put, List.setIfInBounds_toArray, List.set_cons_zero, List.set_cons_succ]
          refine wpAnyH_take (i := 10) (oi := ⟨some 27, .binOp .neq 3 (.tmp 21) (.tmp 26) 3, _, _, _, none⟩) (v := .bool true) rfl (by kernel_rfl) (by kernel_rfl) (by kernel_rfl) (fun _ _ _ h => h) (Or.inl ⟨by rfl, fun wS hS => (by obtain ⟨q8, rfl⟩ := hS; go_simp)⟩) hH ?_
          simp only [Act.put, List.setIfInBounds_toArray, List.set_cons_zero, List.set_cons_succ]
          refine wpAnyH_take (i := 11) (oi := ⟨some 28, .move (.tmp 27), _, _, _, none⟩) (v := .bool true) rfl (by kernel_rfl) (by kernel_rfl) (by kernel_rfl) (fun _ _ _ h => h) (Or.inl ⟨by rfl, fun wS hS => by rfl⟩) hH ?_
          simp only [Act.put, List.setIfInBounds_toArray, List.set_cons_zero, List.set_cons_succ]
          refine wpAnyH_take (i := 12) (oi := ⟨some 29, .move (.tmp 0), _, _, _, some (11, false)⟩) (v := undef) rfl (by kernel_rfl) (by kernel_rfl) (by kernel_rfl) (fun _ _ _ h => h) (Or.inr ⟨by rfl, rfl⟩) hH ?_
          simp only [Act.put, List.setIfInBounds_toArray, List.set_cons_zero, List.set_cons_succ]
          refine wpAnyH_take (i := 13) (oi := ⟨some 30, .move (.tmp 5), _, _, _, some (11, false)⟩) (v := undef) rfl (by kernel_rfl) (by kernel_rfl) (by kernel_rfl) (fun _ _ _ h => h) (Or.inr ⟨by rfl, rfl⟩) hH ?_
          simp only [Act.put, List.setIfInBounds_toArray, List.set_cons_zero, List.set_cons_succ]
          refine wpAnyH_take (i := 14) (oi := ⟨some 31, .indexAddr 22 (.tmp 29) (.tmp 30), _, _, _, some (11, false)⟩) (v := undef) rfl (by kernel_rfl) (by kernel_rfl) (by kernel_rfl) (fun _ _ _ h => h) (Or.inr ⟨by rfl, rfl⟩) hH ?_
          simp only [Act.put, List.setIfInBounds_toArray, List.set_cons_zero, List.set_cons_succ]
          refine wpAnyH_take (i := 15) (oi := ⟨some 32, .fieldAddr 46 (.tmp 31) 1, _, _, _, some (11, false)⟩) (v := undef) rfl (by kernel_rfl) (by kernel_rfl) (by kernel_rfl) (fun _ _ _ h => h) (Or.inr ⟨by rfl, rfl⟩) hH ?_
          simp only [Act.put, List.setIfInBounds_toArray, List.set_cons_zero, List.set_cons_succ]
          refine wpAnyH_take (i := 16) (oi := ⟨some 33, .load 25 (.tmp 32), _, _, _, some (11, false)⟩) (v := undef) rfl (by kernel_rfl) (by kernel_rfl) (by kernel_rfl) (fun _ _ _ h => h) (Or.inr ⟨by rfl, rfl⟩) hH ?_
          simp only [Act.put, List.setIfInBounds_toArray, List.set_cons_zero, List.set_cons_succ]
          refine wpAnyH_take (i := 17) (oi := ⟨some 34, .move (.tmp 1), _, _, _, some (11, false)⟩) (v := undef) rfl (by kernel_rfl) (by kernel_rfl) (by kernel_rfl) (fun _ _ _ h => h) (Or.inr ⟨by rfl, rfl⟩) hH ?_
          simp only [Act.put, List.setIfInBounds_toArray, List.set_cons_zero, List.set_cons_succ]
          refine wpAnyH_take (i := 18) (oi := ⟨some 35, .move (.tmp 5), _, _, _, some (11, false)⟩) (v := undef) rfl (by kernel_rfl) (by kernel_rfl) (by kernel_rfl) (fun _ _ _ h => h) (Or.inr ⟨by rfl, rfl⟩) hH ?_
          simp only [Act.put, List.setIfInBounds_toArray, List.set_cons_zero, List.set_cons_succ]
          refine wpAnyH_take (i := 19) (oi := ⟨some 36, .indexAddr 22 (.tmp 34) (.tmp 35), _, _, _, some (11, false)⟩) (v := undef) rfl (by kernel_rfl) (by kernel_rfl) (by kernel_rfl) (fun _ _ _ h => h) (Or.inr ⟨by rfl, rfl⟩) hH ?_
          simp only [Act.put, List.setIfInBounds_toArray, List.set_cons_zero, List.set_cons_succ]
          refine wpAnyH_take (i := 20) (oi := ⟨some 37, .fieldAddr 46 (.tmp 36) 1, _, _, _, some (11, false)⟩) (v := undef) rfl (by kernel_rfl) (by kernel_rfl) (by kernel_rfl) (fun _ _ _ h => h) (Or.inr ⟨by rfl, rfl⟩) hH ?_
          simp only [Act.put, List.setIfInBounds_toArray, List.set_cons_zero, List.set_cons_succ]
          refine wpAnyH_take (i := 21) (oi := ⟨some 38, .load 25 (.tmp 37), _, _, _, some (11, false)⟩) (v := undef) rfl (by kernel_rfl) (by kernel_rfl) (by kernel_rfl) (fun _ _ _ h => h) (Or.inr ⟨by rfl, rfl⟩) hH ?_
          simp only [Act.put, List.setIfInBounds_toArray, List.set_cons_zero, List.set_cons_succ]
          refine wpAnyH_take (i := 22) (oi := ⟨some 39, .call ⟨.value (.func 16), #[.tmp 33, .tmp 38], #[25, 25]⟩, _, _, _, some (11, false)⟩) (v := undef) rfl (by kernel_rfl) (by kernel_rfl) (by kernel_rfl) (fun _ _ _ h => h) (Or.inr ⟨by rfl, rfl⟩) hH ?_
          simp only [Act.put, List.setIfInBounds_toArray, List.set_cons_zero, List.set_cons_succ]
          refine wpAnyH_take (i := 23) (oi := ⟨some 40, .unOp .not 4 (.tmp 39), _, _, _, some (11, false)⟩) (v := undef) rfl (by kernel_rfl) (by kernel_rfl) (by kernel_rfl) (fun _ _ _ h => h) (Or.inr ⟨by rfl, rfl⟩) hH ?_
          simp only [Act.put, List.setIfInBounds_toArray, List.set_cons_zero, List.set_cons_succ]
          refine wpAnyH_take (i := 24) (oi := ⟨some 41, .pick (.tmp 28) (.const (.bool true)) (.tmp 40), _, _, _, none⟩) (v := .bool true) rfl (by kernel_rfl) (by kernel_rfl) (by kernel_rfl) (fun _ _ _ h => h) (Or.inl ⟨by rfl, fun wS hS => by rfl⟩) hH ?_
          simp only [Act.put, List.setIfInBounds_toArray, List.set_cons_zero, List.set_cons_succ]
          refine wpAnyH_done (by kernel_rfl) ?_ _
          go_wp2
          go_ret
          rw [HB2.out]
          exact ⟨rfl, hH⟩
      · obtain rfl : k = n := by omega
        have HB2 : Hid (b = true) := Lib.hid (HB.out.2 (take_all HN.out HM.out hT.out))
        clear hT
        go_wp2
        go_ret
        rw [HB2.out]
        exact ⟨rfl, q, rfl⟩
  · obtain rfl := off_len hn hn' hne hb
    have h1 : ¬ (n : Int) = (n' : Int) := by omega
    have h2 : ((n : Int) == (n' : Int)) = false := by simpa using h1
    clear hn hn' hc hc' hb hv hv' hl hm
    go_enter Try.func21, Try.ntmps21
    go_wp2
    go_ret
    exact ⟨rfl, 0, rfl⟩
end Go.Proofs.Ytdamijicombmkaa.L15
