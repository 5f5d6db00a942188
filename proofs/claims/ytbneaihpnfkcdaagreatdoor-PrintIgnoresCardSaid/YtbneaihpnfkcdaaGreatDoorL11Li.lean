/- PrintIgnores' walk: spaces and comments between the lines of a program do not change its text. Condition: the tables read as the program's text lays them. -/
import Derived.Test.YtbneaihpnfkcdaaGreatDoorM23
import Derived.Test.YtbneaihpnfkcdaaGreatDoorM26
import Derived.Test.YtbneaihpnfkcdaaGreatDoorL11Rpl
import Derived.Test.YtbneaihpnfkcdaaGreatDoorL10Par
import Derived.Deep.RegionHeld3
import Derived.Deep.RegionWith
namespace Go.Proofs.YtbneaihpnfkcdaaGreatDoor.L11
open Go.RowKit
open L10 (Stm Pg)
attribute [local go_sem] Oper.semAt_some

theorem ign_new (c : ByteArray) : ((⟨#[32, 59]⟩ : ByteArray) ++ c ++ ⟨#[10, 9, 10]⟩).data.toList = nwL c.data.toList := by
  simp [nwL]
def PI2 (w W : World) (k5 k9 : Nat) (va vb vc vd : Value) (p : Pg) : Prop :=
  Below w.heap.size w W ∧ W.heap[k5]? = some (.cells #[va, vb] 30) ∧ W.heap[k9]? = some (.cells #[vc, vd] 30) ∧ L10.PgAt W va vb p ∧ L10.PgAt W vc vd p
theorem keepPI {w W W' : World} {k5 k9 : Nat} {va vb vc vd : Value} {p : Pg} (hb : Below W.heap.size W W') (h : PI2 w W k5 k9 va vb vc vd p) :
    PI2 w W' k5 k9 va vb vc vd p ∧ W'.cell? ⟨k5, 0, none⟩ = some va ∧ W'.cell? ⟨k5, 1, none⟩ = some vb ∧ W'.cell? ⟨k9, 0, none⟩ = some vc ∧ W'.cell? ⟨k9, 1, none⟩ = some vd := by
  obtain ⟨h1, h2, h3, h4, h5⟩ := h
  have k2 := L8.row_up h2 hb
  have k3 := L8.row_up h3 hb
  obtain ⟨a, b⟩ := L10.cells2p k2
  obtain ⟨c, d⟩ := L10.cells2p k3
  exact ⟨⟨L2.bch h1 hb, k2, k3, h4.below hb, h5.below hb⟩, a, b, c, d⟩
theorem keepPIc {w W W' : World} {k5 k9 : Nat} {va vb vc vd : Value} {p : Pg} (hb : Below W.heap.size W W') (h : PI2 w W k5 k9 va vb vc vd p ∧ W.cell? ⟨k5, 0, none⟩ = some va ∧ W.cell? ⟨k5, 1, none⟩ = some vb ∧ W.cell? ⟨k9, 0, none⟩ = some vc ∧ W.cell? ⟨k9, 1, none⟩ = some vd) :
    PI2 w W' k5 k9 va vb vc vd p ∧ W'.cell? ⟨k5, 0, none⟩ = some va ∧ W'.cell? ⟨k5, 1, none⟩ = some vb ∧ W'.cell? ⟨k9, 0, none⟩ = some vc ∧ W'.cell? ⟨k9, 1, none⟩ = some vd := keepPI hb h.1
theorem beq_selfI (R : ByteArray) : (R.toList == R.toList) = true := by simp
theorem contains_at (c : ByteArray) (b : Bool) (hb : decide (0 ≤ Lib.indexByte c.data.toList 10) = b) (W : World) : Calls Tryz.prog 16 #[.string c, .string ⟨#[10]⟩] W fun e w' => e = .returned (.bool b) ∧ W = w' := by
  subst hb
  exact (Tryz.strings_Contains_one c 10 W).mono fun _ _ ⟨a, b⟩ => ⟨a, b.symm⟩
set_option maxHeartbeats 8000000 in
set_option maxRecDepth 100000 in
theorem ignores_walk (t : ByteArray) (ht : t.size ≤ maxLen) (c : ByteArray) (hcm : c.size ≤ maxLen) (w : World) (hT : Tb w) :
    Calls Tryz.prog 6 #[.string t, .string c] w fun e w' => e = .returned (.bool true) ∧ Below w.heap.size w w' := by
  have HA0 := Lib.hid (fun W hb => alive11 W (hT.below hb))
  have HTB := Lib.hid (fun W hb => hT.below (w' := W) hb)
  have HBIG := Lib.hid hT.big
  obtain ⟨v, hv, hl⟩ := long11 t ht
  have HL := Lib.hid hl
  obtain ⟨cb, hcb⟩ : ∃ cb, decide (0 ≤ Lib.indexByte c.data.toList 10) = cb := ⟨_, rfl⟩
  have HCN := Lib.hid (fun W => contains_at c cb hcb W)
  unfold maxLen at hcm
  rcases hv with rfl | ⟨rfl, hs, hct⟩
  · have hA : ∀ W, W = w → True := fun _ _ => trivial
    clear hT hl hA hcb
    by_cases hcz : 1000 < c.size
    all_goals
      cases cb
    all_goals
      go_enter Tryz.func6, Tryz.ntmps6
      go_wp2_with (first
        | (go_at_call 15; ((with_reducible refine (HL.out _).mono ?_); rintro e w1 ⟨rfl, rfl⟩))
        | (go_at_call 16; ((with_reducible refine (HCN.out _).mono ?_); rintro e w1 ⟨rfl, rfl⟩))
        | (go_at_call 7; ((with_reducible refine (HA0.out _ (Below.refl _ _)).mono ?_); rintro e w1 ⟨rfl, b1⟩)))
      go_ret
      exact ⟨rfl, b1⟩
  by_cases hcz : 1000 < c.size
  · clear hT hl hcb hs hct
    cases cb
    all_goals
      go_enter Tryz.func6, Tryz.ntmps6
      go_wp2_with (first
        | (go_at_call 15; ((with_reducible refine (HL.out _).mono ?_); rintro e w1 ⟨rfl, rfl⟩))
        | (go_at_call 16; ((with_reducible refine (HCN.out _).mono ?_); rintro e w1 ⟨rfl, rfl⟩))
        | (go_at_call 7; ((with_reducible refine (HA0.out _ (Below.refl _ _)).mono ?_); rintro e w1 ⟨rfl, b1⟩)))
      go_ret
      exact ⟨rfl, b1⟩
  cases cb
  case true =>
    clear hT hl hcb hs hct
    go_enter Tryz.func6, Tryz.ntmps6
    go_wp2_with (first
      | (go_at_call 15; ((with_reducible refine (HL.out _).mono ?_); rintro e w1 ⟨rfl, rfl⟩))
      | (go_at_call 16; ((with_reducible refine (HCN.out _).mono ?_); rintro e w1 ⟨rfl, rfl⟩))
      | (go_at_call 7; ((with_reducible refine (HA0.out _ (Below.refl _ _)).mono ?_); rintro e w1 ⟨rfl, b1⟩)))
    go_ret
    exact ⟨rfl, b1⟩
  have hno : (10 : UInt8) ∉ c.data.toList := ix_none _ (by simpa using hcb)
  have e59 : (⟨#[32, 59]⟩ : ByteArray).size = 2 := rfl
  have e10 : (⟨#[10, 9, 10]⟩ : ByteArray).size = 3 := rfl
  obtain ⟨N, hN⟩ : ∃ N, (⟨#[32, 59]⟩ : ByteArray) ++ c ++ ⟨#[10, 9, 10]⟩ = N := ⟨_, rfl⟩
  have hNs : N.size = 2 + c.size + 3 := by rw [← hN, app1, app1, e59, e10]
  have hNl : N.data.toList = nwL c.data.toList := by rw [← hN]; exact ign_new c
  obtain ⟨t2, ht2⟩ : ∃ t2 : ByteArray, (⟨(rpF N.data.toList t.data.toList).toArray⟩ : ByteArray) = t2 := ⟨_, rfl⟩
  have ht2l : t2.data.toList = rpF (nwL c.data.toList) t.data.toList := by rw [← ht2, hNl]
  obtain ⟨z1, z2, z3⟩ := pad_rooms t t2 c.data.toList hno ht2l hs hct (by rw [L8.size_list]; omega)
  obtain ⟨q1, q2⟩ := paV_pad t t2 c.data.toList hno ht2l
  obtain ⟨p, l, k, er, hpa⟩ : ∃ p l k er, L10.paV t = (p, l, k, er) := ⟨_, _, _, _, rfl⟩
  obtain ⟨p2, l2, k2, er2, hpb⟩ : ∃ p l k er, L10.paV t2 = (p, l, k, er) := ⟨_, _, _, _, rfl⟩
  rw [hpa, hpb] at q1 q2
  have q1' : p = p2 := q1
  have q2' : er = er2 := q2
  subst q1' q2'
  have HRA := Lib.hid (fun W => show Calls Tryz.prog 17 #[.string t, .string ⟨#[10]⟩, .string N] W (fun e w' => e = .returned (.string t2) ∧ Below W.heap.size W w') by
    have := replaceall_at t N W hs hct (by omega) (by omega)
    rw [ht2] at this
    exact this)
  rw [← hN] at HRA
  have s1 : ((⟨#[32, 59]⟩ : ByteArray) ++ c).size ≤ 2000 := by rw [app1, e59]; omega
  have s2 : ((⟨#[32, 59]⟩ : ByteArray) ++ c ++ ⟨#[10, 9, 10]⟩).size ≤ 2000 := by rw [app1, app1, e59, e10]; omega
  have u1 : 2 + c.size ≤ 2000 := by omega
  have u2 : 2 + c.size + 3 ≤ 2000 := by omega
  have HPA := Lib.hid (L10.parse_at t w (by omega) hT.two (by have := hT.big; omega) _ hpa)
  have HPB := Lib.hid (fun W (hb : Below w.heap.size w W) => L10.parse_gen t2 W (by omega) z2 z3 (HTB.out W hb).two (by have := HBIG.out; have := hb.size; omega) _ hpb)
  obtain ⟨n1, hn1⟩ : ∃ n, p.maps.length = n := ⟨_, rfl⟩
  obtain ⟨n2, hn2⟩ : ∃ n, p.stmts.length = n := ⟨_, rfl⟩
  obtain ⟨n3, hn3⟩ : ∃ n, l.length = n := ⟨_, rfl⟩
  obtain ⟨n4, hn4⟩ : ∃ n, l2.length = n := ⟨_, rfl⟩
  have HN := Lib.hid (And.intro hn1 (And.intro hn2 (And.intro hn3 hn4)))
  have HRS := Lib.hid (fun (he : er = 0) => read_size hs hct hpa he)
  clear hT hl hs hct hcb hno hN hNs hNl ht2 ht2l z1 z2 z3 q1 q2 hpa hpb hn1 hn2 hn3 hn4 e59 e10 ht
  go_enter Tryz.func6, Tryz.ntmps6
  go_upto_region 3 with (first
    | (go_at_call 15; ((with_reducible refine (HL.out _).mono ?_); rintro e w1 ⟨rfl, rfl⟩))
    | (go_at_call 16; ((with_reducible refine (HCN.out _).mono ?_); rintro e w1 ⟨rfl, rfl⟩)))
  go_upto_region 4 with (go_at_call 13; ((with_reducible refine (HPA.out).mono ?_); rintro e w1 ⟨vm, vs, lv, rfl, hp, hi, b1⟩; obtain ⟨a1, c1, rfl, -⟩ := L10.df_form HN.out.1 hp.1; obtain ⟨a2, c2, rfl, -⟩ := L10.sm_form HN.out.2.1 hp.2; obtain ⟨a3, c3, rfl, -⟩ := L10.in_form HN.out.2.2.1 hi))
  have hk1 := heap_alloc_last w1 (.cells #[.slice a1 n1 c1, .slice a2 n2 c2] 30)
  have hb1 := L8.bnew w1 (.cells #[.slice a1 n1 c1, .slice a2 n2 c2] 30)
  have hp1 := hp.below hb1
  have B1 := L2.bch b1 hb1
  generalize w1.heap.size = k5 at hk1 ⊢
  generalize w1.alloc (.cells #[.slice a1 n1 c1, .slice a2 n2 c2] 30) = W1 at hk1 hb1 hp1 B1 ⊢
  clear hb1 hp hi b1
  go_upto_region 5 with (first
    | (go_at_call 17; ((with_reducible refine (HRA.out _).mono ?_); rintro e w2 ⟨rfl, b2⟩; have B2 := L2.bch B1 b2; have hk2 := L8.row_up hk1 b2; have hp2 := hp1.below b2))
    | (go_at_call 13; ((with_reducible refine (HPB.out _ B2).mono ?_); rintro e w3 ⟨vm', vs', lv', rfl, hq, hi, b3⟩; obtain ⟨a4, c4, rfl, -⟩ := L10.df_form HN.out.1 hq.1; obtain ⟨a5, c5, rfl, -⟩ := L10.sm_form HN.out.2.1 hq.2; obtain ⟨a6, c6, rfl, -⟩ := L10.in_form HN.out.2.2.2 hi; have B3 := L2.bch B2 b3; have hk3 := L8.row_up hk2 b3; have hp3 := hp2.below b3)))
  have hk4 := heap_alloc_last w3 (.cells #[.slice a4 n1 c4, .slice a5 n2 c5] 30)
  have hb4 := L8.bnew w3 (.cells #[.slice a4 n1 c4, .slice a5 n2 c5] 30)
  have X : PI2 w (w3.alloc (.cells #[.slice a4 n1 c4, .slice a5 n2 c5] 30)) k5 w3.heap.size (.slice a1 n1 c1) (.slice a2 n2 c2) (.slice a4 n1 c4) (.slice a5 n2 c5) p := ⟨L2.bch B3 hb4, L8.row_up hk3 hb4, hk4, hp3.below hb4, hq.below hb4⟩
  clear hk4 hb4 hp1 hk1 hp2 hk2 hp3 hk3 hq hi b2 b3 B1 B2 B3
  generalize w3.heap.size = k9 at X ⊢
  generalize w3.alloc (.cells #[.slice a4 n1 c4, .slice a5 n2 c5] 30) = W4 at X ⊢
  have X2 := keepPI (Below.refl _ _) X
  obtain ⟨x0, x1, y0, y1⟩ := X2.2
  have hl5 := World.block_lt_of_cell? _ _ x0
  have hl9 := World.block_lt_of_cell? _ _ y0
  simp only at hl5 hl9
  by_cases he : er = 0
  · obtain ⟨hz, hft, _, _, hrm⟩ := HRS.out he
    subst he
    have HP1 := Lib.hid (fun W (h : PI2 w W k5 k9 (.slice a1 n1 c1) (.slice a2 n2 c2) (.slice a4 n1 c4) (.slice a5 n2 c5) p ∧ W.cell? ⟨k5, 0, none⟩ = some (.slice a1 n1 c1) ∧ W.cell? ⟨k5, 1, none⟩ = some (.slice a2 n2 c2) ∧ W.cell? ⟨k9, 0, none⟩ = some (.slice a4 n1 c4) ∧ W.cell? ⟨k9, 1, none⟩ = some (.slice a5 n2 c5)) => program_ok _ _ p W h.1.2.2.2.1 hft (HTB.out W h.1.1) hrm hz)
    have HP2 := Lib.hid (fun W (h : PI2 w W k5 k9 (.slice a1 n1 c1) (.slice a2 n2 c2) (.slice a4 n1 c4) (.slice a5 n2 c5) p ∧ W.cell? ⟨k5, 0, none⟩ = some (.slice a1 n1 c1) ∧ W.cell? ⟨k5, 1, none⟩ = some (.slice a2 n2 c2) ∧ W.cell? ⟨k9, 0, none⟩ = some (.slice a4 n1 c4) ∧ W.cell? ⟨k9, 1, none⟩ = some (.slice a5 n2 c5)) => program_ok _ _ p W h.1.2.2.2.2 hft (HTB.out W h.1.1) hrm hz)
    have HA := Lib.hid (fun W (h : PI2 w W k5 k9 (.slice a1 n1 c1) (.slice a2 n2 c2) (.slice a4 n1 c4) (.slice a5 n2 c5) p ∧ W.cell? ⟨k5, 0, none⟩ = some (.slice a1 n1 c1) ∧ W.cell? ⟨k5, 1, none⟩ = some (.slice a2 n2 c2) ∧ W.cell? ⟨k9, 0, none⟩ = some (.slice a4 n1 c4) ∧ W.cell? ⟨k9, 1, none⟩ = some (.slice a5 n2 c5)) => HA0.out W h.1.1)
    have hbq := beq_selfI (pgT p)
    generalize pgT p = R at HP1 HP2 hbq
    clear hz hft hrm HRS X2 HA0 HTB HBIG HPA HPB HRA HCN HL
    go_region_held3 (fun W => PI2 w W k5 k9 (.slice a1 n1 c1) (.slice a2 n2 c2) (.slice a4 n1 c4) (.slice a5 n2 c5) p ∧ W.cell? ⟨k5, 0, none⟩ = some (.slice a1 n1 c1) ∧ W.cell? ⟨k5, 1, none⟩ = some (.slice a2 n2 c2) ∧ W.cell? ⟨k9, 0, none⟩ = some (.slice a4 n1 c4) ∧ W.cell? ⟨k9, 1, none⟩ = some (.slice a5 n2 c5))
      (first | exact keepPI (Below.refl _ _).drew X | exact keepPIc hb9 (by assumption) | assumption)
      (first | (go_at_call 7; ((with_reducible refine (HA.out _ (by assumption)).mono ?_); rintro e w9 ⟨rfl, hb9⟩)) | (go_at_call 11; ((with_reducible refine (HP1.out _ (by assumption)).mono ?_); rintro e w9 ⟨rfl, hb9⟩)) | (go_at_call 11; ((with_reducible refine (HP2.out _ (by assumption)).mono ?_); rintro e w9 ⟨rfl, hb9⟩)))
    all_goals
      rename_i hh
      go_wp2
      go_ret
      exact ⟨rfl, hh.1.1⟩
  · have HA := Lib.hid (HA0.out W4.drew (X.1.drew))
    have HX := Lib.hid X.1
    clear HRS X X2 HA0 HTB HBIG HPA HPB HRA HCN HL
    have hee : (er == er) = true := by simp
    have hez : (er != 0) = true := by simp [he]
    refine wp_region_held_drew (S := fun W => Below w.heap.size w W) (by kernel_rfl) HX.out.drew (fun hH => ?_)
    refine wpAnyH_ready (rs := [0]) (by kernel_rfl) (by simp) ?_
    refine AllReadyH.cons (o := ⟨some 44, .call ⟨.value (.func 7), #[], #[]⟩, _, _, _, none⟩) rfl (fun K hK => ?_) AllReadyH.nil
    go_simp
    refine (HA.out).mono ?_
    rintro e w9 ⟨rfl, hb9⟩
    refine hK.out _ _ (L2.bch HX.out.drew hb9) (fun hH2 => ?_)
    clear hK K hH
    (try simp only [Act.put, zA, zB, zC])
    refine wpAnyH_take (i := 1) (oi := ⟨some 45, .move (.tmp 44), _, _, _, none⟩) (v := .bool true) rfl (by kernel_rfl) (by kernel_rfl) (by kernel_rfl) (fun _ _ _ h => h) (Or.inl ⟨by rfl, fun wS hS => by rfl⟩) hH2 ?_
    simp only [Act.put, zA, zB, zC]
    refine wpAnyH_take (i := 2) (oi := ⟨some 46, .move (.tmp 8), _, _, _, some (1, true)⟩) (v := .int .i64 er) rfl (by kernel_rfl) (by kernel_rfl) (by kernel_rfl) (fun _ _ _ h => h) (Or.inl ⟨by rfl, fun wS hS => by rfl⟩) hH2 ?_
    simp only [Act.put, zA, zB, zC]
    refine wpAnyH_take (i := 3) (oi := ⟨some 47, .move (.tmp 12), _, _, _, some (1, true)⟩) (v := .int .i64 er) rfl (by kernel_rfl) (by kernel_rfl) (by kernel_rfl) (fun _ _ _ h => h) (Or.inl ⟨by rfl, fun wS hS => by rfl⟩) hH2 ?_
    simp only [Act.put, zA, zB, zC]
    refine wpAnyH_take (i := 4) (oi := ⟨some 48, .binOp .eql 34 (.tmp 46) (.tmp 47) 34, _, _, _, some (1, true)⟩) (v := .bool true) rfl (by kernel_rfl) (by kernel_rfl) (by kernel_rfl) (fun _ _ _ h => h) (Or.inl ⟨by rfl, fun wS hS => (by go_simp)⟩) hH2 ?_
    simp only [Act.put, zA, zB, zC]
    refine wpAnyH_take (i := 5) (oi := ⟨some 49, .pick (.tmp 45) (.tmp 48) (.const (.bool false)), _, _, _, none⟩) (v := .bool true) rfl (by kernel_rfl) (by kernel_rfl) (by kernel_rfl) (fun _ _ _ h => h) (Or.inl ⟨by rfl, fun wS hS => by rfl⟩) hH2 ?_
    simp only [Act.put, zA, zB, zC]
    refine wpAnyH_take (i := 6) (oi := ⟨some 50, .move (.tmp 49), _, _, _, none⟩) (v := .bool true) rfl (by kernel_rfl) (by kernel_rfl) (by kernel_rfl) (fun _ _ _ h => h) (Or.inl ⟨by rfl, fun wS hS => by rfl⟩) hH2 ?_
    simp only [Act.put, zA, zB, zC]
    refine wpAnyH_take (i := 7) (oi := ⟨some 51, .move (.tmp 8), _, _, _, some (6, true)⟩) (v := .int .i64 er) rfl (by kernel_rfl) (by kernel_rfl) (by kernel_rfl) (fun _ _ _ h => h) (Or.inl ⟨by rfl, fun wS hS => by rfl⟩) hH2 ?_
    simp only [Act.put, zA, zB, zC]
    refine wpAnyH_take (i := 8) (oi := ⟨some 52, .binOp .neq 34 (.tmp 51) (.const (.int .i64 0)) 34, _, _, _, some (6, true)⟩) (v := .bool true) rfl (by kernel_rfl) (by kernel_rfl) (by kernel_rfl) (fun _ _ _ h => h) (Or.inl ⟨by rfl, fun wS hS => (by go_simp)⟩) hH2 ?_
    simp only [Act.put, zA, zB, zC]
    refine wpAnyH_take (i := 9) (oi := ⟨some 53, .move (.tmp 52), _, _, _, some (6, true)⟩) (v := .bool true) rfl (by kernel_rfl) (by kernel_rfl) (by kernel_rfl) (fun _ _ _ h => h) (Or.inl ⟨by rfl, fun wS hS => by rfl⟩) hH2 ?_
    simp only [Act.put, zA, zB, zC]
    refine wpAnyH_take (i := 10) (oi := ⟨some 54, .load 30 (.tmp 5), _, _, _, some (9, false)⟩) (v := undef) rfl (by kernel_rfl) (by kernel_rfl) (by kernel_rfl) (fun _ _ _ h => h) (Or.inr ⟨by rfl, rfl⟩) hH2 ?_
    simp only [Act.put, zA, zB, zC]
    refine wpAnyH_take (i := 11) (oi := ⟨some 55, .call ⟨.value (.func 11), #[.tmp 54], #[30]⟩, _, _, _, some (9, false)⟩) (v := undef) rfl (by kernel_rfl) (by kernel_rfl) (by kernel_rfl) (fun _ _ _ h => h) (Or.inr ⟨by rfl, rfl⟩) hH2 ?_
    simp only [Act.put, zA, zB, zC]
    refine wpAnyH_take (i := 12) (oi := ⟨some 56, .load 30 (.tmp 9), _, _, _, some (9, false)⟩) (v := undef) rfl (by kernel_rfl) (by kernel_rfl) (by kernel_rfl) (fun _ _ _ h => h) (Or.inr ⟨by rfl, rfl⟩) hH2 ?_
    simp only [Act.put, zA, zB, zC]
    refine wpAnyH_take (i := 13) (oi := ⟨some 57, .call ⟨.value (.func 11), #[.tmp 56], #[30]⟩, _, _, _, some (9, false)⟩) (v := undef) rfl (by kernel_rfl) (by kernel_rfl) (by kernel_rfl) (fun _ _ _ h => h) (Or.inr ⟨by rfl, rfl⟩) hH2 ?_
    simp only [Act.put, zA, zB, zC]
    refine wpAnyH_take (i := 14) (oi := ⟨some 58, .binOp .eql 9 (.tmp 55) (.tmp 57) 9, _, _, _, some (9, false)⟩) (v := undef) rfl (by kernel_rfl) (by kernel_rfl) (by kernel_rfl) (fun _ _ _ h => h) (Or.inr ⟨by rfl, rfl⟩) hH2 ?_
    simp only [Act.put, zA, zB, zC]
    refine wpAnyH_take (i := 15) (oi := ⟨some 59, .pick (.tmp 53) (.const (.bool true)) (.tmp 58), _, _, _, some (6, true)⟩) (v := .bool true) rfl (by kernel_rfl) (by kernel_rfl) (by kernel_rfl) (fun _ _ _ h => h) (Or.inl ⟨by rfl, fun wS hS => by rfl⟩) hH2 ?_
    simp only [Act.put, zA, zB, zC]
    refine wpAnyH_take (i := 16) (oi := ⟨some 60, .pick (.tmp 50) (.tmp 59) (.const (.bool false)), _, _, _, none⟩) (v := .bool true) rfl (by kernel_rfl) (by kernel_rfl) (by kernel_rfl) (fun _ _ _ h => h) (Or.inl ⟨by rfl, fun wS hS => by rfl⟩) hH2 ?_
    simp only [Act.put, zA, zB, zC]
    refine wpAnyH_take (i := 17) (oi := ⟨some 4, .assign (.tmp 60), _, _, _, none⟩) (v := .bool true) rfl (by kernel_rfl) (by kernel_rfl) (by kernel_rfl) (fun _ _ _ h => h) (Or.inl ⟨by rfl, fun wS hS => by rfl⟩) hH2 ?_
    simp only [Act.put, zA, zB, zC]
    refine wpAnyH_done (by kernel_rfl) ?_ _
    go_wp2
    go_ret
    exact ⟨rfl, hH2⟩
end Go.Proofs.YtbneaihpnfkcdaaGreatDoor.L11
