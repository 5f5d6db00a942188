/- What the reference's Def returns, and PrintDefs' walk. Condition: the numbers are those that their types allow; the tables read as the program's text lays them. -/
import Derived.Test.YtbneaihpnfkcdaaGreatDoorM23
import Derived.Test.YtbneaihpnfkcdaaGreatDoorM10
import Derived.Deep.RegionHeld3
namespace Go.Proofs.YtbneaihpnfkcdaaGreatDoor.L11
open Go.RowKit
attribute [local go_sem] Oper.semAt_some

theorem rformq (x : Int) (h0 : -9223372036854775808 ≤ x) (h1 : x ≤ 9223372036854775807) (W : World) : Calls Tryz.prog 25 #[.int .i64 x] W fun e w' => e = .returned (.string (nB x)) ∧ w' = W :=
  (L2.rformat_at x (nB x) W h0 h1 rfl).mono fun _ _ ⟨a, b⟩ => ⟨a, b.symm⟩
theorem deT_ref (nm : ByteArray) (key val ent : Int) : deT ⟨nm, key, val, ent⟩ = (⟨#[109, 97, 112, 32]⟩ : ByteArray) ++ nm ++ ⟨#[32]⟩ ++ nB key ++ ⟨#[32]⟩ ++ nB val ++ ⟨#[32]⟩ ++ nB ent := by
  unfold deT L9.mapT spB
  apply ByteArray.ext
  simp [Array.append_assoc]
theorem deE_sz (d : L9.Df) : L10.deE d = if L2.vd d.nm then (if L9.sizV d then 0 else 9) else 7 := by
  have : ((L10.upB 64 d.key && L10.upB 256 d.val) && L10.upB 1024 d.ent) = L9.sizV d := by simp [L10.upB, L9.sizV, Bool.and_assoc]
  rw [L10.deE, this]
theorem c1097 : (⟨#[109, 97, 112, 32]⟩ : ByteArray).size = 4 := rfl
theorem c32b : (⟨#[32]⟩ : ByteArray).size = 1 := rfl
set_option maxHeartbeats 4000000 in
set_option maxRecDepth 100000 in
theorem rdef_at (nm : ByteArray) (key val ent : Int) (w : World) (hR : DRng key val ent) (hn : nm.size ≤ maxLen) :
    Calls Tryz.prog 9 #[.agg #[.string nm, .int .i64 key, .int .i64 val, .int .i64 ent]] w (fun e w' => e = .returned (.string (deR ⟨nm, key, val, ent⟩)) ∧ Below w.heap.size w w') := by
  have hD0 := heap_alloc_last w (.cells #[.string nm, .int .i64 key, .int .i64 val, .int .i64 ent] 23)
  have hB0 := L8.bnew w (.cells #[.string nm, .int .i64 key, .int .i64 val, .int .i64 ent] 23)
  obtain ⟨v, hv⟩ : ∃ v, L2.vd nm = v := ⟨_, rfl⟩
  obtain ⟨s, hs⟩ : ∃ s, L9.sizV ⟨nm, key, val, ent⟩ = s := ⟨_, rfl⟩
  have he : L10.deE ⟨nm, key, val, ent⟩ = if v then (if s then 0 else 9) else 7 := by rw [deE_sz, hs, ← hv]
  have HV := Lib.hid (fun W => L2.rvalid_at nm v W (Nat.le_trans hn (by decide)) hv)
  have HSZ := Lib.hid (fun W => show Calls Tryz.prog 24 #[.agg #[.string nm, .int .i64 key, .int .i64 val, .int .i64 ent]] W _ from L9.rsizes_at ⟨nm, key, val, ent⟩ s W hs)
  cases v
  · rw [show deR ⟨nm, key, val, ent⟩ = L9.eB from if_neg (by rw [he]; simp)]
    have HB0 := Lib.hid hB0
    clear hB0 hs he hv HSZ hR hn
    go_enter Tryz.func9, Tryz.ntmps9
    go_upto_region 1 with (fail)
    generalize w.alloc (.cells #[.string nm, .int .i64 key, .int .i64 val, .int .i64 ent] 23) = W0 at hD0 HB0 ⊢
    generalize w.heap.size = g at hD0 ⊢
    obtain ⟨x0, x1, x2, x3⟩ := cl4 hD0
    have hlt := lt_of_block hD0
    go_wp2_with (go_at_call 23; ((with_reducible refine (HV.out _).mono ?_); rintro e w1 ⟨rfl, rfl⟩))
    go_ret
    exact ⟨rfl, HB0.out⟩
  cases s
  · rw [show deR ⟨nm, key, val, ent⟩ = L9.eB from if_neg (by rw [he]; simp)]
    have HB0 := Lib.hid hB0
    clear hB0 hs he hv hR hn
    go_enter Tryz.func9, Tryz.ntmps9
    go_upto_region 1 with (fail)
    generalize w.alloc (.cells #[.string nm, .int .i64 key, .int .i64 val, .int .i64 ent] 23) = W0 at hD0 HB0 ⊢
    generalize w.heap.size = g at hD0 ⊢
    obtain ⟨x0, x1, x2, x3⟩ := cl4 hD0
    have hlt := lt_of_block hD0
    go_wp2_with (first
      | (go_at_call 23; ((with_reducible refine (HV.out _).mono ?_); rintro e w1 ⟨rfl, rfl⟩))
      | (go_at_call 24; ((with_reducible refine (HSZ.out _).mono ?_); rintro e w2 ⟨rfl, b2⟩)))
    go_ret
    exact ⟨rfl, L2.bch HB0.out b2⟩
  · rw [show deR ⟨nm, key, val, ent⟩ = deT ⟨nm, key, val, ent⟩ from if_pos (by rw [he]; simp), deT_ref]
    have h1 := vd_32 hv
    have h2 := nB_len key hR.k0 hR.k1
    have h3 := nB_len val hR.v0 hR.v1
    have h4 := nB_len ent hR.e0 hR.e1
    have HK := Lib.hid (fun W => rformq key hR.k0 hR.k1 W)
    have HW := Lib.hid (fun W => rformq val hR.v0 hR.v1 W)
    have HE := Lib.hid (fun W => rformq ent hR.e0 hR.e1 W)
    generalize nB key = A at HK h2 ⊢
    generalize nB val = B at HW h3 ⊢
    generalize nB ent = C at HE h4 ⊢
    have q1 : ((⟨#[109, 97, 112, 32]⟩ : ByteArray) ++ nm).size ≤ 1000 := by simp only [app1, c1097]; omega
    have q2 : ((⟨#[109, 97, 112, 32]⟩ : ByteArray) ++ nm ++ ⟨#[32]⟩).size ≤ 1000 := by simp only [app1, c1097, c32b]; omega
    have q3 : ((⟨#[109, 97, 112, 32]⟩ : ByteArray) ++ nm ++ ⟨#[32]⟩ ++ A).size ≤ 1000 := by simp only [app1, c1097, c32b]; omega
    have q4 : ((⟨#[109, 97, 112, 32]⟩ : ByteArray) ++ nm ++ ⟨#[32]⟩ ++ A ++ ⟨#[32]⟩).size ≤ 1000 := by simp only [app1, c1097, c32b]; omega
    have q5 : ((⟨#[109, 97, 112, 32]⟩ : ByteArray) ++ nm ++ ⟨#[32]⟩ ++ A ++ ⟨#[32]⟩ ++ B).size ≤ 1000 := by simp only [app1, c1097, c32b]; omega
    have q6 : ((⟨#[109, 97, 112, 32]⟩ : ByteArray) ++ nm ++ ⟨#[32]⟩ ++ A ++ ⟨#[32]⟩ ++ B ++ ⟨#[32]⟩).size ≤ 1000 := by simp only [app1, c1097, c32b]; omega
    have q7 : ((⟨#[109, 97, 112, 32]⟩ : ByteArray) ++ nm ++ ⟨#[32]⟩ ++ A ++ ⟨#[32]⟩ ++ B ++ ⟨#[32]⟩ ++ C).size ≤ 1000 := by simp only [app1, c1097, c32b]; omega
    have HB0 := Lib.hid hB0
    clear hB0 hs he hv hR hn
    go_enter Tryz.func9, Tryz.ntmps9
    go_upto_region 1 with (fail)
    generalize w.alloc (.cells #[.string nm, .int .i64 key, .int .i64 val, .int .i64 ent] 23) = W0 at hD0 HB0 ⊢
    generalize w.heap.size = g at hD0 ⊢
    obtain ⟨x0, x1, x2, x3⟩ := cl4 hD0
    have hlt := lt_of_block hD0
    go_upto_region 3 with (first
      | (go_at_call 23; ((with_reducible refine (HV.out _).mono ?_); rintro e w1 ⟨rfl, rfl⟩))
      | (go_at_call 24; ((with_reducible refine (HSZ.out _).mono ?_); rintro e w2 ⟨rfl, b2⟩)))
    have hD2 := L8.row_up hD0 b2
    have HB2 := Lib.hid (L2.bch HB0.out b2)
    clear x0 x1 x2 x3 hlt hD0 b2 HV HSZ
    obtain ⟨x0, x1, x2, x3⟩ := cl4 hD2
    have hlt := lt_of_block hD2
    clear hD2
    go_quiet ((go_at_call 25; first | (with_reducible exact Calls.quiet_of_same (HK.out _)) | (with_reducible exact Calls.quiet_of_same (HW.out _)) | (with_reducible exact Calls.quiet_of_same (HE.out _))))
    go_wp2
    go_ret
    exact ⟨rfl, L8.bdN HB2.out _⟩
def PD (w W : World) (g : Nat) (nm : ByteArray) (key val ent : Int) : Prop := Below w.heap.size w W ∧ W.heap[g]? = some (.cells #[.string nm, .int .i64 key, .int .i64 val, .int .i64 ent] 23)
theorem keepPD {w W W' : World} {g : Nat} {nm : ByteArray} {key val ent : Int} (hb : Below W.heap.size W W') (h : PD w W g nm key val ent) : PD w W' g nm key val ent ∧ W'.cell? ⟨g, 0, none⟩ = some (.string nm) ∧ W'.cell? ⟨g, 1, none⟩ = some (.int .i64 key) ∧ W'.cell? ⟨g, 2, none⟩ = some (.int .i64 val) ∧ W'.cell? ⟨g, 3, none⟩ = some (.int .i64 ent) := by
  have h2 := L8.row_up h.2 hb
  exact ⟨⟨L2.bch h.1 hb, h2⟩, cl4 h2⟩
theorem keepPDc {w W W' : World} {g : Nat} {nm : ByteArray} {key val ent : Int} (hb : Below W.heap.size W W') (h : PD w W g nm key val ent ∧ W.cell? ⟨g, 0, none⟩ = some (.string nm) ∧ W.cell? ⟨g, 1, none⟩ = some (.int .i64 key) ∧ W.cell? ⟨g, 2, none⟩ = some (.int .i64 val) ∧ W.cell? ⟨g, 3, none⟩ = some (.int .i64 ent)) : PD w W' g nm key val ent ∧ W'.cell? ⟨g, 0, none⟩ = some (.string nm) ∧ W'.cell? ⟨g, 1, none⟩ = some (.int .i64 key) ∧ W'.cell? ⟨g, 2, none⟩ = some (.int .i64 val) ∧ W'.cell? ⟨g, 3, none⟩ = some (.int .i64 ent) := keepPD hb h.1
set_option maxHeartbeats 4000000 in
set_option maxRecDepth 100000 in
theorem defs_walk (d : L9.Df) (w : World) (hT : Tb w) (hf : L10.DfFit d) :
    Calls Tryz.prog 3 #[.agg #[.string d.nm, .int .i64 d.key, .int .i64 d.val, .int .i64 d.ent]] w fun e w' => e = .returned (.bool true) ∧ Below w.heap.size w w' := by
  obtain ⟨nm, key, val, ent⟩ := d
  dsimp only
  have hk := wf64 hf.key
  have hv := wf64 hf.val
  have he := wf64 hf.ent
  have hR : DRng key val ent := ⟨hk.1, hk.2, hv.1, hv.2, he.1, he.2⟩
  have HA := Lib.hid (fun (g : Nat) W (h : PD w W g nm key val ent ∧ W.cell? ⟨g, 0, none⟩ = some (.string nm) ∧ W.cell? ⟨g, 1, none⟩ = some (.int .i64 key) ∧ W.cell? ⟨g, 2, none⟩ = some (.int .i64 val) ∧ W.cell? ⟨g, 3, none⟩ = some (.int .i64 ent)) => alive11 W (hT.below h.1.1))
  have HP := Lib.hid (fun (g : Nat) W (h : PD w W g nm key val ent ∧ W.cell? ⟨g, 0, none⟩ = some (.string nm) ∧ W.cell? ⟨g, 1, none⟩ = some (.int .i64 key) ∧ W.cell? ⟨g, 2, none⟩ = some (.int .i64 val) ∧ W.cell? ⟨g, 3, none⟩ = some (.int .i64 ent)) => def_at nm key val ent W (hT.below h.1.1) hR hf.nm)
  have HQ := Lib.hid (fun W => rdef_at nm key val ent W hR hf.nm)
  obtain ⟨R, hRR⟩ : ∃ R, deR ⟨nm, key, val, ent⟩ = R := ⟨_, rfl⟩
  rw [hRR] at HP HQ
  have qR : (R.toList == R.toList) = true := by simp
  have hD0 := heap_alloc_last w (.cells #[.string nm, .int .i64 key, .int .i64 val, .int .i64 ent] 23)
  have hB0 := L8.bnew w (.cells #[.string nm, .int .i64 key, .int .i64 val, .int .i64 ent] 23)
  clear hf hk hv he hR hRR hT
  go_enter Tryz.func3, Tryz.ntmps3
  go_upto_region 1 with (fail)
  generalize w.alloc (.cells #[.string nm, .int .i64 key, .int .i64 val, .int .i64 ent] 23) = W0 at hD0 hB0 ⊢
  obtain ⟨g, hg⟩ : ∃ g, w.heap.size = g := ⟨_, rfl⟩
  rw [hg] at hD0 ⊢
  clear hg
  have X : PD w W0 g nm key val ent := ⟨hB0, hD0⟩
  obtain ⟨x0, x1, x2, x3⟩ := cl4 hD0
  have hlt := lt_of_block hD0
  clear hD0 hB0
  go_region_held3 (fun W => PD w W g nm key val ent ∧ W.cell? ⟨g, 0, none⟩ = some (.string nm) ∧ W.cell? ⟨g, 1, none⟩ = some (.int .i64 key) ∧ W.cell? ⟨g, 2, none⟩ = some (.int .i64 val) ∧ W.cell? ⟨g, 3, none⟩ = some (.int .i64 ent))
    (first | exact keepPD (Below.refl _ _).drew X | exact keepPDc hb9 (by assumption) | assumption)
    (first | (go_at_call 7; ((with_reducible refine (HA.out g _ (by assumption)).mono ?_); rintro e w9 ⟨rfl, hb9⟩)) | (go_at_call 8; ((with_reducible refine (HP.out g _ (by assumption)).mono ?_); rintro e w9 ⟨rfl, hb9⟩)) | (go_at_call 9; ((with_reducible refine (HQ.out _).mono ?_); rintro e w9 ⟨rfl, hb9⟩)))
  all_goals
    rename_i hh
    go_wp2
    go_ret
    exact ⟨rfl, hh.1.1⟩
end Go.Proofs.YtbneaihpnfkcdaaGreatDoor.L11
