/- The labels of a program, plain; what the program's Labels and the reference's Label return. Condition: memory holds the program, which is small. -/
import Derived.Test.YtbneaihpnfkcdaaGreatDoorM15
import Derived.Test.YtbneaihpnfkcdaaGreatDoorM13
section
namespace Go.Proofs.YtbneaihpnfkcdaaGreatDoor.L10
open Go.RowKit Go.Maps

def labsAt (l : List Stm) (k : Nat) : List ByteArray := (l[k]?.map (fun s => s.labs)).getD []
theorem labsAt_get (l : List Stm) (k : Nat) (h : k < l.length) : labsAt l k = l[k].labs := by simp [labsAt, List.getElem?_eq_getElem h]
def lbK (l : List Stm) (s : ByteArray) : Nat → Int
  | 0 => -1
  | k + 1 => if L2.on (labsAt l k) s then (k : Int) else lbK l s k
theorem lbK_in (l : List Stm) (s : ByteArray) : ∀ n k, k < n → L2.on (labsAt l k) s = true → ∃ m, m < n ∧ lbK l s n = (m : Int) ∧ L2.on (labsAt l m) s = true
  | 0, k, h, _ => by omega
  | n + 1, k, h, hon => by
    rw [lbK]
    by_cases hn : L2.on (labsAt l n) s = true
    · rw [if_pos hn]; exact ⟨n, by omega, rfl, hn⟩
    · rw [if_neg hn]
      have : k ≠ n := by rintro rfl; exact hn hon
      obtain ⟨m, h1, h2, h3⟩ := lbK_in l s n k (by omega) hon
      exact ⟨m, by omega, h2, h3⟩
def prs : Nat → List Stm → List (ByteArray × Nat)
  | _, [] => []
  | i, s :: r => s.labs.map (fun x => (x, i)) ++ prs (i + 1) r
theorem prs_app : ∀ (a b : List Stm) (i : Nat), prs i (a ++ b) = prs i a ++ prs (i + a.length) b
  | [], b, i => by simp [prs]
  | s :: r, b, i => by
    rw [List.cons_append, prs, prs, prs_app r b (i + 1), List.append_assoc, List.length_cons, show i + 1 + r.length = i + (r.length + 1) by omega]
theorem prs_snoc (l : List Stm) (k : Nat) (h : k < l.length) : prs 0 (l.take (k + 1)) = prs 0 (l.take k) ++ (labsAt l k).map (fun x => (x, k)) := by
  rw [List.take_add_one, List.getElem?_eq_getElem h, Option.toList, prs_app, labsAt_get l k h]
  simp only [prs, List.append_nil, List.length_take, Nat.zero_add]
  rw [Nat.min_eq_left (by omega)]
theorem txk (x : ByteArray) : WideAt.IsKeyLit (L2.txt x) := trivial
def mpF (m : DataW Unit) (y : ByteArray × Nat) : DataW Unit := m.put (L2.txt y.1) (.lit (.int .i64 (y.2 : Int)))
def Mp (L : List (ByteArray × Nat)) : DataW Unit := L.foldl mpF (.map [])
theorem on_cons (x s : ByteArray) (r : List ByteArray) : L2.on (x :: r) s = (decide (x = s) || L2.on r s) := rfl
theorem fold_labs (k : Nat) (s : ByteArray) : ∀ (labs : List ByteArray) (m : DataW Unit), Tidy m →
    has ((labs.map (fun x => (x, k))).foldl mpF m) (L2.txt s) = (has m (L2.txt s) || L2.on labs s) ∧
    ∀ z, ((labs.map (fun x => (x, k))).foldl mpF m).atKey (L2.txt s) z = if L2.on labs s then .lit (.int .i64 (k : Int)) else m.atKey (L2.txt s) z
  | [], m, _ => by simp [L2.on]
  | x :: r, m, h => by
    obtain ⟨h1, h2⟩ := fold_labs k s r (mpF m (x, k)) (h.put (txk _) _)
    rw [List.map_cons, List.foldl_cons]
    refine ⟨?_, fun z => ?_⟩
    · rw [h1, on_cons]
      by_cases e : x = s
      · subst e
        rw [mpF, has_put_same h.isMap (txk _)]
        simp
      · rw [mpF, has_put_other (by intro e'; exact e (L2.txt_inj e').symm)]
        simp [e]
    · rw [h2, on_cons]
      by_cases hr : L2.on r s = true
      · rw [if_pos hr, hr, Bool.or_true, if_pos rfl]
      · rw [if_neg hr]
        have hr : L2.on r s = false := by simpa using hr
        rw [hr, Bool.or_false]
        by_cases e : x = s
        · subst e
          rw [mpF, atKey_put_same h.isMap (txk _)]
          simp
        · rw [mpF, atKey_put_other (by intro e'; exact e (L2.txt_inj e').symm)]
          simp [e]
end Go.Proofs.YtbneaihpnfkcdaaGreatDoor.L10
end
section
namespace Go.Proofs.YtbneaihpnfkcdaaGreatDoor.L10
open Go.RowKit Go.Maps
attribute [local go_sem] Oper.semAt_some

abbrev MapAt (w : World) (g n : Nat) (L : List (ByteArray × Nat)) : Prop := w.ownsMap Tryz.prog 9 (plainElem Tryz.prog 3) g n (Mp L)
theorem MapAt.below {w w' : World} {g n : Nat} {L : List (ByteArray × Nat)} (h : MapAt w g n L) (hb : Below w.heap.size w w') : MapAt w' g n L := h.kept (gr_of hb none) (by simp)
def LI (w W : World) (m : Nat) (L : List (ByteArray × Nat)) : Prop := ∃ n, n ≤ m ∧ MapAt W (w.heap.size + 1) n L ∧ Below w.heap.size w W
theorem LI.le {w W : World} {m m' : Nat} {L : List (ByteArray × Nat)} (h : LI w W m L) (hm : m ≤ m') : LI w W m' L := by
  obtain ⟨n, h1, h2⟩ := h
  exact ⟨n, Nat.le_trans h1 hm, h2⟩
theorem pl_snoc (PL : List (ByteArray × Nat)) (l : List ByteArray) (k j : Nat) (h : j < l.length) : PL ++ (l.take (j + 1)).map (fun x => (x, k)) = (PL ++ (l.take j).map (fun x => (x, k))) ++ [(l[j], k)] := by
  rw [List.take_add_one, List.getElem?_eq_getElem h, Option.toList, List.map_append, List.append_assoc]
  rfl
end Go.Proofs.YtbneaihpnfkcdaaGreatDoor.L10
end
section
namespace Go.Proofs.YtbneaihpnfkcdaaGreatDoor.L10
open Go.RowKit
attribute [local go_sem] Oper.semAt_some

theorem on_snoc (l : List ByteArray) (x : ByteArray) (j : Nat) (h : j < l.length) (hn : L2.on (l.take j) x = false) (hx : l[j] ≠ x) : L2.on (l.take (j + 1)) x = false := by
  rw [List.take_add_one, List.getElem?_eq_getElem h, Option.toList]
  simp only [L2.on, List.any_append, List.any_cons, List.any_nil, Bool.or_false] at hn ⊢
  rw [hn]
  simp [hx]
theorem lbK_hit (l : List Stm) (x : ByteArray) (k : Nat) (h : k < l.length) (hm : x ∈ l[k].labs) : lbK l x (k + 1) = (k : Int) := by
  rw [lbK, labsAt_get l k h, if_pos ((L2.on_mem _ _).2 hm)]
theorem lbK_miss (l : List Stm) (x : ByteArray) (k : Nat) (h : k < l.length) (hm : L2.on l[k].labs x = false) : lbK l x (k + 1) = lbK l x k := by
  rw [lbK, labsAt_get l k h, if_neg (by simp [hm])]
set_option maxHeartbeats 4000000 in
set_option maxRecDepth 100000 in
theorem rlabel_at (vm vs : Value) (p : Pg) (x : ByteArray) (w : World) (hp : PgAt w vm vs p) (hs : Sml p) :
    Calls Tryz.prog 52 #[.agg #[vm, vs], .string x] w fun e w' => e = .returned (.int .i64 (lbK p.stmts x p.stmts.length)) ∧ Below w.heap.size w w' := by
  obtain ⟨n1, hn1⟩ : ∃ n, p.maps.length = n := ⟨_, rfl⟩
  obtain ⟨n2, hn2⟩ : ∃ n, p.stmts.length = n := ⟨_, rfl⟩
  obtain ⟨a1, c1, rfl, -⟩ := df_form hn1 hp.1
  obtain ⟨a2, c2, rfl, hc⟩ := sm_form hn2 hp.2
  have hm2 := hs.stmts
  rw [hn2] at hm2
  have HC := Lib.hid hc
  have HN := Lib.hid hn2
  have HL := Lib.hid hs.labs
  obtain ⟨R, hR⟩ : ∃ R, lbK p.stmts x p.stmts.length = R := ⟨_, rfl⟩
  rw [hR]
  have hV : Hid (lbK p.stmts x n2 = R) := Lib.hid (by rw [← hn2]; exact hR)
  have HB := Lib.hid (L8.bnew w (.cells #[.slice a1 n1 c1, .slice a2 n2 c2] 30))
  have K0 := Lib.hid (heap_alloc_last w (.cells #[.slice a1 n1 c1, .slice a2 n2 c2] 30))
  have x1 := (cells2p K0.out).2
  have hlt1 := World.block_lt_of_cell? _ _ x1
  simp only at hlt1
  clear hp hs hn1 hn2 hc hR
  go_enter Tryz.func52, Tryz.ntmps52
  go_upto_region 1 with (fail)
  generalize w.alloc (.cells #[.slice a1 n1 c1, .slice a2 n2 c2] 30) = W0 at K0 x1 hlt1 HB ⊢
  have HI := Lib.hid (Below.refl W0.heap.size W0)
  go_wp2
  go_loopw [5, 6] (fun i _ wr => ∃ k : Nat, k ≤ n2 ∧ i = .int .i64 ((k : Int) - 1) ∧ Hid (Below W0.heap.size W0 wr) ∧ Hid (lbK p.stmts x k = R)) (fun i _ _ => (intOf i + 1).toNat)
  case atStart => exact ⟨n2, Nat.le_refl _, rfl, HI, hV⟩
  case round =>
    obtain ⟨k, hk, rfl, hB, hT⟩ := hrel
    clear HI hV x1 hlt1
    have x1 := (cells2p (L8.row_up K0.out hB.out)).2
    have hlt1 := World.block_lt_of_cell? _ _ x1
    simp only at hlt1
    by_cases h0 : 1 ≤ k
    · obtain ⟨m, rfl⟩ : ∃ m, k = m + 1 := ⟨k - 1, by omega⟩
      have e1 : ((m + 1 : Nat) : Int) - 1 = (m : Int) := by omega
      rw [e1]
      have g2 : (0 : Int) ≤ (m : Int) := by omega
      have hkl : m < p.stmts.length := by rw [HN.out]; omega
      obtain ⟨b, o, rfl, hbl, hc⟩ := HC.out (by omega)
      obtain ⟨lv, hst, hx⟩ := hc m hkl
      have hX0 := hx 0 _ rfl
      rw [Nat.add_zero] at hX0
      have HX0 := Lib.hid hX0
      have hll := HL.out _ (List.getElem_mem hkl)
      have HH := Lib.hid (lbK_hit p.stmts x m hkl)
      have HMI := Lib.hid (lbK_miss p.stmts x m hkl)
      obtain ⟨s, hs⟩ : ∃ s, p.stmts[m] = s := ⟨_, rfl⟩
      rw [hs] at hst hll HH HMI
      obtain ⟨ln, hln⟩ : ∃ ln, s.labs.length = ln := ⟨_, rfl⟩
      obtain ⟨la, lc, rfl, hla⟩ := st_form hln hst
      rw [hln] at hll
      have HLA := Lib.hid hla
      have HLN := Lib.hid hln
      have hm3 : m < n2 := by omega
      have HJ : Hid (L2.on (s.labs.take 0) x = false) := Lib.hid rfl
      clear hx hX0 hc hst hs hla hln e1
      go_wp2
      go_loopw [6] (fun i wi => ∃ j : Nat, j ≤ ln ∧ i = .int .i64 (j : Int) ∧ Hid (Below W0.heap.size W0 wi) ∧ Hid (L2.on (s.labs.take j) x = false)) (fun i _ => ln - (intOf i).toNat)
      case atStart => exact ⟨0, Nat.zero_le _, rfl, hB, HJ⟩
      case round =>
        obtain ⟨j, hj, rfl, hB2, hJ⟩ := hrel
        clear HJ x1 hlt1 hB
        have x1 := (cells2p (L8.row_up K0.out hB2.out)).2
        have hlt1 := World.block_lt_of_cell? _ _ x1
        simp only at hlt1
        have hBw := L2.bch HB.out hB2.out
        have x0 := (hBw.cell (by exact hbl)).trans HX0.out
        have hw1 := World.block_lt_of_cell? _ _ x0
        simp only at hw1
        by_cases hjn : j < ln
        · have hjl : j < s.labs.length := by rw [HLN.out]; exact hjn
          obtain ⟨bb, oo, rfl, hbb, hcc⟩ := HLA.out (by omega)
          have z0 := (hBw.cell (by exact hbb)).trans (hcc j hjl)
          have hw2 := World.block_lt_of_cell? _ _ z0
          simp only at hw2
          have HSN := Lib.hid (on_snoc s.labs x j hjl hJ.out)
          have HME := Lib.hid (List.getElem_mem hjl)
          have HBW := Lib.hid hBw
          obtain ⟨y, hy⟩ : ∃ y, s.labs[j] = y := ⟨_, rfl⟩
          rw [hy] at z0 HSN HME
          have hjI : (j : Int) < (ln : Int) := by omega
          clear hcc hy hJ hBw
          by_cases he : y = x
          · subst he
            have ht : (y.toList == y.toList) = true := by simp
            have HV : Hid (R = (m : Int)) := Lib.hid (by rw [← hT.out]; exact HH.out HME.out)
            go_wp2
            go_ret
            rw [HV.out]
            exact ⟨rfl, HBW.out⟩
          · have ht : (y.toList == x.toList) = false := L2.txt_ne he
            have HS2 := Lib.hid (HSN.out he)
            clear he
            go_wp2
            go_roundw
            case rel => exact ⟨j + 1, by omega, by go_num, hB2, HS2⟩
            case measure => simp [intOf]; omega
        · obtain rfl : j = ln := by omega
          have HV : Hid (lbK p.stmts x m = R) := Lib.hid (by
            have h := hJ.out
            rw [List.take_of_length_le (by rw [HLN.out]; exact Nat.le_refl _)] at h
            rw [← hT.out]; exact (HMI.out h).symm)
          clear hJ hBw
          go_wp2
          go_roundw
          case rel => exact ⟨m, by omega, rfl, hB2, HV⟩
          case measure => simp [intOf]
    · obtain rfl : k = 0 := by omega
      have HBW := Lib.hid (L2.bch HB.out hB.out)
      have e1 : ((0 : Nat) : Int) - 1 = -1 := by omega
      rw [e1]
      clear e1
      go_wp2
      go_ret
      rw [← hT.out]
      exact ⟨rfl, HBW.out⟩
end Go.Proofs.YtbneaihpnfkcdaaGreatDoor.L10
end
