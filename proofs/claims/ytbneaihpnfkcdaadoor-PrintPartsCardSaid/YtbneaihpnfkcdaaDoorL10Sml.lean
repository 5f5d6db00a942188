/- What the program's small functions return: unless, upTo, checkDef, add. Condition: the table of registers reads as the program's text lays it; a set of names is a map of the call's own. -/
import Derived.Test.YtbneaihpnfkcdaaDoorL10Pg
namespace Go.Proofs.YtbneaihpnfkcdaaDoor.L10
open Go.RowKit Go.Maps
attribute [local go_sem] Oper.semAt_some

theorem cells4 {w : World} {k : Nat} {a b c d : Value} {t : TypeId} (h : w.heap[k]? = some (.cells #[a, b, c, d] t)) : w.cell? ⟨k, 0, none⟩ = some a ∧ w.cell? ⟨k, 1, none⟩ = some b ∧ w.cell? ⟨k, 2, none⟩ = some c ∧ w.cell? ⟨k, 3, none⟩ = some d := by
  simp [World.cell?, h]
theorem cells9 {w : World} {k : Nat} {a b c d e f g i j : Value} {t : TypeId} (hh : w.heap[k]? = some (.cells #[a, b, c, d, e, f, g, i, j] t)) :
    w.cell? ⟨k, 0, none⟩ = some a ∧ w.cell? ⟨k, 1, none⟩ = some b ∧ w.cell? ⟨k, 2, none⟩ = some c ∧ w.cell? ⟨k, 3, none⟩ = some d ∧ w.cell? ⟨k, 4, none⟩ = some e ∧ w.cell? ⟨k, 5, none⟩ = some f ∧ w.cell? ⟨k, 6, none⟩ = some g ∧ w.cell? ⟨k, 7, none⟩ = some i ∧ w.cell? ⟨k, 8, none⟩ = some j := by
  simp [World.cell?, hh]
theorem unless_at (b : Bool) (e r : Int) (w : World) (h : (if b then 0 else e) = r) : Calls Tryd.prog 57 #[.bool b, .int .i64 e] w fun en w' => en = .returned (.int .i64 r) ∧ w = w' := by
  subst h
  cases b
  all_goals
    go_enter Tryd.func57, Tryd.ntmps57
    go_wp2
    go_ret
    exact ⟨rfl, rfl⟩
theorem upto_at (g n : Int) (b : Bool) (w : World) (h : upB g n = b) : Calls Tryd.prog 76 #[.int .i64 g, .int .i64 n] w fun e w' => e = .returned (.bool b) ∧ w = w' := by
  subst h
  unfold upB
  go_enter Tryd.func76, Tryd.ntmps76
  go_wp2
  all_goals
    go_ret
    exact ⟨L2.ret_bool (by simp; try omega), rfl⟩
set_option maxHeartbeats 1000000 in
theorem checkDef_at (d : L9.Df) (r : Int) (w : World) (hT : L2.Regs w) (h : deE d = r) : Calls Tryd.prog 52 #[.agg #[.string d.nm, .int .i64 d.key, .int .i64 d.val, .int .i64 d.ent]] w fun e w' => e = .returned (.int .i64 r) ∧ Below w.heap.size w w' := by
  obtain ⟨nm, key, val, ent⟩ := d
  unfold deE at h
  simp only at h ⊢
  obtain ⟨v, hv⟩ : ∃ v, L2.vd nm = v := ⟨_, rfl⟩
  obtain ⟨p, hp⟩ : ∃ v, upB 64 key = v := ⟨_, rfl⟩
  obtain ⟨q, hq⟩ : ∃ v, upB 256 val = v := ⟨_, rfl⟩
  obtain ⟨u, hu⟩ : ∃ v, upB 1024 ent = v := ⟨_, rfl⟩
  rw [hv, hp, hq, hu] at h
  subst h
  have HV := Lib.hid (fun (W : World) (hb : Below w.heap.size w W) => L2.valid_at nm v W (hT.below hb) hv)
  have HP := Lib.hid (fun W => upto_at 64 key p W hp)
  have HQ := Lib.hid (fun W => upto_at 256 val q W hq)
  have HU := Lib.hid (fun W => upto_at 1024 ent u W hu)
  have HN := Lib.hid (fun W => unless_at ((p && q) && u) 9 _ W rfl)
  clear hv hp hq hu hT
  cases v
  · go_enter Tryd.func52, Tryd.ntmps52
    go_wp2_with (go_at_call 75; ((with_reducible refine (HV.out _ (L8.bnew _ _)).mono ?_); rintro e w1 ⟨rfl, b1⟩))
    go_ret
    exact ⟨rfl, L2.bch (L8.bnew _ _) b1⟩
  · cases p <;> cases q <;> cases u
    all_goals
      simp only [Bool.and_self, Bool.and_false, Bool.and_true, if_true, if_false, Bool.false_eq_true] at HN ⊢
      go_enter Tryd.func52, Tryd.ntmps52
      go_wp2_with (first | (go_at_call 75; ((with_reducible refine (HV.out _ (L8.bnew _ _)).mono ?_); rintro e w1 ⟨rfl, b1⟩; obtain ⟨x0, x1, x2, x3⟩ := cells4 (L8.row_up (heap_alloc_last w _) b1))) | (go_at_call 76; ((with_reducible refine (HP.out _).mono ?_); rintro e w2 ⟨rfl, rfl⟩)) | (go_at_call 76; ((with_reducible refine (HQ.out _).mono ?_); rintro e w2 ⟨rfl, rfl⟩)) | (go_at_call 76; ((with_reducible refine (HU.out _).mono ?_); rintro e w2 ⟨rfl, rfl⟩)) | (go_at_call 57; ((with_reducible refine (HN.out _).mono ?_); rintro e w2 ⟨rfl, rfl⟩)))
      go_ret
      exact ⟨rfl, L2.bch (L8.bnew _ _) b1⟩

/-! ### names that were seen -/
theorem key_of {x : ByteArray} (h : x.size ≤ maxLen) : keyOf Tryd.prog 9 (.string x) = some (L2.txt x) := WideMaps.keyOf_string_mk Tryd.underlying9 h
theorem map_cells {w : World} {g : Nat} {ks : List ByteArray} (h : SetAt w g ks) : ∀ cs t fr, w.heap[g]? ≠ some (.cells cs t fr) := by
  intro cs t fr e
  obtain ⟨_, _, hh, _⟩ := h
  rw [e] at hh
  cases hh
theorem addB_none (ks : List ByteArray) : addB ks [] = true := rfl
/-- What add comes to, from the j-th name on. -/
structure AddI (g : Nat) (ks labs : List ByteArray) (w : World) (j : Nat) (W : World) : Prop where
  set : SetAt W g (ks ++ labs.take j)
  gr : w.grownBy W (some g)
  res : addB (ks ++ labs.take j) (labs.drop j) = addB ks labs
theorem add_step (ks labs : List ByteArray) (j : Nat) (h : j < labs.length) : addB (ks ++ labs.take j) (labs.drop j) = if L2.on (ks ++ labs.take j) labs[j] then false else addB (ks ++ labs.take (j + 1)) (labs.drop (j + 1)) := by
  rw [List.drop_eq_getElem_cons h, addB, List.take_add_one, List.getElem?_eq_getElem h, Option.toList, List.append_assoc]
theorem add_end (ks labs : List ByteArray) (j : Nat) (h : labs.length ≤ j) : addB (ks ++ labs.take j) (labs.drop j) = true := by
  rw [List.drop_eq_nil_of_le h]; rfl
set_option maxHeartbeats 1000000 in
set_option maxRecDepth 100000 in
theorem add_some (b o n cap g : Nat) (ks labs : List ByteArray) (w : World) (hn : labs.length = n) (hm : ks.length + n ≤ 100000) (hs : SetAt w g ks) (hz : ∀ t ∈ labs, t.size ≤ maxLen)
    (hc : ∀ j, j < n → w.cell? ⟨b, o + j, none⟩ = some (.string (labs.getD j ByteArray.empty))) (hbg : b ≠ g) (r : Bool) (hr : addB ks labs = r) :
    Calls Tryd.prog 59 #[.map (some g), .slice (some ⟨b, o, none⟩) n cap] w fun e w' => e = .returned (.bool r) ∧ w.grownBy w' (some g) ∧ (r = true → SetAt w' g (ks ++ labs)) := by
  subst hr
  have HC := Lib.hid hc
  have HZ := Lib.hid hz
  have HN := Lib.hid hn
  have HI : Hid (AddI g ks labs w 0 w) := Lib.hid ⟨by simpa using hs, ⟨rfl, rfl, rfl, Nat.le_refl _, fun _ _ _ => rfl⟩, by simp⟩
  clear hc hz hn hs
  go_enter Tryd.func59, Tryd.ntmps59
  go_wp2
  go_loopw [9] (fun i wr => ∃ j : Nat, j ≤ n ∧ i = .int .i64 (j : Int) ∧ AddI g ks labs w j wr) (fun i _ => n - (intOf i).toNat)
  case atStart => exact ⟨0, Nat.zero_le _, rfl, HI.out⟩
  case round =>
    obtain ⟨j, hj, rfl, hI⟩ := hrel
    by_cases hlt : j < n
    · have hjl : j < labs.length := by rw [HN.out]; exact hlt
      obtain ⟨x, hx⟩ : ∃ x, labs[j] = x := ⟨_, rfl⟩
      have hcx : wr.cell? ⟨b, o + j, none⟩ = some (.string x) := hI.gr.cell (by rw [HC.out j hlt, List.getD, List.getElem?_eq_getElem hjl, hx]; rfl) (by simpa using hbg)
      have hkey := key_of (HZ.out labs[j] (List.getElem_mem hjl))
      rw [hx] at hkey
      have hown := hI.set
      have hlen : (ks ++ labs.take j).length = ks.length + j := by rw [List.length_append, List.length_take]; omega
      have hat := Sl_at (ks ++ labs.take j) x
      have hres := hI.res
      rw [add_step ks labs j hjl, hx] at hres
      obtain ⟨c, hcc⟩ : ∃ c, L2.on (ks ++ labs.take j) x = c := ⟨_, rfl⟩
      rw [hcc] at hat hres
      have hsn : ks ++ labs.take (j + 1) = (ks ++ labs.take j) ++ [x] := by rw [List.take_add_one, List.getElem?_eq_getElem hjl, hx, Option.toList, List.append_assoc]
      have HS := Lib.hid hsn
      have HG := Lib.hid hI.gr
      obtain ⟨K, hK⟩ : ∃ K, ks ++ labs.take j = K := ⟨_, rfl⟩
      unfold SetAt at hown
      rw [hK] at hown hat HS hlen
      rw [hlen] at hown
      have HL := Lib.hid hlen
      clear hI hx hcc hsn hK hlen
      cases c
      · have HR := Lib.hid hres
        clear hres
        go_wp2_with (first
          | (at_lookup; refine L2.wpList_look_bool _ rfl _ _ 89 rfl 9 4 L2.law9 Tryd.underlying89 Tryd.underlying4 (by kernel_rfl) g _ _ rfl hown _ _ rfl hkey false hat ?_)
          | (at_mapUpdate; refine wpList_mapUpdate_own _ rfl _ _ _ 89 rfl 9 4 L2.law9 Tryd.underlying89 (plainElem (H := Unit) Tryd.prog 4) g _ _ rfl hown (by unfold maxLen; omega) _ _ _ rfl rfl hkey _ [] (plainElem_bool Tryd.underlying4 true) ?_; intro w1 hown1 hgrow1)
          | go_in)
        go_roundw
        case rel =>
          refine ⟨j + 1, by omega, by go_num, ?_, ⟨hgrow1.os.trans HG.out.os, hgrow1.tape.trans HG.out.tape, hgrow1.output.trans HG.out.output, Nat.le_trans HG.out.size hgrow1.size, fun k hk hkg => (hgrow1.block k (Nat.lt_of_lt_of_le hk HG.out.size) hkg).trans (HG.out.block k hk hkg)⟩, ?_⟩
          · unfold SetAt
            rw [HS.out, Sl_snoc, List.length_append, HL.out]
            exact hown1
          · simpa using HR.out
        case measure => simp [intOf]; omega
      · have HR := Lib.hid hres
        clear hres
        go_wp2_with (first
          | (at_lookup; refine L2.wpList_look_bool _ rfl _ _ 89 rfl 9 4 L2.law9 Tryd.underlying89 Tryd.underlying4 (by kernel_rfl) g _ _ rfl hown _ _ rfl hkey true hat ?_)
          | go_in)
        go_ret
        rw [← HR.out]
        exact ⟨rfl, HG.out, fun h => by simp at h⟩
    · obtain rfl : j = n := by omega
      have HI2 := Lib.hid hI
      clear hI
      go_wp2
      go_ret
      have hI := HI2.out
      have hr := hI.res
      have hs := hI.set
      rw [add_end ks labs _ (by rw [HN.out]; exact Nat.le_refl _)] at hr
      rw [List.take_of_length_le (by rw [HN.out]; exact Nat.le_refl _)] at hs
      rw [← hr]
      exact ⟨rfl, hI.gr, fun _ => hs⟩
theorem add_none (a : Option Addr) (cap g : Nat) (ks : List ByteArray) (w : World) (hs : SetAt w g ks) :
    Calls Tryd.prog 59 #[.map (some g), .slice a 0 cap] w fun e w' => e = .returned (.bool true) ∧ w.grownBy w' (some g) ∧ SetAt w' g ks := by
  have HS := Lib.hid hs
  clear hs
  go_enter Tryd.func59, Tryd.ntmps59
  go_wp2
  refine wp_loop_rounds 1 ?_
  rw [rounds_succ]
  go_wp2
  go_ret
  exact ⟨rfl, ⟨rfl, rfl, rfl, Nat.le_refl _, fun _ _ _ => rfl⟩, HS.out⟩
theorem add_at (v : Value) (g : Nat) (ks labs : List ByteArray) (w : World) (hm : ks.length + labs.length ≤ 100000) (hs : SetAt w g ks) (hz : ∀ t ∈ labs, t.size ≤ maxLen) (hv : L8.StAt w v labs) (r : Bool) (hr : addB ks labs = r) :
    Calls Tryd.prog 59 #[.map (some g), v] w fun e w' => e = .returned (.bool r) ∧ w.grownBy w' (some g) ∧ (r = true → SetAt w' g (ks ++ labs)) := by
  rcases hv with ⟨b, o, cap, rfl, hlt, hc⟩ | ⟨rfl, a, cap, rfl⟩
  · by_cases h0 : labs.length = 0
    · have := List.eq_nil_of_length_eq_zero h0
      subst this
      rw [addB_none] at hr
      subst hr
      exact (add_none _ cap g ks w hs).mono fun e w' ⟨h1, h2, h3⟩ => ⟨h1, h2, fun _ => by rw [List.append_nil]; exact h3⟩
    · refine add_some b o _ cap g ks labs w rfl hm hs hz hc ?_ r hr
      rintro rfl
      have := hc 0 (by omega)
      unfold World.cell? at this
      split at this
      · exact map_cells hs _ _ _ ‹_›
      · cases this
  · rw [addB_none] at hr
    subst hr
    exact (add_none a cap g ks w hs).mono fun e w' ⟨h1, h2, h3⟩ => ⟨h1, h2, fun _ => by rw [List.append_nil]; exact h3⟩
end Go.Proofs.YtbneaihpnfkcdaaDoor.L10
