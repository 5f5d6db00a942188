/- What the reference's Program returns: the text of a correct program, and an empty text for others. Condition: memory holds the program, which is small. -/
import Derived.Test.YtbneaihpnfkcdaaGreatDoorL11Rcd
import Derived.Test.YtbneaihpnfkcdaaGreatDoorL11Ld
import Derived.Test.YtbneaihpnfkcdaaGreatDoorM15
namespace Go.Proofs.YtbneaihpnfkcdaaGreatDoor.L11
open Go.RowKit
open L10 (Stm Pg)
attribute [local go_sem] Oper.semAt_some

theorem liT_pre (A B : List ByteArray) : (liT A).size ≤ (liT (A ++ B)).size := by
  rw [liT_app, ByteArray.size_append]; omega
theorem liT_one (A : List ByteArray) (t : ByteArray) : liT (A ++ [t]) = liT A ++ (t ++ ⟨#[10]⟩) := by
  rw [liT_app, liT, liT]
  unfold lfB
  apply ByteArray.ext
  simp [L9.eB]
theorem liT_lab (A : List ByteArray) (t : ByteArray) : liT (A ++ [t ++ L9.tCol]) = liT A ++ (t ++ ⟨#[58, 10]⟩) := by
  rw [liT_app, liT, liT]
  unfold lfB L9.tCol
  apply ByteArray.ext
  apply Array.toList_inj.1
  simp [L9.eB]
theorem pre_map (p : Pg) (j : Nat) : (liT ((p.maps.take j).map deT)).size ≤ (pgT p).size := by
  have e : lnT p = (p.maps.take j).map deT ++ ((p.maps.drop j).map deT ++ p.stmts.flatMap slT) := by
    unfold lnT
    rw [← List.append_assoc, ← List.map_append, List.take_append_drop]
  unfold pgT
  rw [e]
  exact liT_pre _ _
theorem pre_stm (p : Pg) (k : Nat) : (liT (p.maps.map deT ++ (p.stmts.take k).flatMap slT)).size ≤ (pgT p).size := by
  have e : lnT p = (p.maps.map deT ++ (p.stmts.take k).flatMap slT) ++ (p.stmts.drop k).flatMap slT := by
    unfold lnT
    rw [List.append_assoc, ← List.flatMap_append, List.take_append_drop]
  unfold pgT
  rw [e]
  exact liT_pre _ _
theorem pre_lab (p : Pg) (k : Nat) (h : k < p.stmts.length) (i : Nat) : (liT ((p.maps.map deT ++ (p.stmts.take k).flatMap slT) ++ (p.stmts[k].labs.take i).map (· ++ L9.tCol))).size ≤ (pgT p).size := by
  refine Nat.le_trans ?_ (pre_stm p (k + 1))
  rw [flat_take slT p.stmts k h, ← List.append_assoc]
  have e : slT p.stmts[k] = (p.stmts[k].labs.take i).map (· ++ L9.tCol) ++ ((p.stmts[k].labs.drop i).map (· ++ L9.tCol) ++ [smT p.stmts[k]]) := by
    unfold slT
    rw [← List.append_assoc, ← List.map_append, List.take_append_drop]
  rw [e, ← List.append_assoc]
  exact liT_pre _ _
set_option maxHeartbeats 2000000 in
set_option maxRecDepth 100000 in
theorem rprogram_no (vm vs : Value) (p : Pg) (w : World) (hp : L10.PgAt w vm vs p) (hf : L10.PgFit p) (hfew : p.maps.length ≤ 300 ∧ p.stmts.length ≤ 60 ∧ L10.lsum p.stmts ≤ 200) (h : (L10.brV p).2.2 ≠ 0) :
    Calls Tryz.prog 12 #[.agg #[vm, vs]] w (fun e w' => e = .returned (.string L9.eB) ∧ Below w.heap.size w w') := by
  obtain ⟨b, k, er, hbr⟩ : ∃ b k er, L10.brV p = (b, k, er) := ⟨_, _, _, rfl⟩
  rw [hbr] at h
  have h' : ¬ er = 0 := h
  obtain ⟨n1, hn1⟩ : ∃ n, p.maps.length = n := ⟨_, rfl⟩
  obtain ⟨n2, hn2⟩ : ∃ n, p.stmts.length = n := ⟨_, rfl⟩
  have hB0 := L8.bnew w (pgA vm vs)
  have HC := Lib.hid (L10.rcheck10_at vm vs p _ (hp.below hB0) hf hfew b k er hbr)
  obtain ⟨a1, c1, rfl, -⟩ := L10.df_form hn1 hp.1
  obtain ⟨a2, c2, rfl, -⟩ := L10.sm_form hn2 hp.2
  have HB := Lib.hid hB0
  clear hp hf h hbr hn1 hn2 hB0 hfew
  go_enter Tryz.func12, Tryz.ntmps12
  go_wp2_with (go_at_call 28; ((with_reducible refine (HC.out).mono ?_); rintro e w1 ⟨rfl, b1⟩))
  go_ret
  exact ⟨rfl, L2.bch HB.out b1⟩
set_option maxHeartbeats 16000000 in
set_option maxRecDepth 100000 in
theorem rprogram_ok (vm vs : Value) (p : Pg) (w : World) (hp : L10.PgAt w vm vs p) (hf : L10.PgFit p) (hfew : p.maps.length ≤ 300 ∧ p.stmts.length ≤ 60 ∧ L10.lsum p.stmts ≤ 200) (hr : (pgT p).size ≤ 100000000) (h : (L10.brV p).2.2 = 0) :
    Calls Tryz.prog 12 #[.agg #[vm, vs]] w (fun e w' => e = .returned (.string (pgT p)) ∧ Below w.heap.size w w') := by
  obtain ⟨b, k, er, hbr⟩ : ∃ b k er, L10.brV p = (b, k, er) := ⟨_, _, _, rfl⟩
  obtain ⟨h1, h2⟩ := brV_parts h
  rw [hbr] at h
  have h' : er = 0 := h
  subst h'
  obtain ⟨n1, hn1⟩ : ∃ n, p.maps.length = n := ⟨_, rfl⟩
  obtain ⟨n2, hn2⟩ : ∃ n, p.stmts.length = n := ⟨_, rfl⟩
  have hB0 := L8.bnew w (pgA vm vs)
  have hp0 := hp.below hB0
  have hsl := L10.sml_few hfew
  have HC := Lib.hid (L10.rcheck10_at vm vs p _ hp0 hf hfew b k 0 hbr)
  obtain ⟨a1, c1, rfl, hc1⟩ := L10.df_form4 hn1 hp0.1
  obtain ⟨a2, c2, rfl, hc2⟩ := L10.sm_form hn2 hp0.2
  have hK0 := heap_alloc_last w (pgA (.slice a1 n1 c1) (.slice a2 n2 c2))
  have hm1 := hfew.1
  have hm2 := hfew.2.1
  rw [hn1] at hm1
  rw [hn2] at hm2
  have HN1 := Lib.hid hn1
  have HN2 := Lib.hid hn2
  have HC1 := Lib.hid hc1
  have HC2 := Lib.hid hc2
  have HD := Lib.hid (fun (d : L9.Df) (hd : d ∈ p.maps) (W : World) => (show Calls Tryz.prog 9 #[.agg #[.string d.nm, .int .i64 d.key, .int .i64 d.val, .int .i64 d.ent]] W (fun e w' => e = .returned (.string (deT d)) ∧ Below W.heap.size W w') by
    have := rdef_at d.nm d.key d.val d.ent W (deE_ok d (h1 d hd)).rng (hf.maps d hd).nm
    rw [show deR ⟨d.nm, d.key, d.val, d.ent⟩ = deT d from if_pos (h1 d hd)] at this
    exact this))
  have HS := Lib.hid (fun (s : Stm) (hs : s ∈ p.stmts) (lv : Value) (W : World) (hv : L8.StAt W lv s.labs) => rcode_at lv s.labs s.x.op s.x.reg s.x.dst s.x.src s.x.off s.x.imm s.tg s.mp W hv (hsl.labs s hs) (hf.stmts s hs) (h2 s hs))
  have HLS := Lib.hid hsl.labs
  have HPM := Lib.hid (pre_map p)
  have HPS := Lib.hid (pre_stm p)
  have HPL := Lib.hid (pre_lab p)
  have HR := Lib.hid hr
  have HB0 := Lib.hid hB0
  clear hp hf h hbr hn1 hn2 hp0 hc1 hc2 hr h1 h2 hB0 hsl hfew
  go_enter Tryz.func12, Tryz.ntmps12
  go_upto_region 1 with (fail)
  generalize w.alloc (pgA (.slice a1 n1 c1) (.slice a2 n2 c2)) = W0 at hK0 HC HC1 HC2 HB0 ⊢
  generalize w.heap.size = k1 at hK0 ⊢
  obtain ⟨x0, x1⟩ := L10.cells2p hK0
  have hlt := lt_of_block hK0
  go_upto_region 4 with (go_at_call 28; ((with_reducible refine (HC.out).mono ?_); rintro e w1 ⟨rfl, b1⟩; have hK1 := L8.row_up hK0 b1; obtain ⟨y0, y1⟩ := L10.cells2p hK1))
  have HK0 := Lib.hid hK0
  have HB1 := Lib.hid b1
  have HX0 : Hid ((⟨#[]⟩ : ByteArray) = liT ((p.maps.take 0).map deT)) := Lib.hid rfl
  clear x0 x1 hlt hK0 b1 HC hK1 y0 y1
  go_wp2_with (fail)
  go_loopw [5, 6] (fun us i wr => ∃ (j : Nat) (X : ByteArray), us = .string X ∧ i = .int .i64 (j : Int) ∧ j ≤ n1 ∧ Hid (X = liT ((p.maps.take j).map deT)) ∧ Hid (Below W0.heap.size W0 wr)) (fun _ i _ => n1 - (intOf i).toNat)
  case atStart => exact ⟨0, _, rfl, rfl, Nat.zero_le _, HX0, HB1⟩
  case round =>
    clear HX0 HB1
    obtain ⟨j, X, rfl, rfl, hj, hX, hB⟩ := hrel
    have hK := L8.row_up HK0.out hB.out
    obtain ⟨y0, y1⟩ := L10.cells2p hK
    have hkl := lt_of_block hK
    by_cases hltj : j < n1
    · have hjl : j < p.maps.length := by rw [HN1.out]; exact hltj
      obtain ⟨bb, o, rfl, hbl, hcc⟩ := HC1.out (by omega)
      obtain ⟨q0, q1, q2, q3⟩ := hcc j hjl
      have x0 := (hB.out.cell (by exact hbl)).trans q0
      have x1 := (hB.out.cell (by exact hbl)).trans q1
      have x2 := (hB.out.cell (by exact hbl)).trans q2
      have x3 := (hB.out.cell (by exact hbl)).trans q3
      have hlb := World.block_lt_of_cell? _ _ x0
      simp only at hlb
      have hmt := map_take deT p.maps j hjl
      have hDj := HD.out p.maps[j] (List.getElem_mem hjl) wr
      have hsz := HPM.out (j + 1)
      obtain ⟨d, hd⟩ : ∃ d, p.maps[j] = d := ⟨_, rfl⟩
      rw [hd] at x0 x1 x2 x3 hmt hDj
      rw [hmt, liT_one, ← hX.out] at hsz
      have HM : Hid (X ++ (deT d ++ ⟨#[10]⟩) = liT ((p.maps.take (j + 1)).map deT)) := Lib.hid (by rw [hmt, liT_one, ← hX.out])
      have s2 : (X ++ (deT d ++ ⟨#[10]⟩)).size ≤ 100000000 := Nat.le_trans hsz HR.out
      have s1 : (deT d ++ ⟨#[10]⟩ : ByteArray).size ≤ 100000000 := by rw [app1] at s2; omega
      have u1 : (deT d).size + 1 ≤ 100000000 := by rw [app1] at s1; exact s1
      have u2 : X.size + ((deT d).size + 1) ≤ 100000000 := by rw [app1, app1] at s2; exact s2
      have HDJ := Lib.hid hDj
      have HBW := Lib.hid hB.out
      have hjI : (j : Int) < (n1 : Int) := by omega
      clear q0 q1 q2 q3 hcc hjl hmt hDj hd hsz hB hX hK
      generalize deT d = E at HDJ HM s1 s2 u1 u2
      go_wp2_with (go_at_call 9; ((with_reducible refine (HDJ.out).mono ?_); rintro e w3 ⟨rfl, b3⟩; have B3 := L2.bch HBW.out b3))
      go_roundw
      case rel => exact ⟨j + 1, _, rfl, by go_num, by omega, HM, Lib.hid B3⟩
      case measure => simp [intOf]; omega
    · obtain rfl : j = n1 := by omega
      have hX1 := hX.out
      rw [List.take_of_length_le (by rw [HN1.out]; exact Nat.le_refl _)] at hX1
      have HX1 : Hid (X = liT (p.maps.map deT ++ (p.stmts.take 0).flatMap slT)) := Lib.hid (by rw [List.take_zero, List.flatMap_nil, List.append_nil]; exact hX1)
      have HB1 := hB
      clear hX hX1 HD HC1 hltj hB
      go_wp2_with (fail)
      clear y0 y1 hkl hK
      go_loopw [5, 7, 8] (fun us i _ wr => ∃ (k : Nat) (X : ByteArray), us = .string X ∧ i = .int .i64 (k : Int) ∧ k ≤ n2 ∧ Hid (X = liT (p.maps.map deT ++ (p.stmts.take k).flatMap slT)) ∧ Hid (Below W0.heap.size W0 wr)) (fun _ i _ _ => n2 - (intOf i).toNat)
      case atStart => exact ⟨0, _, rfl, rfl, Nat.zero_le _, HX1, HB1⟩
      case round =>
        clear HX1 HB1
        obtain ⟨k, X, rfl, rfl, hk, hX, hB⟩ := hrel
        have hK := L8.row_up HK0.out hB.out
        obtain ⟨y0, y1⟩ := L10.cells2p hK
        have hkl0 := lt_of_block hK
        by_cases hltk : k < n2
        · have hkl : k < p.stmts.length := by rw [HN2.out]; exact hltk
          obtain ⟨bb, o, rfl, hbl, hcc⟩ := HC2.out (by omega)
          obtain ⟨lv, hst, hx⟩ := hcc k hkl
          have HCX := Lib.hid (fun (W : World) (hW : Below W0.heap.size W0 W) => (fun i u (hu : (L10.smL lv p.stmts[k])[i]? = some u) => (hW.cell (by exact hbl)).trans (hx i u hu)))
          have hmt := flat_take slT p.stmts k hkl
          have hSk := HS.out p.stmts[k] (List.getElem_mem hkl)
          have hll := HLS.out p.stmts[k] (List.getElem_mem hkl)
          have hpl := HPL.out k hkl
          have hps := HPS.out (k + 1)
          obtain ⟨s, hs⟩ : ∃ s, p.stmts[k] = s := ⟨_, rfl⟩
          rw [hs] at hmt hSk hst hll hpl HCX
          obtain ⟨ln, hln⟩ : ∃ ln, s.labs.length = ln := ⟨_, rfl⟩
          obtain ⟨la, lc, rfl, hla⟩ := L10.st_form hln hst
          rw [hln] at hll
          obtain ⟨L, hL⟩ : ∃ L, p.maps.map deT ++ (p.stmts.take k).flatMap slT = L := ⟨_, rfl⟩
          have hmt2 : p.maps.map deT ++ (p.stmts.take (k + 1)).flatMap slT = (L ++ s.labs.map (· ++ L9.tCol)) ++ [smT s] := by
            rw [hmt, ← List.append_assoc, hL]
            unfold slT
            rw [← List.append_assoc]
          rw [hmt2] at hps
          rw [hL] at hX hpl
          have HMT := Lib.hid hmt2
          have HLA := Lib.hid hla
          have HLN := Lib.hid hln
          have HPS2 := Lib.hid hps
          have HPL2 := Lib.hid hpl
          have HSK := Lib.hid (fun (W : World) (hW : Below W0.heap.size W0 W) => hSk (.slice la ln lc) W (hst.below hW))
          have HXA : Hid (X = liT (L ++ (s.labs.take 0).map (· ++ L9.tCol))) := Lib.hid (by rw [List.take_zero, List.map_nil, List.append_nil]; exact hX.out)
          have HBA := hB
          clear hmt hmt2 hSk hs hL hx hst hcc hkl hla hln hX hB hpl hps hK
          have hkI : (k : Int) < (n2 : Int) := by omega
          go_wp2_with (fail)
          clear y0 y1 hkl0 hkI
          go_loopw [5, 8] (fun us i wr => ∃ (i' : Nat) (X : ByteArray), us = .string X ∧ i = .int .i64 (i' : Int) ∧ i' ≤ ln ∧ Hid (X = liT (L ++ (s.labs.take i').map (· ++ L9.tCol))) ∧ Hid (Below W0.heap.size W0 wr)) (fun _ i _ => ln - (intOf i).toNat)
          case atStart => exact ⟨0, _, rfl, rfl, Nat.zero_le _, HXA, HBA⟩
          case round =>
            clear HXA HBA
            obtain ⟨i, X, rfl, rfl, hi, hX, hB⟩ := hrel
            have hK := L8.row_up HK0.out hB.out
            obtain ⟨y0, y1⟩ := L10.cells2p hK
            have hkl0 := lt_of_block hK
            have z0 := HCX.out _ hB.out 0 _ rfl
            rw [Nat.add_zero] at z0
            have hzl := World.block_lt_of_cell? _ _ z0
            simp only at hzl
            by_cases hlti : i < ln
            · have hil : i < s.labs.length := by rw [HLN.out]; exact hlti
              obtain ⟨b3, o3, rfl, hb3, hc3⟩ := HLA.out (by omega)
              have t0 := (hB.out.cell (by exact hb3)).trans (hc3 i hil)
              have htl := World.block_lt_of_cell? _ _ t0
              simp only at htl
              have hmi := map_take (· ++ L9.tCol) s.labs i hil
              have hsz := HPL2.out (i + 1)
              obtain ⟨T, hT⟩ : ∃ T, s.labs[i] = T := ⟨_, rfl⟩
              rw [hT] at t0 hmi
              rw [hmi, ← List.append_assoc, liT_lab, ← hX.out] at hsz
              have HM : Hid (X ++ (T ++ ⟨#[58, 10]⟩) = liT (L ++ (s.labs.take (i + 1)).map (· ++ L9.tCol))) := Lib.hid (by rw [hmi, ← List.append_assoc, liT_lab, ← hX.out])
              have s2 : (X ++ (T ++ ⟨#[58, 10]⟩)).size ≤ 100000000 := Nat.le_trans hsz HR.out
              have s1 : (T ++ ⟨#[58, 10]⟩ : ByteArray).size ≤ 100000000 := by rw [app1] at s2; omega
              have u1 : T.size + 2 ≤ 100000000 := by rw [app1] at s1; exact s1
              have u2 : X.size + (T.size + 2) ≤ 100000000 := by rw [app1, app1] at s2; exact s2
              have HBW := Lib.hid hB.out
              have hiI : (i : Int) < (ln : Int) := by omega
              have hkI : (k : Int) < (n2 : Int) := by omega
              clear hc3 hil hmi hT hsz hB hX hK
              go_wp2_with (fail)
              go_roundw
              case rel => exact ⟨i + 1, _, rfl, by go_num, by omega, HM, HBW⟩
              case measure => simp [intOf]; omega
            · obtain rfl : i = ln := by omega
              have hX1 := hX.out
              rw [List.take_of_length_le (by rw [HLN.out]; exact Nat.le_refl _)] at hX1
              have hsz := HPS2.out
              rw [liT_one, ← hX1] at hsz
              have HM : Hid (X ++ (smT s ++ ⟨#[10]⟩) = liT (p.maps.map deT ++ (p.stmts.take (k + 1)).flatMap slT)) := Lib.hid (by rw [HMT.out, liT_one, ← hX1])
              have s2 : (X ++ (smT s ++ ⟨#[10]⟩)).size ≤ 100000000 := Nat.le_trans hsz HR.out
              have s1 : (smT s ++ ⟨#[10]⟩ : ByteArray).size ≤ 100000000 := by rw [app1] at s2; omega
              have u1 : (smT s).size + 1 ≤ 100000000 := by rw [app1] at s1; exact s1
              have u2 : X.size + ((smT s).size + 1) ≤ 100000000 := by rw [app1, app1] at s2; exact s2
              have HC9 := Lib.hid (show Calls Tryz.prog 29 #[.agg (stA (.slice la i lc) s.x.op s.x.reg s.x.dst s.x.src s.x.off s.x.imm s.tg s.mp)] wr fun e w' => e = .returned (.string (smT s)) ∧ Below wr.heap.size wr w' from HSK.out wr hB.out)
              have z1 := HCX.out _ hB.out 1 _ rfl
              have z2 := HCX.out _ hB.out 2 _ rfl
              have z3 := HCX.out _ hB.out 3 _ rfl
              have z4 := HCX.out _ hB.out 4 _ rfl
              have z5 := HCX.out _ hB.out 5 _ rfl
              have z6 := HCX.out _ hB.out 6 _ rfl
              have z7 := HCX.out _ hB.out 7 _ rfl
              have z8 := HCX.out _ hB.out 8 _ rfl
              have HBW := Lib.hid hB.out
              have hkI : (k : Int) < (n2 : Int) := by omega
              clear hX hX1 hsz hB hK HLA HSK HPL2
              generalize smT s = E at HC9 HM s1 s2 u1 u2
              go_wp2_with (go_at_call 29; ((with_reducible refine (HC9.out).mono ?_); rintro e w3 ⟨rfl, b3⟩; have B3 := L2.bch HBW.out b3))
              go_roundw
              case rel => exact ⟨k + 1, _, rfl, by go_num, by omega, HM, Lib.hid B3⟩
              case measure => simp [intOf]; omega
        · obtain rfl : k = n2 := by omega
          have hX1 := hX.out
          rw [List.take_of_length_le (by rw [HN2.out]; exact Nat.le_refl _)] at hX1
          have hX2 : X = pgT p := hX1
          subst hX2
          have HBF := Lib.hid (L2.bch HB0.out hB.out)
          clear hX hX1 hB hK
          go_wp2_with (fail)
          go_ret
          exact ⟨rfl, HBF.out⟩
end Go.Proofs.YtbneaihpnfkcdaaGreatDoor.L11
