/- What References returns, the program's and the reference's: the relocations. Condition: memory holds the program, whose lists are no longer than 100000. -/
import Derived.Test.YthoghcejmnnniaaL12Cod
import Derived.WalkMore
import Derived.Deep.LoopGhost
namespace Go.Proofs.Ythoghcejmnnniaa.L12
open Go.RowKit Go.Shelf L3 L4
attribute [local go_sem] Oper.semAt_some

theorem infoR : (Try.prog.info? 47).map (fun i => (i.zero, i.size, i.bytes)) = some (some (.agg #[.int .i64 0, .int .i64 0]), 2, 16) := by kernel_rfl
/-- The cells of some relocations. -/
def rlL (r : Nat × Int) : List Value := [.int .i64 (r.1 : Int), .int .i64 r.2]
def rlC (l : List (Nat × Int)) : List Value := l.flatMap rlL
theorem rlC_snoc (l : List (Nat × Int)) (a : Nat) (b : Int) : rlC (l ++ [(a, b)]) = rlC l ++ [.int .i64 (a : Int), .int .i64 b] := by simp [rlC, rlL]
/-- The relocations of the first statements. -/
def rfT (p : L10.Pg) (k : Nat) : List (Nat × Int) := rfL p.maps 0 (p.stmts.take k)
theorem rfL_app (ms : List L9.Df) : ∀ (l : List L10.Stm) (a : Nat) (s : L10.Stm), rfL ms a (l ++ [s]) = rfL ms a l ++ (if frm (ix s.x.op) = 11 ∧ 0 ≤ L10.mpI 0 ms s.mp then [(a + smN (cdL l), L10.mpI 0 ms s.mp)] else [])
  | [], a, s => by simp [rfL, smN, cdL]
  | x :: r, a, s => by
    rw [List.cons_append, rfL, rfL_app ms r (a + slN x.x) s, rfL, List.append_assoc]
    simp [smN, cdL, Nat.add_assoc]
theorem rfT_snoc (p : L10.Pg) (k : Nat) (h : k < p.stmts.length) : rfT p (k + 1) = rfT p k ++ (if frm (ix p.stmts[k].x.op) = 11 ∧ 0 ≤ L10.mpI 0 p.maps p.stmts[k].mp then [(stN (cdL p.stmts) k, L10.mpI 0 p.maps p.stmts[k].mp)] else []) := by
  unfold rfT
  rw [List.take_add_one, List.getElem?_eq_getElem h, Option.toList, rfL_app, Nat.zero_add]
  unfold stN cdL
  rw [List.map_take]
theorem mpI_ge : ∀ (l : List L9.Df) (k : Nat) (x : ByteArray), L10.mpI k l x = -1 ∨ (k : Int) ≤ L10.mpI k l x
  | [], _, _ => .inl rfl
  | d :: r, k, x => by
    rw [L10.mpI]
    split
    · exact .inr (Int.le_refl _)
    · rcases mpI_ge r (k + 1) x with h | h
      · exact .inl h
      · exact .inr (by omega)
theorem cl4 {w : World} {k : Nat} {a b c d : Value} {t : TypeId} (hh : w.heap[k]? = some (.cells #[a, b, c, d] t)) : w.cell? ⟨k, 0, none⟩ = some a ∧ w.cell? ⟨k, 1, none⟩ = some b ∧ w.cell? ⟨k, 2, none⟩ = some c ∧ w.cell? ⟨k, 3, none⟩ = some d := by
  simp [World.cell?, hh]
/-- What both return. -/
def RfP (w : World) (p : L10.Pg) (e : Ending) (w' : World) : Prop := ∃ v, e = .returned v ∧ w'.ownsRow w.heap.size 47 2 v (rfT p p.stmts.length).length (rlC (rfT p p.stmts.length)) ∧ Below w.heap.size w w'

set_option maxHeartbeats 4000000 in
set_option maxRecDepth 100000 in
theorem refs_at (vm vs : Value) (p : L10.Pg) (w : World) (hp : L10.PgAt w vm vs p) (hs : L10.Sml p) :
    Calls Try.prog 23 #[.agg #[vm, vs]] w fun e w' => RfP w p e w' := by
  obtain ⟨i0, hi, hz0, hz1, hz2⟩ := info_parts infoR
  obtain ⟨n1, hn1⟩ : ∃ n, p.maps.length = n := ⟨_, rfl⟩
  obtain ⟨n2, hn2⟩ : ∃ n, p.stmts.length = n := ⟨_, rfl⟩
  have hp1 := hp.1
  have hp2 := hp.2
  obtain ⟨a1, c1, rfl, hd⟩ := L10.df_form4 hn1 hp1
  obtain ⟨a2, c2, rfl, hc⟩ := L10.sm_form hn2 hp2
  have hm1 := hs.maps
  have hm2 := hs.stmts
  rw [hn1] at hm1
  rw [hn2] at hm2
  have HC := Lib.hid hc
  have HD := Lib.hid hd
  have HN := Lib.hid hn2
  have HM := Lib.hid hn1
  have HB := Lib.hid (L8.bnew w (.cells #[.slice a1 n1 c1, .slice a2 n2 c2] 40))
  have K0 := Lib.hid (heap_alloc_last w (.cells #[.slice a1 n1 c1, .slice a2 n2 c2] 40))
  have HCo := Lib.hid (fun (W : World) (hb : Below w.heap.size w W) => code_at (.slice a1 n1 c1) (.slice a2 n2 c2) p W (hp.below hb) hs)
  unfold CoP at HCo
  rw [hn2] at HCo
  have HSt := Lib.hid (fun (W : World) (v : Value) (hi : IsAt W v (cdL p.stmts)) => starts_is v (cdL p.stmts) n2 (by rw [cdL_len]; exact hn2) (by omega) W hi)
  obtain ⟨S, hS⟩ : ∃ S, smN (cdL p.stmts) = S := ⟨_, rfl⟩
  rw [hS] at HSt
  unfold RfP
  rw [hn2]
  clear hp hp1 hp2 hs hn1 hn2 hc hd hS
  go_enter Try.func23, Try.ntmps23
  go_upto_region 1 with (fail)
  have x1 := L10.cells2p K0.out
  obtain ⟨x1, x2⟩ := x1
  have hlt1 := World.block_lt_of_cell? _ _ x1
  simp only at hlt1
  obtain ⟨kb, hkb⟩ : ∃ kb, w.heap.size = kb := ⟨_, rfl⟩
  have HKB := Lib.hid hkb
  rw [hkb] at K0 x1 x2 hlt1 ⊢
  clear hkb
  generalize w.alloc (.cells #[.slice a1 n1 c1, .slice a2 n2 c2] 40) = W0 at K0 x1 x2 hlt1 HB ⊢
  go_step3
  go_wp2_with (first | (go_at_call 20; ((with_reducible refine (HCo.out _ HB.out).mono ?_); rintro e w1 ⟨ca, cc, rfl, hci, b1⟩)) | (go_at_call 10; ((with_reducible refine (HSt.out _ _ hci).mono ?_); rintro e w2 ⟨⟨sa, sc, rfl, hsi⟩, b2⟩; have B2 := L2.bch b1 b2; obtain ⟨u1, u2⟩ := L10.cells2p (L8.row_up K0.out B2); have hlt2 : kb < w2.heap.size := World.block_lt_of_cell? _ _ u1)))
  have HB2 := Lib.hid (L2.bch HB.out B2)
  have K2 := Lib.hid (L8.row_up K0.out B2)
  have HSI := Lib.hid hsi
  clear x1 x2 hlt1 hci hsi b1 b2 B2 K0
  have HI : Hid (w2.ownsRow w2.heap.size 47 2 (.slice none 0 0) 0 (rlC (rfT p 0)) ∧ Below w2.heap.size w2 w2 ∧ (rfT p 0).length = 0) := Lib.hid ⟨World.ownsRow_nil _ _ _ _, Below.refl _ _, rfl⟩
  go_step3
  go_wp2
  go_loopg [3, 19] n2 (fun gh vn i wr => ∃ k m : Nat, k + gh = n2 ∧ m ≤ k ∧ i = .int .i64 (k : Int) ∧ Hid (wr.ownsRow w2.heap.size 47 2 vn m (rlC (rfT p k)) ∧ Below w2.heap.size w2 wr ∧ (rfT p k).length = m))
  case atStart => exact ⟨0, 0, by omega, Nat.le_refl _, rfl, HI⟩
  case round =>
    obtain ⟨k, m, hk, hmk, rfl, hI⟩ := hrel
    clear HI u1 u2 hlt2
    obtain ⟨x1, x2⟩ := L10.cells2p (L8.row_up K2.out hI.out.2.1)
    have hlt1 := World.block_lt_of_cell? _ _ x1
    simp only at hlt1
    cases gk with
    | succ gh =>
      have hlt : k < n2 := by omega
      have hkl : k < p.stmts.length := by rw [HN.out]; exact hlt
      obtain ⟨b, o, rfl, hbl, hc⟩ := HC.out (by omega)
      obtain ⟨lv, hst, hx⟩ := hc k hkl
      have hBw := L2.bch HB2.out hI.out.2.1
      have up : ∀ i u, (L10.smL lv p.stmts[k])[i]? = some u → wr.cell? ⟨b, o + k * 9 + i, none⟩ = some u := fun i u hu => (hBw.cell (by exact hbl)).trans (hx i u hu)
      have hsn := rfT_snoc p k hkl
      obtain ⟨s, hs⟩ : ∃ s, p.stmts[k] = s := ⟨_, rfl⟩
      rw [hs] at hst up hsn
      obtain ⟨ln, hln⟩ : ∃ ln, s.labs.length = ln := ⟨_, rfl⟩
      obtain ⟨la, lc, rfl, -⟩ := L10.st_form hln hst
      obtain ⟨labs, ⟨op, reg, dst, src, off, imm⟩, tg, mp⟩ := s
      have y0 := up 0 _ rfl
      have y1 := up 1 _ rfl
      have y2 := up 2 _ rfl
      have y3 := up 3 _ rfl
      have y4 := up 4 _ rfl
      have y5 := up 5 _ rfl
      have y6 := up 6 _ rfl
      have y7 := up 7 _ rfl
      have y8 := up 8 _ rfl
      rw [Nat.add_zero] at y0
      have hw1 := World.block_lt_of_cell? _ _ y0
      simp only at hw1
      simp only at hsn
      obtain ⟨sb, so, rfl, hsb, hcl⟩ := st_cell (l := cdL p.stmts) (by rw [cdL_len]; exact HN.out) HSI.out hlt
      have HSL := Lib.hid (hcl k hlt)
      have hkI : (k : Int) < (n2 : Int) := by omega
      have HBl := Lib.hid hI.out.2.1
      have hown := hI.out.1
      have HLn := Lib.hid hI.out.2.2
      have hszW := HBl.out.size
      clear hx hc hst hs hln up hI hBw hcl
      go_upto_region 6 with (fail)
      have hx := heap_alloc_last wr (.cells #[.slice la ln lc, .int .i64 op, .bool reg, .int .i64 dst, .int .i64 src, .int .i64 off, .int .i64 imm, .string tg, .string mp] 56)
      have B1 := L2.bch HBl.out (L8.bnew wr (.cells #[.slice la ln lc, .int .i64 op, .bool reg, .int .i64 dst, .int .i64 src, .int .i64 off, .int .i64 imm, .string tg, .string mp] 56))
      have hown1 := L8.own_below hown (L8.bnew wr (.cells #[.slice la ln lc, .int .i64 op, .bool reg, .int .i64 dst, .int .i64 src, .int .i64 off, .int .i64 imm, .string tg, .string mp] 56))
      obtain ⟨g, hg⟩ : ∃ g, g = wr.heap.size := ⟨_, rfl⟩
      rw [← hg] at hx ⊢
      generalize wr.alloc (.cells _ 56) = W1 at hx B1 hown1 ⊢
      clear hg hown x1 x2 hlt1 y0 y1 y2 y3 y4 y5 y6 y7 y8 hw1 hszW HBl
      obtain ⟨z0, z1, z2, z3, z4, z5, z6, z7, z8⟩ := cl9 hx
      have HF := Lib.hid (fun W => form_at op _ W rfl)
      obtain ⟨f, hf⟩ : ∃ f, frm (ix op) = f := ⟨_, rfl⟩
      rw [hf] at HF hsn
      by_cases hfe : f = 11
      · subst hfe
        have HX1 := Lib.hid (And.intro hown1 B1)
        obtain ⟨R, hR⟩ : ∃ R, L10.mpI 0 p.maps mp = R := ⟨_, rfl⟩
        rw [hR] at hsn
        obtain ⟨st, hst⟩ : ∃ st, stN (cdL p.stmts) k = st := ⟨_, rfl⟩
        rw [hst] at hsn HSL
        have HSN := Lib.hid hsn
        have hV : Hid (L10.mpI 0 (p.maps.drop 0) mp = R) := Lib.hid hR
        have K1 := Lib.hid (L8.row_up K2.out B1)
        have HXc := Lib.hid hx
        clear hsn hf hown1 B1 hR hst
        go_wp2_with (go_at_call 30; ((with_reducible refine (HF.out _).mono ?_); rintro e w3 ⟨rfl, b3⟩; obtain ⟨u1, u2⟩ := L10.cells2p (L8.row_up K1.out b3); have hlt3 : kb < w3.heap.size := World.block_lt_of_cell? _ _ u1))
        have HB3 := Lib.hid b3
        clear z0 z1 z2 z3 z4 z5 z6 z7 z8 hx b3
        go_loopg [3, 32] n1 (fun gi v3 i wi => ∃ j : Nat, j + gi = n1 ∧ u3 = v3 ∧ i = .int .i64 (j : Int) ∧ Hid (L10.mpI j (p.maps.drop j) mp = R ∧ Below w3.heap.size w3 wi))
        case atStart => exact ⟨0, by omega, rfl, rfl, Lib.hid ⟨hV.out, Below.refl _ _⟩⟩
        case round =>
          obtain ⟨j, hj, rfl, rfl, hT⟩ := hrel
          clear hV u1 u2 hlt3
          cases gk with
          | zero =>
            obtain rfl : j = n1 := by omega
            have hr := hT.out.1
            rw [List.drop_eq_nil_of_le (by rw [HM.out]; exact Nat.le_refl _), L10.mpI] at hr
            subst hr
            have hsn := HSN.out
            rw [if_neg (fun h => absurd h.2 (by decide)), List.append_nil] at hsn
            have HSN2 := Lib.hid hsn
            have B4 := Lib.hid (L2.bch HB3.out hT.out.2)
            clear hsn hT
            go_wp2
            go_roundg gh
            case measure => omega
            case rel =>
              refine ⟨k + 1, m, by omega, by omega, by go_num, Lib.hid ⟨?_, L2.bch HX1.out.2 B4.out, ?_⟩⟩
              · rw [HSN2.out]; exact L8.own_below HX1.out.1 B4.out
              · rw [HSN2.out]; exact HLn.out
          | succ gi =>
            have hjn : j < n1 := by omega
            have hjl : j < p.maps.length := by rw [HM.out]; exact hjn
            obtain ⟨db, do', rfl, hdb, hdc⟩ := HD.out (by omega)
            have B4 := L2.bch HB3.out hT.out.2
            have B5 := L2.bch HX1.out.2 B4
            have B6 := L2.bch HB2.out B5
            obtain ⟨y0, y1, y2, y3⟩ := hdc j hjl
            have y0 := cell_up B6 y0
            have y1 := cell_up B6 y1
            have y2 := cell_up B6 y2
            have y3 := cell_up B6 y3
            have hw1 := World.block_lt_of_cell? _ _ y0
            simp only at hw1
            have hst := hT.out.1
            rw [List.drop_eq_getElem_cons hjl, L10.mpI] at hst
            have hcx := L8.row_up HXc.out B4
            have hcs := cell_up B5 HSL.out
            have hown4 := L8.own_below HX1.out.1 B4
            have HB5 := Lib.hid B5
            have hjI : (j : Int) < (n1 : Int) := by omega
            generalize p.maps[j] = d at y0 y1 y2 y3 hst
            obtain ⟨nm, key, val, ent⟩ := d
            simp only at hst
            have HST := Lib.hid hst
            have HTB := Lib.hid hT.out.2
            have HB4 := Lib.hid B4
            clear hdc B4 B5 B6 hT hst
            go_upto_region 10 with (fail)
            have hx4 := heap_alloc_last wr (.cells #[.string nm, .int .i64 key, .int .i64 val, .int .i64 ent] 58)
            have bn := L8.bnew wr (.cells #[.string nm, .int .i64 key, .int .i64 val, .int .i64 ent] 58)
            have hcx4 := L8.row_up hcx bn
            have hcs4 := cell_up bn hcs
            have hown5 := L8.own_below hown4 bn
            have HB7 := Lib.hid (L2.bch HB5.out bn)
            have HBN := Lib.hid bn
            obtain ⟨g4, hg4⟩ : ∃ g4, g4 = wr.heap.size := ⟨_, rfl⟩
            rw [← hg4] at hx4 ⊢
            generalize wr.alloc (.cells _ 58) = W4 at hx4 hcx4 hcs4 hown5 HB7 HBN bn ⊢
            clear hg4 bn hcx hcs hown4 y0 y1 y2 y3 hw1
            obtain ⟨v0, v1, v2, v3⟩ := cl4 hx4
            obtain ⟨z0, z1, z2, z3, z4, z5, z6, z7, z8⟩ := cl9 hcx4
            have hsW := HB7.out.size
            by_cases he : nm = mp
            · subst he
              have ht : (nm.toList == nm.toList) = true := by simp
              have hr := HST.out
              rw [if_pos rfl] at hr
              subst hr
              have hsn := HSN.out
              rw [if_pos ⟨by trivial, by omega⟩] at hsn
              have HSN2 := Lib.hid hsn
              clear hsn HST HTB HSN
              go_wp2_with (at_builtin; refine wpList_append_own _ rfl _ _ 45 rfl w2.heap.size 47 i0 (.agg #[.int .i64 0, .int .i64 0]) 2 16 Try.underlying45 hi hz0 hz1 hz2 rfl (by decide) _ m _ rfl (hown5.alloc _) ⟨W4.heap.size, 0, none⟩ 1 1 [.int .i64 (st : Int), .int .i64 (j : Int)] rfl rfl (World.news_of_block (cs := #[.int .i64 (st : Int), .int .i64 (j : Int)]) (t := 47) (fr := (0, 0)) (heap_alloc_last W4 _)) (by simp [Value.oneCell']) (by unfold maxLen; omega) (by omega) (by simp; omega) ?_; intro v' w5 hown6 hgrow6 _)
              go_roundg gh
              case measure => omega
              case rel =>
                refine ⟨k + 1, m + 1, by omega, by omega, by go_num, Lib.hid ⟨?_, ?_, ?_⟩⟩
                · rw [HSN2.out, rlC_snoc]; exact hown6
                · exact (HB7.out.alloc hsW _).grown hgrow6 (by simp; omega) (L8.own_base hown5)
                · rw [HSN2.out, List.length_append, HLn.out]; rfl
            · have ht : (nm.toList == mp.toList) = false := L2.txt_ne he
              have hr := HST.out
              rw [if_neg he] at hr
              have HT2 := Lib.hid (And.intro hr (L2.bch HTB.out HBN.out))
              clear he hr HST HTB
              go_wp2
              go_roundg gi
              case measure => omega
              case rel => exact ⟨j + 1, by omega, rfl, by go_num, HT2⟩
      · have hfe2 : (f != 11) = true := by simpa using hfe
        rw [if_neg (fun h => hfe h.1), List.append_nil] at hsn
        have HSN := Lib.hid hsn
        have HX1 := Lib.hid (And.intro hown1 B1)
        clear hsn hf hown1 B1
        go_wp2_with (go_at_call 30; ((with_reducible refine (HF.out _).mono ?_); rintro e w3 ⟨rfl, b3⟩))
        go_roundg gh
        case measure => omega
        case rel =>
          refine ⟨k + 1, m, by omega, by omega, by go_num, Lib.hid ⟨?_, L2.bch HX1.out.2 b3, ?_⟩⟩
          · rw [HSN.out]; exact L8.own_below HX1.out.1 b3
          · rw [HSN.out]; exact HLn.out
    | zero =>
      obtain rfl : k = n2 := by omega
      have hJ := hI.out
      obtain ⟨va, vc, rfl⟩ := owns_slice hJ.1
      have HJ2 := Lib.hid hJ
      clear hI hJ
      go_wp2
      try rw [Exit.noGoto_ret]
      go_ret
      have hJ := HJ2.out
      refine ⟨_, rfl, ?_, L2.bch HB2.out hJ.2.1⟩
      rw [hJ.2.2]
      exact own_weak hJ.1 (by have := HB2.out.size; have := HKB.out; omega)
end Go.Proofs.Ythoghcejmnnniaa.L12
