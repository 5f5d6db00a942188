/- What a correct program says of its parts: each instruction's fields, each declaration. It speaks of no program. -/
/- What print's Program returns: the text of a correct program, and an empty text for others. Condition: the tables read as the program's text lays them, memory holds the program. -/
/- The examples of the chapter hold (slotcodelaw11.alive returns true); what print's Code returns for the chapter's instruction. Condition: the tables read as the program's text lays them. -/
/- What the reference's Memory returns: the text of a memory operand, or an empty one. No condition but that the offset is one that its type allows. -/
import Derived.Test.YtbneaihpnfkcdaaGreatDoorM13
import Derived.Lib.Strings
import Derived.Test.YtbneaihpnfkcdaaGreatDoorM21
import Derived.Test.YtbneaihpnfkcdaaGreatDoorM22
import Derived.Test.YtbneaihpnfkcdaaGreatDoorM15
import Derived.Test.YtbneaihpnfkcdaaGreatDoorM2

section
namespace Go.Proofs.YtbneaihpnfkcdaaGreatDoor.L11
open L9 (tCom tOpn tShu tPlu tMin tCol eB)
open L10 (Stm Pg)

theorem wf64 {x : Int} (h : (Lit.int .i64 x).wf = true) : -9223372036854775808 ≤ x ∧ x ≤ 9223372036854775807 := by
  simpa [Lit.wf, IntKind.min, IntKind.max, IntKind.bits, IntKind.signed] using h
theorem first0 : ∀ (l : List (Bool × Int)), (∀ p ∈ l, p.2 ≠ 0) → L4.firstBad l = 0 → ∀ p ∈ l, p.1 = true
  | [], _, _ => by simp
  | (b, e) :: r, h, h0 => by
    rw [L4.firstBad] at h0
    cases b
    · exact absurd h0 (h (false, e) (by simp))
    · intro p hp
      rcases List.mem_cons.1 hp with rfl | hp
      · rfl
      · exact first0 r (fun q hq => h q (by simp [hq])) h0 p hp
theorem chk_all {f : Int} {reg : Bool} {dst src off imm : Int} (h : L4.chkF f reg dst src off imm = 0) :
    f ≠ -1 ∧ (reg = false ∨ f = 0 ∨ f = 4) ∧ (L4.uD f = true ∨ dst = 0) ∧ (L4.uS f reg = true ∨ src = 0) ∧ (L4.uO f = true ∨ off = 0) ∧ (L4.uI f reg = true ∨ imm = 0) ∧ L4.isG dst = true ∧ L4.isG src = true ∧ L1.sx 16 off = off ∧ L4.rng f imm = true := by
  unfold L4.chkF at h
  have k := first0 _ (by intro p hp; simp only [List.mem_cons, List.not_mem_nil, or_false] at hp; rcases hp with rfl | rfl | rfl | rfl | rfl | rfl | rfl <;> simp) h
  have k1 := k _ (List.mem_cons_self ..)
  have k2 := k _ (List.mem_cons_of_mem _ (List.mem_cons_self ..))
  have k3 := k _ (List.mem_cons_of_mem _ (List.mem_cons_of_mem _ (List.mem_cons_self ..)))
  have k4 := k _ (List.mem_cons_of_mem _ (List.mem_cons_of_mem _ (List.mem_cons_of_mem _ (List.mem_cons_self ..))))
  have k5 := k _ (List.mem_cons_of_mem _ (List.mem_cons_of_mem _ (List.mem_cons_of_mem _ (List.mem_cons_of_mem _ (List.mem_cons_self ..)))))
  have k6 := k _ (List.mem_cons_of_mem _ (List.mem_cons_of_mem _ (List.mem_cons_of_mem _ (List.mem_cons_of_mem _ (List.mem_cons_of_mem _ (List.mem_cons_self ..))))))
  have k7 := k _ (List.mem_cons_of_mem _ (List.mem_cons_of_mem _ (List.mem_cons_of_mem _ (List.mem_cons_of_mem _ (List.mem_cons_of_mem _ (List.mem_cons_of_mem _ (List.mem_cons_self ..)))))))
  simp only [Bool.and_eq_true, Bool.or_eq_true, bne_iff_ne, ne_eq, beq_iff_eq, Bool.not_eq_true'] at k1 k2 k3 k4 k5 k6 k7
  exact ⟨k1, by rcases k2 with (k2 | k2) | k2 <;> simp [k2], k3.1, k3.2, k4.1, k4.2, k5.1, k5.2, k6, k7⟩
theorem emp {t : ByteArray} (h : t.toList.isEmpty = true) : t = eB := by
  rw [Lib.toList_data] at h
  apply ByteArray.ext
  apply Array.toList_inj.1
  show t.data.toList = []
  simpa using h
theorem upB_of {g n : Int} (h : L10.upB g n = true) : 1 ≤ n ∧ n ≤ g := by
  unfold L10.upB at h
  simpa using h
theorem deE_of {d : L9.Df} (h : L10.deE d = 0) : L2.vd d.nm = true ∧ (1 ≤ d.key ∧ d.key ≤ 64) ∧ (1 ≤ d.val ∧ d.val ≤ 256) ∧ 1 ≤ d.ent ∧ d.ent ≤ 1024 := by
  unfold L10.deE at h
  split at h
  · split at h
    · rename_i h1 h2
      simp only [Bool.and_eq_true] at h2
      exact ⟨h1, upB_of h2.1.1, upB_of h2.1.2, upB_of h2.2⟩
    · cases h
  · cases h
theorem fe_zero {l : List Int} (h : (L10.fe l).2 = 0) : ∀ e ∈ l, e = 0 := L10.feF_none l 0 h
theorem frB_ok : ∀ (l : List (Bool × Nat × Int)), (L10.frB l).2.2 = 0 → ∀ c ∈ l, c.2.2 = 0
  | [], _ => by simp
  | c :: r, h => by
    rw [L10.frB] at h
    by_cases h0 : c.2.2 = 0
    · rw [if_pos h0] at h
      intro x hx
      rcases List.mem_cons.1 hx with rfl | hx
      · exact h0
      · exact frB_ok r h x hx
    · rw [if_neg h0] at h; exact absurd h h0
theorem brV_parts {p : Pg} (h : (L10.brV p).2.2 = 0) : (∀ d ∈ p.maps, L10.deE d = 0) ∧ (∀ s ∈ p.stmts, L10.stE s = 0) := by
  have k := frB_ok _ h
  refine ⟨fun d hd => ?_, fun s hs => ?_⟩
  · have := k (true, L10.fe (p.maps.map L10.deE)) (by simp [L10.cnd])
    exact fe_zero this _ (List.mem_map.2 ⟨d, hd, rfl⟩)
  · have := k (false, L10.fe (p.stmts.map L10.stE)) (by simp [L10.cnd])
    exact fe_zero this _ (List.mem_map.2 ⟨s, hs, rfl⟩)
end Go.Proofs.YtbneaihpnfkcdaaGreatDoor.L11
end

section
namespace Go.Proofs.YtbneaihpnfkcdaaGreatDoor.L11
open Go.RowKit
open L10 (Stm Pg)
attribute [local go_sem] Oper.semAt_some

theorem rng_of {f imm : Int} (h : L4.rng f imm = true) : -9223372036854775808 ≤ imm ∧ imm ≤ 9223372036854775807 := by
  unfold L4.rng at h
  split at h
  · simp only [Bool.and_eq_true, decide_eq_true_eq] at h; omega
  split at h
  · simp only [Bool.and_eq_true, decide_eq_true_eq] at h; omega
  split at h
  · have e : (imm + 9223372036854775808) % 18446744073709551616 - 9223372036854775808 = imm := by simpa [L1.sx] using h
    omega
  · have e : (imm + 2147483648) % 4294967296 - 2147483648 = imm := by simpa [L1.sx] using h
    omega
theorem vd_32 {t : ByteArray} (h : L2.vd t = true) : t.size ≤ 32 := by
  unfold L2.vd at h
  simp only [Bool.and_eq_true, decide_eq_true_eq] at h
  exact h.1.1.1.2
structure SOk (s : Stm) : Prop where
  rng : Rng s.x.off s.x.imm
  tg : s.tg.size ≤ 1000
  mp : s.mp.size ≤ 1000
  lb : ∀ t ∈ s.labs, t.size ≤ 32
theorem stE_ok (s : Stm) (h : L10.stE s = 0) : SOk s := by
  obtain ⟨labs, ⟨op, reg, dst, src, off, imm⟩, tg, mp⟩ := s
  unfold L10.stE at h
  dsimp only at h
  split at h
  · rename_i hl
    split at h
    · rename_i hc
      split at h
      · cases h
      · rename_i hb
        split at h
        · cases h
        · rename_i hn
          have hb' : L10.badF ⟨labs, ⟨op, reg, dst, src, off, imm⟩, tg, mp⟩ = false := by simpa using hb
          have hn' : L10.badN ⟨labs, ⟨op, reg, dst, src, off, imm⟩, tg, mp⟩ = false := by simpa using hn
          simp only [L10.badF, L10.badN, L10.jmI, L10.rfI, L10.fmI, Bool.or_eq_false_iff] at hb' hn'
          obtain ⟨⟨⟨b1, b2⟩, b3⟩, b4⟩ := hb'
          obtain ⟨n1, n2⟩ := hn'
          obtain ⟨_, _, _, _, _, _, _, _, c9, c10⟩ := chk_all hc
          have e16 : (off + 32768) % 65536 - 32768 = off := c9
          obtain ⟨i0, i1⟩ := rng_of c10
          refine ⟨⟨by show (-9223372036854775808 : Int) ≤ off; omega, by show off ≤ 9223372036854775807; omega, i0, i1⟩, ?_, ?_, fun t ht => vd_32 (List.all_eq_true.1 hl t ht)⟩
          · show tg.size ≤ 1000
            cases hj : L4.jmpF (L3.frm (L3.ix op))
            · rw [hj] at b3
              rw [show tg = L9.eB from emp (by simpa using b3)]; decide
            · rw [hj] at n1
              have := vd_32 (t := tg) (by simpa using n1)
              omega
          · show mp.size ≤ 1000
            cases hj : (L3.frm (L3.ix op) == 11)
            · rw [hj] at b4
              rw [show mp = L9.eB from emp (by simpa using b4)]; decide
            · rw [hj] at n2
              have := vd_32 (t := mp) (by simpa using n2)
              omega
    · rename_i hc
      exact absurd h hc
  · cases h
structure DOk (d : L9.Df) : Prop where
  rng : DRng d.key d.val d.ent
  nm : d.nm.size ≤ 1000
theorem deE_ok (d : L9.Df) (h : L10.deE d = 0) : DOk d := by
  obtain ⟨hv, ⟨k0, k1⟩, ⟨v0, v1⟩, e0, e1⟩ := deE_of h
  have := vd_32 hv
  exact ⟨⟨by omega, by omega, by omega, by omega, by omega, by omega⟩, by omega⟩
theorem map_take {α β : Type} (f : α → β) (l : List α) (j : Nat) (h : j < l.length) : (l.take (j + 1)).map f = (l.take j).map f ++ [f l[j]] := by
  rw [List.take_succ_eq_append_getElem h, List.map_append]; rfl
theorem flat_take {α β : Type} (f : α → List β) (l : List α) (j : Nat) (h : j < l.length) : (l.take (j + 1)).flatMap f = (l.take j).flatMap f ++ f l[j] := by
  rw [List.take_succ_eq_append_getElem h, List.flatMap_append]; simp
theorem own_snoc {w : World} {B n : Nat} {v : Value} {l : List ByteArray} {x : ByteArray} (h : w.ownsRow B sE 1 v (n + 1) (L8.stC l ++ [.string x])) : OwT w B v (n + 1) (l ++ [x]) := by
  show w.ownsRow B sE 1 v (n + 1) (L8.stC (l ++ [x]))
  rw [L8.stC_snoc]
  exact h
structure Room (p : Pg) : Prop where
  maps : p.maps.length ≤ 100000
  stmts : p.stmts.length ≤ 100000
  labs : ∀ s ∈ p.stmts, s.labs.length ≤ 100000
  len : (lnT p).length ≤ 100000000
  size : (pgT p).size ≤ 100000000
abbrev pgA (vm vs : Value) : Obj := .cells #[vm, vs] 30
set_option maxHeartbeats 2000000 in
set_option maxRecDepth 100000 in
theorem program_no (vm vs : Value) (p : Pg) (w : World) (hp : L10.PgAt w vm vs p) (hf : L10.Fits p) (hT : Tb w) (h : (L10.brV p).2.2 ≠ 0) :
    Calls Tryz.prog 11 #[.agg #[vm, vs]] w (fun e w' => e = .returned (.string L9.eB) ∧ Below w.heap.size w w') := by
  obtain ⟨b, k, er, hbr⟩ : ∃ b k er, L10.brV p = (b, k, er) := ⟨_, _, _, rfl⟩
  rw [hbr] at h
  have h' : ¬ er = 0 := h
  obtain ⟨n1, hn1⟩ : ∃ n, p.maps.length = n := ⟨_, rfl⟩
  obtain ⟨n2, hn2⟩ : ∃ n, p.stmts.length = n := ⟨_, rfl⟩
  have hB0 := L8.bnew w (pgA vm vs)
  have HC := Lib.hid (L10.check_at vm vs p _ (hp.below hB0) hf (hT.below hB0).two b k er hbr)
  obtain ⟨a1, c1, rfl, -⟩ := L10.df_form hn1 hp.1
  obtain ⟨a2, c2, rfl, -⟩ := L10.sm_form hn2 hp.2
  have HB := Lib.hid hB0
  clear hp hf hT h hbr hn1 hn2 hB0
  go_enter Tryz.func11, Tryz.ntmps11
  go_wp2_with (go_at_call 21; ((with_reducible refine (HC.out).mono ?_); rintro e w1 ⟨rfl, b1⟩))
  go_ret
  exact ⟨rfl, L2.bch HB.out b1⟩
set_option maxHeartbeats 16000000 in
set_option maxRecDepth 100000 in
theorem program_ok (vm vs : Value) (p : Pg) (w : World) (hp : L10.PgAt w vm vs p) (hf : L10.Fits p) (hT : Tb w) (hr : Room p) (h : (L10.brV p).2.2 = 0) :
    Calls Tryz.prog 11 #[.agg #[vm, vs]] w (fun e w' => e = .returned (.string (pgT p)) ∧ Below w.heap.size w w') := by
  obtain ⟨i0, hi, hz0, hz1, hz2⟩ := info_parts L8.Tryz.info9
  obtain ⟨b, k, er, hbr⟩ : ∃ b k er, L10.brV p = (b, k, er) := ⟨_, _, _, rfl⟩
  obtain ⟨h1, h2⟩ := brV_parts h
  rw [hbr] at h
  have h' : er = 0 := h
  subst h'
  obtain ⟨n1, hn1⟩ : ∃ n, p.maps.length = n := ⟨_, rfl⟩
  obtain ⟨n2, hn2⟩ : ∃ n, p.stmts.length = n := ⟨_, rfl⟩
  have hB0 := L8.bnew w (pgA vm vs)
  have hp0 := hp.below hB0
  have hT0 := hT.below hB0
  have HC := Lib.hid (L10.check_at vm vs p _ hp0 hf hT0.two b k 0 hbr)
  obtain ⟨a1, c1, rfl, hc1⟩ := L10.df_form4 hn1 hp0.1
  obtain ⟨a2, c2, rfl, hc2⟩ := L10.sm_form hn2 hp0.2
  have hK0 := heap_alloc_last w (pgA (.slice a1 n1 c1) (.slice a2 n2 c2))
  have hm1 := hr.maps
  have hm2 := hr.stmts
  rw [hn1] at hm1
  rw [hn2] at hm2
  have HN1 := Lib.hid hn1
  have HN2 := Lib.hid hn2
  have HC1 := Lib.hid hc1
  have HC2 := Lib.hid hc2
  have HR := Lib.hid hr
  have HD := Lib.hid (fun (d : L9.Df) (hd : d ∈ p.maps) (W : World) (hW : Tb W) => declaration_at d.nm d.key d.val d.ent W hW (deE_ok d (h1 d hd)).rng (deE_ok d (h1 d hd)).nm)
  have HS := Lib.hid (fun (s : Stm) (hs : s ∈ p.stmts) => stE_ok s (h2 s hs))
  have HB0 := Lib.hid hB0
  have HT0 := Lib.hid hT0
  clear hp hf hT h hbr hn1 hn2 hp0 hc1 hc2 hr h1 h2 hT0 hB0
  go_enter Tryz.func11, Tryz.ntmps11
  go_upto_region 1 with (fail)
  generalize w.alloc (pgA (.slice a1 n1 c1) (.slice a2 n2 c2)) = W0 at hK0 HC HC1 HC2 HB0 HT0 ⊢
  generalize hgk : w.heap.size = k1 at hK0 ⊢
  have hsz0 := HB0.out.size
  obtain ⟨x0, x1⟩ := L10.cells2p hK0
  go_upto_region 5 with (go_at_call 21; ((with_reducible refine (HC.out).mono ?_); rintro e w1 ⟨rfl, b1⟩; have hK1 := L8.row_up hK0 b1; obtain ⟨y0, y1⟩ := L10.cells2p hK1))
  have HK0 := Lib.hid hK0
  have HB1 := Lib.hid b1
  have HO0 : Hid (OwT w1 W0.heap.size (.slice none 0 0) 0 ((p.maps.take 0).map deT)) := Lib.hid (World.ownsRow_nil _ _ _ _)
  clear x0 x1 hK0 hK1 b1 HC
  go_wp2_with (fail)
  clear y0 y1
  go_loopw [5, 22] (fun us i wr => ∃ (j : Nat) (u : Value), u = us ∧ i = .int .i64 (j : Int) ∧ j ≤ n1 ∧ Hid (OwT wr W0.heap.size u j ((p.maps.take j).map deT)) ∧ Hid (Below W0.heap.size W0 wr)) (fun _ i _ => n1 - (intOf i).toNat)
  case atStart => exact ⟨0, _, rfl, rfl, Nat.zero_le _, HO0, HB1⟩
  case round =>
    clear HO0 HB1
    obtain ⟨j, u, rfl, rfl, hj, hO, hB⟩ := hrel
    have hz := hB.out.size
    by_cases hlt : j < n1
    · have hjl : j < p.maps.length := by rw [HN1.out]; exact hlt
      obtain ⟨b, o, rfl, hbl, hcc⟩ := HC1.out (by omega)
      obtain ⟨q0, q1, q2, q3⟩ := hcc j hjl
      have x0 := (hB.out.cell (by exact hbl)).trans q0
      have x1 := (hB.out.cell (by exact hbl)).trans q1
      have x2 := (hB.out.cell (by exact hbl)).trans q2
      have x3 := (hB.out.cell (by exact hbl)).trans q3
      have hlb := World.block_lt_of_cell? _ _ x0
      simp only at hlb
      have hmt := map_take deT p.maps j hjl
      have hDj := HD.out p.maps[j] (List.getElem_mem hjl)
      obtain ⟨d, hd⟩ : ∃ d, p.maps[j] = d := ⟨_, rfl⟩
      rw [hd] at x0 x1 x2 x3 hmt hDj
      have HDJ := Lib.hid hDj
      have HM := Lib.hid hmt
      have hbA := L8.bnew wr (.cells #[.string d.nm, .int .i64 d.key, .int .i64 d.val, .int .i64 d.ent] 23)
      have HTA := Lib.hid (HT0.out.below (L2.bch hB.out hbA))
      have HOA := Lib.hid (L8.own_below hO.out hbA)
      have HBA := Lib.hid (L2.bch hB.out hbA)
      have HOB := Lib.hid (L8.own_base hO.out)
      clear q0 q1 q2 q3 hcc hjl hmt hDj hd hbA hO
      go_wp2_with (first
        | (go_at_call 22; ((with_reducible refine (HDJ.out _ HTA.out).mono ?_); rintro e w3 ⟨rfl, b3⟩; have o3 := L8.own_below HOA.out b3; have B3 := L2.bch HBA.out b3; have z3 := B3.size))
        | (at_builtin; refine wpList_append_own _ rfl _ _ 44 rfl W0.heap.size 9 i0 (.string ⟨#[]⟩) 1 16 Tryz.underlying44 hi hz0 hz1 hz2 rfl (by decide) _ j _ rfl (o3.alloc _) ⟨w3.heap.size, 0, none⟩ 1 1 [.string (deT d)] rfl rfl (World.news_of_block (cs := #[.string (deT d)]) (t := 9) (fr := (0, 0)) (heap_alloc_last w3 _)) (by simp [Value.oneCell']) (by unfold maxLen; omega) (by omega) (by simp; omega) ?_; intro v5 w5 o5 g5 _; have B5 := (B3.alloc z3 (.cells #[.string (deT d)] 9)).grown g5 (by simp; omega) HOB.out))
      go_roundw
      case rel => exact ⟨j + 1, _, rfl, by go_num, by omega, Lib.hid (by rw [HM.out]; exact own_snoc o5), Lib.hid B5⟩
      case measure => simp [intOf]; omega
    · obtain rfl : j = n1 := by omega
      have hO1 := hO.out
      rw [List.take_of_length_le (by rw [HN1.out]; exact Nat.le_refl _)] at hO1
      have HO1 : Hid (OwT wr W0.heap.size u j (p.maps.map deT ++ (p.stmts.take 0).flatMap slT)) := Lib.hid (by rw [List.take_zero, List.flatMap_nil, List.append_nil]; exact hO1)
      have HB1 := hB
      obtain ⟨x0, x1⟩ := L10.cells2p (L8.row_up HK0.out hB.out)
      clear hO hO1 hB HD HC1 hlt hz
      go_wp2_with (fail)
      clear x0 x1
      go_loopw [5, 35] (fun us i wr => ∃ (k : Nat) (u : Value) (m : Nat), u = us ∧ i = .int .i64 (k : Int) ∧ k ≤ n2 ∧ m ≤ j + k * 100001 ∧ Hid (OwT wr W0.heap.size u m (p.maps.map deT ++ (p.stmts.take k).flatMap slT)) ∧ Hid (Below W0.heap.size W0 wr)) (fun _ i _ => n2 - (intOf i).toNat)
      case atStart => exact ⟨0, _, j, rfl, rfl, Nat.zero_le _, by omega, HO1, HB1⟩
      case round =>
        clear HO1 HB1
        obtain ⟨k, u, m, rfl, rfl, hk, hmk, hO, hB⟩ := hrel
        have hz := hB.out.size
        by_cases hlt : k < n2
        · have hkl : k < p.stmts.length := by rw [HN2.out]; exact hlt
          obtain ⟨b, o, rfl, hbl, hcc⟩ := HC2.out (by omega)
          obtain ⟨lv, hst, hx⟩ := hcc k hkl
          have x0 := (hB.out.cell (by exact hbl)).trans (hx 0 _ rfl)
          have x1 := (hB.out.cell (by exact hbl)).trans (hx 1 _ rfl)
          have x2 := (hB.out.cell (by exact hbl)).trans (hx 2 _ rfl)
          have x3 := (hB.out.cell (by exact hbl)).trans (hx 3 _ rfl)
          have x4 := (hB.out.cell (by exact hbl)).trans (hx 4 _ rfl)
          have x5 := (hB.out.cell (by exact hbl)).trans (hx 5 _ rfl)
          have x6 := (hB.out.cell (by exact hbl)).trans (hx 6 _ rfl)
          have x7 := (hB.out.cell (by exact hbl)).trans (hx 7 _ rfl)
          have x8 := (hB.out.cell (by exact hbl)).trans (hx 8 _ rfl)
          rw [Nat.add_zero] at x0
          have hlb := World.block_lt_of_cell? _ _ x0
          simp only at hlb
          have hmt := flat_take slT p.stmts k hkl
          have hSk := HS.out p.stmts[k] (List.getElem_mem hkl)
          have hll := HR.out.labs p.stmts[k] (List.getElem_mem hkl)
          obtain ⟨s, hs⟩ : ∃ s, p.stmts[k] = s := ⟨_, rfl⟩
          rw [hs] at x1 x2 x3 x4 x5 x6 x7 x8 hmt hSk hst hll
          obtain ⟨ln, hln⟩ : ∃ ln, s.labs.length = ln := ⟨_, rfl⟩
          obtain ⟨la, lc, rfl, hla⟩ := L10.st_form hln hst
          rw [hln] at hll
          obtain ⟨L, hL⟩ : ∃ L, p.maps.map deT ++ (p.stmts.take k).flatMap slT = L := ⟨_, rfl⟩
          have hmt2 : p.maps.map deT ++ (p.stmts.take (k + 1)).flatMap slT = (L ++ s.labs.map (· ++ L9.tCol)) ++ [smT s] := by
            rw [hmt, ← List.append_assoc, hL]
            unfold slT
            rw [← List.append_assoc]
          rw [hL] at hO
          have HM := Lib.hid hmt2
          have HLA := Lib.hid hla
          have HLN := Lib.hid hln
          have HLB := Lib.hid hSk.lb
          have HIN := Lib.hid (fun W hW => instruction_at (.slice la ln lc) s.x.op s.x.reg s.x.dst s.x.src s.x.off s.x.imm s.tg s.mp W hW ⟨la, ln, lc, rfl⟩ hSk.rng hSk.tg hSk.mp)
          have hS := heap_alloc_last wr (.cells (stA (.slice la ln lc) s.x.op s.x.reg s.x.dst s.x.src s.x.off s.x.imm s.tg s.mp) 46)
          have hbA := L8.bnew wr (.cells (stA (.slice la ln lc) s.x.op s.x.reg s.x.dst s.x.src s.x.off s.x.imm s.tg s.mp) 46)
          have HBA := Lib.hid (L2.bch hB.out hbA)
          have HOA : Hid (OwT (wr.alloc (.cells (stA (.slice la ln lc) s.x.op s.x.reg s.x.dst s.x.src s.x.off s.x.imm s.tg s.mp) 46)) W0.heap.size u m (L ++ (s.labs.take 0).map (· ++ L9.tCol))) := Lib.hid (by rw [List.take_zero, List.map_nil, List.append_nil]; exact L8.own_below hO.out hbA)
          clear hmt hmt2 hSk hs hL hx hst hcc hkl hla hln hO hB hbA
          go_upto_region 13 with (fail)
          generalize wr.alloc (.cells (stA (.slice la ln lc) s.x.op s.x.reg s.x.dst s.x.src s.x.off s.x.imm s.tg s.mp) 46) = WA at hS HBA HOA ⊢
          generalize wr.heap.size = g at hS ⊢
          clear x0 x1 x2 x3 x4 x5 x6 x7 x8 hlb
          obtain ⟨x0, x1, x2, x3, x4, x5, x6, x7, x8⟩ := cl9 hS
          have HSR := Lib.hid hS
          clear hS
          go_wp2_with (fail)
          clear x0 x1 x2 x3 x4 x5 x6 x7 x8
          go_loopw [5, 42] (fun us ix wi => ∃ (i : Nat) (u : Value) (q : Nat), u = us ∧ ix = .int .i64 (i : Int) ∧ i ≤ ln ∧ q ≤ m + i ∧ Hid (OwT wi W0.heap.size u q (L ++ (s.labs.take i).map (· ++ L9.tCol))) ∧ Hid (wi.heap[g]? = some (.cells (stA (.slice la ln lc) s.x.op s.x.reg s.x.dst s.x.src s.x.off s.x.imm s.tg s.mp) 46)) ∧ Hid (Below W0.heap.size W0 wi)) (fun _ ix _ => ln - (intOf ix).toNat)
          case atStart => exact ⟨0, _, m, rfl, rfl, Nat.zero_le _, by omega, HOA, HSR, HBA⟩
          case round =>
            clear HOA HSR HBA
            obtain ⟨i, u, q, rfl, rfl, hii, hqi, hO, hS, hB⟩ := hrel
            have hz := hB.out.size
            have hown := hO.out
            have HNE := Lib.hid (Lib.ownBlock_ne hown hS.out (by decide))
            have HOB := Lib.hid (L8.own_base hown)
            by_cases hlt3 : i < ln
            · have hil : i < s.labs.length := by rw [HLN.out]; exact hlt3
              obtain ⟨bb, oo, rfl, hbb, hcc⟩ := HLA.out (by omega)
              have z0 := (hB.out.cell (by exact hbb)).trans (hcc i hil)
              have hlb := World.block_lt_of_cell? _ _ z0
              simp only at hlb
              have hmt := map_take (· ++ L9.tCol) s.labs i hil
              have hsT := HLB.out s.labs[i] (List.getElem_mem hil)
              obtain ⟨T, hT⟩ : ∃ T, s.labs[i] = T := ⟨_, rfl⟩
              rw [hT] at z0 hmt hsT
              have HMT := Lib.hid hmt
              have e1 : L9.tCol.size = 1 := rfl
              have s1 : (T ++ (⟨#[58]⟩ : ByteArray)).size ≤ 1000 := by show (T ++ L9.tCol).size ≤ 1000; rw [ByteArray.size_append, e1]; omega
              have HS2 := Lib.hid (fun (v5 : Value) (w5 : World) (g5 : (wr.alloc (.cells #[.string (T ++ (⟨#[58]⟩ : ByteArray))] 9)).grownBy w5 u.ownBlock) => row_own (L8.row_up hS.out (L8.bnew wr (.cells #[.string (T ++ (⟨#[58]⟩ : ByteArray))] 9))) g5 HNE.out)
              have HBO := Lib.hid hB.out
              clear hmt hT hcc hil hO hS hB
              go_wp2_with (first
                | (at_builtin; refine wpList_append_own _ rfl _ _ 44 rfl W0.heap.size 9 i0 (.string ⟨#[]⟩) 1 16 Tryz.underlying44 hi hz0 hz1 hz2 rfl (by decide) _ q _ rfl (hown.alloc _) ⟨wr.heap.size, 0, none⟩ 1 1 [.string (T ++ (⟨#[58]⟩ : ByteArray))] rfl rfl (World.news_of_block (cs := #[.string (T ++ (⟨#[58]⟩ : ByteArray))]) (t := 9) (fr := (0, 0)) (heap_alloc_last wr _)) (by simp [Value.oneCell']) (by unfold maxLen; omega) (by omega) (by simp; omega) ?_; intro v5 w5 o5 g5 _; have B5 := (HBO.out.alloc hz (.cells #[.string (T ++ (⟨#[58]⟩ : ByteArray))] 9)).grown g5 (by simp; omega) HOB.out; have r5 := HS2.out v5 w5 g5))
              go_roundw
              case rel => exact ⟨i + 1, _, q + 1, rfl, by go_num, by omega, by omega, Lib.hid (by rw [HMT.out, ← List.append_assoc]; exact own_snoc o5), Lib.hid r5, Lib.hid B5⟩
              case measure => simp [intOf]; omega
            · obtain rfl : i = ln := by omega
              obtain ⟨x0, x1, x2, x3, x4, x5, x6, x7, x8⟩ := cl9 hS.out
              have HTA := Lib.hid (HT0.out.below hB.out)
              have HOA := Lib.hid hown
              have HBA := Lib.hid hB.out
              have hlnl : (s.labs.take i) = s.labs := List.take_of_length_le (by rw [HLN.out]; exact Nat.le_refl _)
              rw [hlnl] at HOA
              clear hown hO hS hB hlnl HNE
              go_wp2_with (first
                | (go_at_call 26; ((with_reducible refine (HIN.out _ HTA.out).mono ?_); rintro e w3 ⟨rfl, b3⟩; have o3 := L8.own_below HOA.out b3; have B3 := L2.bch HBA.out b3; have z3 := B3.size))
                | (at_builtin; refine wpList_append_own _ rfl _ _ 44 rfl W0.heap.size 9 i0 (.string ⟨#[]⟩) 1 16 Tryz.underlying44 hi hz0 hz1 hz2 rfl (by decide) _ q _ rfl (o3.alloc _) ⟨w3.heap.size, 0, none⟩ 1 1 [.string (inT ⟨s.x.op, s.x.reg, s.x.dst, s.x.src, s.x.off, s.x.imm⟩ s.tg s.mp)] rfl rfl (World.news_of_block (cs := #[.string (inT ⟨s.x.op, s.x.reg, s.x.dst, s.x.src, s.x.off, s.x.imm⟩ s.tg s.mp)]) (t := 9) (fr := (0, 0)) (heap_alloc_last w3 _)) (by simp [Value.oneCell']) (by unfold maxLen; omega) (by omega) (by simp; omega) ?_; intro v5 w5 o5 g5 _; have B5 := (B3.alloc z3 (.cells #[.string (inT ⟨s.x.op, s.x.reg, s.x.dst, s.x.src, s.x.off, s.x.imm⟩ s.tg s.mp)] 9)).grown g5 (by simp; omega) HOB.out))
              go_roundw
              case rel => exact ⟨k + 1, _, q + 1, rfl, by go_num, by omega, by omega, Lib.hid (by rw [HM.out]; exact own_snoc o5), Lib.hid B5⟩
              case measure => simp [intOf]; omega
        · obtain rfl : k = n2 := by omega
          have hO1 := hO.out
          rw [List.take_of_length_le (by rw [HN2.out]; exact Nat.le_refl _)] at hO1
          have hO2 : OwT wr W0.heap.size u m (lnT p) := hO1
          have hml : m = (lnT p).length := by
            have := hO2.1
            simp only [L8.stC, List.length_map] at this
            omega
          subst hml
          have HL := Lib.hid (lines_at u (lnT p) wr (L8.own_st hO2) HR.out.len HR.out.size)
          have HBF := Lib.hid (L2.bch HB0.out hB.out)
          clear hO hO1 hO2 hB
          go_wp2_with (go_at_call 27; ((with_reducible refine (HL.out).mono ?_); rintro e w3 ⟨rfl, b3⟩))
          go_ret
          exact ⟨rfl, L2.bch HBF.out b3⟩
end Go.Proofs.YtbneaihpnfkcdaaGreatDoor.L11
end

section
namespace Go.Proofs.YtbneaihpnfkcdaaGreatDoor.L11
open Go.RowKit
open L10 (Stm Pg)
attribute [local go_sem] Oper.semAt_some

theorem dec1 (n : Nat) (h : n < 10) : Lib.decDigits n = [UInt8.ofNat (48 + n)] := by rw [Lib.decDigits, dif_pos h]
theorem nB_1 : nB 1 = ⟨#[49]⟩ := by
  unfold nB
  rw [Lib.itoa, if_neg (by decide), show (1 : Int).toNat = 1 from rfl, dec1 1 (by decide)]
  rfl
theorem nB_2 : nB 2 = ⟨#[50]⟩ := by
  unfold nB
  rw [Lib.itoa, if_neg (by decide), show (2 : Int).toNat = 2 from rfl, dec1 2 (by decide)]
  rfl
theorem nB_3 : nB 3 = ⟨#[51]⟩ := by
  unfold nB
  rw [Lib.itoa, if_neg (by decide), show (3 : Int).toNat = 3 from rfl, dec1 3 (by decide)]
  rfl
theorem nB_4 : nB 4 = ⟨#[52]⟩ := by
  unfold nB
  rw [Lib.itoa, if_neg (by decide), show (4 : Int).toNat = 4 from rfl, dec1 4 (by decide)]
  rfl
theorem nB_m7 : nB (-7) = ⟨#[45, 55]⟩ := by
  unfold nB
  rw [Lib.itoa, if_pos (by decide), show (-7 : Int).natAbs = 7 from rfl, dec1 7 (by decide)]
  rfl
theorem nB_m8 : nB (-8) = ⟨#[45, 56]⟩ := by
  unfold nB
  rw [Lib.itoa, if_pos (by decide), show (-8 : Int).natAbs = 8 from rfl, dec1 8 (by decide)]
  rfl
theorem sm_one (w : World) (lv : Value) (s : Stm) (h : L8.StAt w lv s.labs) : L10.SmAt (w.alloc (.cells (stA lv s.x.op s.x.reg s.x.dst s.x.src s.x.off s.x.imm s.tg s.mp) 46)) (.slice (some ⟨w.heap.size, 0, none⟩) 1 1) [s] := by
  refine .inl ⟨w.heap.size, 0, 1, rfl, by simp, fun j hj => ?_⟩
  obtain rfl : j = 0 := by simpa using hj
  refine ⟨lv, h.below (L8.bnew w _), fun i u hu => ?_⟩
  have hh := heap_alloc_last w (.cells (stA lv s.x.op s.x.reg s.x.dst s.x.src s.x.off s.x.imm s.tg s.mp) 46)
  unfold World.cell?
  rw [hh]
  have hi : i < 9 := by
    have := (List.getElem?_eq_some_iff.1 hu).1
    simpa using this
  rcases (show i = 0 ∨ i = 1 ∨ i = 2 ∨ i = 3 ∨ i = 4 ∨ i = 5 ∨ i = 6 ∨ i = 7 ∨ i = 8 by omega) with rfl | rfl | rfl | rfl | rfl | rfl | rfl | rfl | rfl <;> exact hu
theorem fits_one (s : Stm) (h1 : s.labs.length ≤ 100000) (h2 : ∀ t ∈ s.labs, t.size ≤ maxLen) (h3 : s.tg.size ≤ maxLen) (h4 : s.mp.size ≤ maxLen) : L10.Fits ⟨[], [s]⟩ where
  maps := by simp
  stmts := by simp
  labs := by simpa [L10.alL] using h1
  nm := fun x hx => by cases hx
  lb := fun x hx => by
    obtain rfl : x = s := by simpa using hx
    exact h2
  tg := fun x hx => by
    obtain rfl : x = s := by simpa using hx
    exact ⟨h3, h4⟩
def sA : Stm := ⟨[], ⟨71, false, 1, 10, -8, 0⟩, ⟨#[]⟩, ⟨#[]⟩⟩
theorem brA : L10.brV ⟨[], [sA]⟩ = (false, 0, 15) := by kernel_rfl
theorem inA_txt : inT ⟨71, false, 1, 10, -8, 0⟩ ⟨#[]⟩ ⟨#[]⟩ = ⟨#[108, 100, 120, 119, 32, 114, 49, 44, 32, 91, 114, 49, 48, 45, 56, 93]⟩ := by
  have h : meT 10 (-8) = ⟨#[91, 114, 49, 48, 45, 56, 93]⟩ := by
    have e : oB (-8) = ⟨#[45, 56]⟩ := by unfold oB; rw [if_neg (by decide), if_neg (by decide), nB_m8]
    show meB 10 (-8) = _
    unfold meB
    rw [e]
    decide +kernel
  have e : inT ⟨71, false, 1, 10, -8, 0⟩ ⟨#[]⟩ ⟨#[]⟩ = opF (L3.nm 71) 0 [L2.nmS 1, meT 10 (-8)] := rfl
  rw [e, h]
  decide +kernel
set_option maxHeartbeats 2000000 in
set_option maxRecDepth 100000 in
theorem code_al (w : World) (hT : Tb w) : Calls Tryz.prog 18 #[.agg (stA (.slice none 0 0) 71 false 1 10 (-8) 0 ⟨#[]⟩ ⟨#[]⟩)] w (FkP w ⟨#[108, 100, 120, 119, 32, 114, 49, 44, 32, 91, 114, 49, 48, 45, 56, 93]⟩) := by
  have hD0 := heap_alloc_last w (.cells (stA (.slice none 0 0) 71 false 1 10 (-8) 0 ⟨#[]⟩ ⟨#[]⟩) 46)
  have hB0 := L8.bnew w (.cells (stA (.slice none 0 0) 71 false 1 10 (-8) 0 ⟨#[]⟩ ⟨#[]⟩) 46)
  have HCK := Lib.hid (fun W (h : Tb W) => show Calls Tryz.prog 21 #[.agg #[.slice none 0 0, .slice (some ⟨W.heap.size, 0, none⟩) 1 1]] (W.alloc (.cells (stA (.slice none 0 0) 71 false 1 10 (-8) 0 ⟨#[]⟩ ⟨#[]⟩) 46)) _ from L10.check_at (.slice none 0 0) (.slice (some ⟨W.heap.size, 0, none⟩) 1 1) _ _ ⟨.inr ⟨rfl, none, 0, rfl⟩, sm_one W (.slice none 0 0) sA (.inr ⟨rfl, none, 0, rfl⟩)⟩ (fits_one sA (by decide) (fun t ht => by cases ht) (by decide) (by decide)) (h.below (L8.bnew W _)).two _ _ _ brA)
  have HIN := Lib.hid (fun W hW => instruction_at (.slice none 0 0) 71 false 1 10 (-8) 0 ⟨#[]⟩ ⟨#[]⟩ W hW ⟨none, 0, 0, rfl⟩ ⟨by decide, by decide, by decide, by decide⟩ (by decide) (by decide))
  rw [inA_txt] at HIN
  have HT := Lib.hid hT
  clear hT
  have hT0 := HT.out.below hB0
  go_enter Tryz.func18, Tryz.ntmps18
  go_upto_region 1 with (fail)
  generalize w.alloc (.cells (stA (.slice none 0 0) 71 false 1 10 (-8) 0 ⟨#[]⟩ ⟨#[]⟩) 46) = W0 at hD0 hB0 hT0 ⊢
  generalize w.heap.size = ks at hD0 ⊢
  obtain ⟨x0, x1, x2, x3, x4, x5, x6, x7, x8⟩ := cl9 hD0
  have hB1 := L8.bnew W0 (.cells (stA (.slice none 0 0) 71 false 1 10 (-8) 0 ⟨#[]⟩ ⟨#[]⟩) 46)
  have HC := Lib.hid (HCK.out W0 hT0)
  have HT1 := Lib.hid (hT0.below hB1)
  have HB := Lib.hid (L2.bch hB0 hB1)
  have HD1 := Lib.hid (L8.row_up hD0 hB1)
  clear hB0 hB1 hD0 hT0 HCK
  go_wp2_with (first
    | (go_at_call 21; ((with_reducible refine (HC.out).mono ?_); rintro e w1 ⟨rfl, b1⟩; have HB2 := Lib.hid (L2.bch HB.out b1); have HT2 := Lib.hid (HT1.out.below b1); obtain ⟨y0, y1, y2, y3, y4, y5, y6, y7, y8⟩ := cl9 (L8.row_up HD1.out b1)))
    | (go_at_call 26; ((with_reducible refine (HIN.out _ HT2.out).mono ?_); rintro e w2 ⟨rfl, b2⟩)))
  go_ret
  exact ⟨rfl, L2.bch HB2.out b2⟩
def sX : Stm := ⟨[⟨#[97]⟩], ⟨68, false, 0, 0, 0, 0⟩, ⟨#[]⟩, ⟨#[]⟩⟩
theorem brX : L10.brV ⟨[], [sX]⟩ = (false, 0, 0) := by kernel_rfl
theorem txX : pgT ⟨[], [sX]⟩ = ⟨#[97, 58, 10, 101, 120, 105, 116, 10]⟩ := by decide +kernel
theorem deM : deR ⟨⟨#[109]⟩, 1, 2, 3⟩ = ⟨#[109, 97, 112, 32, 109, 32, 49, 32, 50, 32, 51]⟩ := by
  have h : deR ⟨⟨#[109]⟩, 1, 2, 3⟩ = deT ⟨⟨#[109]⟩, 1, 2, 3⟩ := if_pos (by kernel_rfl)
  rw [h]
  unfold deT
  rw [nB_1, nB_2, nB_3]
  decide +kernel
theorem me24 : meT 2 4 = ⟨#[91, 114, 50, 43, 52, 93]⟩ := by
  have e : oB 4 = ⟨#[43, 52]⟩ := by
    unfold oB
    rw [if_neg (by decide), if_pos (by decide), nB_4]
    decide +kernel
  show meB 2 4 = _
  unfold meB
  rw [e]
  decide +kernel
theorem sm_X (w : World) : L10.SmAt ((w.alloc (.cells #[.string ⟨#[97]⟩] 9)).alloc (.cells (stA (.slice (some ⟨w.heap.size, 0, none⟩) 1 1) 68 false 0 0 0 0 ⟨#[]⟩ ⟨#[]⟩) 46)) (.slice (some ⟨w.heap.size + 1, 0, none⟩) 1 1) [sX] := by
  have h := sm_one (w.alloc (.cells #[.string ⟨#[97]⟩] 9)) (.slice (some ⟨w.heap.size, 0, none⟩) 1 1) sX (.inl ⟨w.heap.size, 0, 1, rfl, by simp, fun j hj => by
    obtain rfl : j = 0 := by simpa [sX] using hj
    have := heap_alloc_last w (.cells #[.string ⟨#[97]⟩] 9)
    simp only [World.cell?, this]
    rfl⟩)
  rw [show (w.alloc (.cells #[.string ⟨#[97]⟩] 9)).heap.size = w.heap.size + 1 from by simp] at h
  exact h
theorem room_X : Room ⟨[], [sX]⟩ := ⟨by decide, by decide, fun s hs => by
  obtain rfl : s = sX := by simpa using hs
  decide, by decide, by rw [txX]; decide⟩
set_option maxHeartbeats 4000000 in
set_option maxRecDepth 100000 in
theorem alive11 (w : World) (hT : Tb w) : Calls Tryz.prog 7 #[] w fun e w' => e = .returned (.bool true) ∧ Below w.heap.size w w' := by
  have HCO := Lib.hid (fun W h => code_al W h)
  have HME := Lib.hid (fun W h => memory_at 2 4 (by decide) (by decide) W h)
  have HNU := Lib.hid (fun W h => number_at (-7) (by decide) (by decide) W h)
  have HDE := Lib.hid (fun W h => def_at ⟨#[109]⟩ 1 2 3 W h ⟨by decide, by decide, by decide, by decide, by decide, by decide⟩ (by decide))
  have HPR := Lib.hid (fun (W : World) (h : Tb W) (vs : Value) (hv : L10.SmAt W vs [sX]) => program_ok (.slice none 0 0) vs ⟨[], [sX]⟩ W ⟨.inr ⟨rfl, none, 0, rfl⟩, hv⟩ (fits_one sX (by decide) (fun t ht => by
    obtain rfl : t = ⟨#[97]⟩ := by simpa [sX] using ht
    decide) (by decide) (by decide)) h room_X (by rw [brX]))
  rw [me24] at HME
  rw [nB_m7] at HNU
  rw [deM] at HDE
  rw [txX] at HPR
  have hB0 := L8.bnew w (.cells (stA (.slice none 0 0) 71 false 1 10 (-8) 0 ⟨#[]⟩ ⟨#[]⟩) 46)
  have HT0 := Lib.hid (hT.below hB0)
  have HB0 := Lib.hid hB0
  clear hB0 hT
  go_enter Tryz.func7, Tryz.ntmps7
  go_wp2_with (first
    | (go_at_call 18; ((with_reducible refine (HCO.out _ HT0.out).mono ?_); rintro e w1 ⟨rfl, b1⟩; have HB1 := Lib.hid (L2.bch HB0.out b1); have HT1 := Lib.hid (HT0.out.below b1)))
    | (go_at_call 19; ((with_reducible refine (HME.out _ HT1.out).mono ?_); rintro e w2 ⟨rfl, b2⟩; have HB2 := Lib.hid (L2.bch HB1.out b2); have HT2 := Lib.hid (HT1.out.below b2)))
    | (go_at_call 20; ((with_reducible refine (HNU.out _ HT2.out).mono ?_); rintro e w3 ⟨rfl, b3⟩; have HB3 := Lib.hid (L2.bch HB2.out b3); have HT3 := Lib.hid (HT2.out.below b3)))
    | (go_at_call 8; ((with_reducible refine (HDE.out _ HT3.out).mono ?_); rintro e w4 ⟨rfl, b4⟩; have HB4 := Lib.hid (L2.bch HB3.out b4); have HT4 := Lib.hid (HT3.out.below b4)))
    | (go_at_call 11; (have hb5 := L8.bnew w4 (.cells #[.string ⟨#[97]⟩] 9); have hb6 := L8.bnew (w4.alloc (.cells #[.string ⟨#[97]⟩] 9)) (.cells (stA (.slice (some ⟨w4.heap.size, 0, none⟩) 1 1) 68 false 0 0 0 0 ⟨#[]⟩ ⟨#[]⟩) 46); have HB6 := Lib.hid (L2.bch (L2.bch HB4.out hb5) hb6); (with_reducible refine (HPR.out _ ((HT4.out.below hb5).below hb6) _ (sm_X w4)).mono ?_); rintro e w7 ⟨rfl, b7⟩)))
  go_ret
  exact ⟨rfl, L2.bch HB6.out b7⟩
end Go.Proofs.YtbneaihpnfkcdaaGreatDoor.L11
end

section
namespace Go.Proofs.YtbneaihpnfkcdaaGreatDoor.L11
open Go.RowKit
attribute [local go_sem] Oper.semAt_some

theorem meT_in {r o : Int} (h0 : 0 ≤ r) (h1 : r ≤ 10) (h2 : -32768 ≤ o) (h3 : o ≤ 32767) : meT r o = meB r o := by
  unfold meT L4.isG isO
  rw [decide_eq_true h0, decide_eq_true h1, decide_eq_true h2, decide_eq_true h3]
  rfl
theorem meT_out {r o : Int} (h : ¬ (0 ≤ r ∧ r ≤ 10 ∧ -32768 ≤ o ∧ o ≤ 32767)) : meT r o = L9.eB := by
  unfold meT
  rw [if_neg]
  unfold L4.isG isO
  simp only [Bool.and_eq_true, decide_eq_true_eq]
  intro ⟨⟨a, b⟩, c, d⟩
  exact h ⟨a, b, c, d⟩
set_option maxHeartbeats 2000000 in
theorem rmemory_at (r o : Int) (h0 : -9223372036854775808 ≤ o) (h1 : o ≤ 9223372036854775807) (w : World) : Calls Tryz.prog 59 #[.int .i64 r, .int .i64 o] w fun e w' => e = .returned (.string (meT r o)) ∧ w = w' := by
  have HN := Lib.hid (fun W => L2.rname_any r W)
  have HU := Lib.hid (fun W => L2.rformat_at o (nB o) W h0 h1 rfl)
  have hn := nB_len o h0 h1
  have hl := nmS_len r
  have z91 := c91
  have z93 := c93
  have z43 := c43
  by_cases a1 : r < 0
  · rw [meT_out (by omega)]
    go_enter Tryz.func59, Tryz.ntmps59
    go_wp2
    go_ret
    exact ⟨rfl, rfl⟩
  by_cases a2 : r > 10
  · rw [meT_out (by omega)]
    go_enter Tryz.func59, Tryz.ntmps59
    go_wp2
    go_ret
    exact ⟨rfl, rfl⟩
  by_cases a3 : o < -32768
  · rw [meT_out (by omega)]
    go_enter Tryz.func59, Tryz.ntmps59
    go_wp2
    go_ret
    exact ⟨rfl, rfl⟩
  by_cases a4 : o > 32767
  · rw [meT_out (by omega)]
    go_enter Tryz.func59, Tryz.ntmps59
    go_wp2
    go_ret
    exact ⟨rfl, rfl⟩
  rw [meT_in (by omega) (by omega) (by omega) (by omega)]
  by_cases hz : o = 0
  · have e : meB r o = (⟨#[91]⟩ : ByteArray) ++ L2.nmS r ++ ⟨#[]⟩ ++ ⟨#[93]⟩ := by
      unfold meB oB L9.tOpn L9.tShu
      rw [if_pos hz]
      apply ByteArray.ext
      simp [L9.eB]
    rw [e]
    clear e
    have s1 : ((⟨#[91]⟩ : ByteArray) ++ L2.nmS r).size ≤ 10 := by rw [app1, c91]; omega
    have e0 : (⟨#[]⟩ : ByteArray).size = 0 := rfl
    have s2 : ((⟨#[91]⟩ : ByteArray) ++ L2.nmS r ++ ⟨#[]⟩).size ≤ 11 := by rw [app1, e0]; omega
    have s3 : ((⟨#[91]⟩ : ByteArray) ++ L2.nmS r ++ ⟨#[]⟩ ++ ⟨#[93]⟩).size ≤ 12 := by rw [app1, c93]; omega
    subst hz
    go_enter Tryz.func59, Tryz.ntmps59
    go_wp2_with (go_at_call 58; ((with_reducible refine (HN.out _).mono ?_); rintro e w1 ⟨rfl, rfl⟩))
    go_ret
    exact ⟨rfl, rfl⟩
  · by_cases hp : 0 < o
    · have e : meB r o = (⟨#[91]⟩ : ByteArray) ++ L2.nmS r ++ ((⟨#[43]⟩ : ByteArray) ++ nB o) ++ ⟨#[93]⟩ := by
        unfold meB oB L9.tOpn L9.tShu L9.tPlu
        rw [if_neg hz, if_pos hp]
        apply ByteArray.ext
        simp
      rw [e]
      clear e
      have s0 : ((⟨#[43]⟩ : ByteArray) ++ nB o).size ≤ 30 := by rw [app1, c43]; omega
      have s1 : ((⟨#[91]⟩ : ByteArray) ++ L2.nmS r).size ≤ 10 := by rw [app1, c91]; omega
      have s2 : ((⟨#[91]⟩ : ByteArray) ++ L2.nmS r ++ ((⟨#[43]⟩ : ByteArray) ++ nB o)).size ≤ 60 := by rw [app1]; omega
      have s3 : ((⟨#[91]⟩ : ByteArray) ++ L2.nmS r ++ ((⟨#[43]⟩ : ByteArray) ++ nB o) ++ ⟨#[93]⟩).size ≤ 61 := by rw [app1, c93]; omega
      have hnn : ¬ o < 0 := by omega
      go_enter Tryz.func59, Tryz.ntmps59
      go_wp2_with (first
        | (go_at_call 58; ((with_reducible refine (HN.out _).mono ?_); rintro e w1 ⟨rfl, rfl⟩))
        | (go_at_call 25; ((with_reducible refine (HU.out _).mono ?_); rintro e w1 ⟨rfl, rfl⟩)))
      go_ret
      exact ⟨rfl, rfl⟩
    · have e : meB r o = (⟨#[91]⟩ : ByteArray) ++ L2.nmS r ++ nB o ++ ⟨#[93]⟩ := by
        unfold meB oB L9.tOpn L9.tShu
        rw [if_neg hz, if_neg hp]
        apply ByteArray.ext
        simp
      rw [e]
      clear e
      have s1 : ((⟨#[91]⟩ : ByteArray) ++ L2.nmS r).size ≤ 10 := by rw [app1, c91]; omega
      have s2 : ((⟨#[91]⟩ : ByteArray) ++ L2.nmS r ++ nB o).size ≤ 60 := by rw [app1]; omega
      have s3 : ((⟨#[91]⟩ : ByteArray) ++ L2.nmS r ++ nB o ++ ⟨#[93]⟩).size ≤ 61 := by rw [app1, c93]; omega
      have hnn : o < 0 := by omega
      go_enter Tryz.func59, Tryz.ntmps59
      go_wp2_with (first
        | (go_at_call 58; ((with_reducible refine (HN.out _).mono ?_); rintro e w1 ⟨rfl, rfl⟩))
        | (go_at_call 25; ((with_reducible refine (HU.out _).mono ?_); rintro e w1 ⟨rfl, rfl⟩)))
      go_ret
      exact ⟨rfl, rfl⟩
end Go.Proofs.YtbneaihpnfkcdaaGreatDoor.L11
end
