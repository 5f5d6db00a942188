/- What the reference's Right and Code return: a statement that is right for itself, and the text of its instruction. Condition: memory holds the statement, which is correct for itself. -/
import Derived.Test.YtbneaihpnfkcdaaGreatDoorM23
import Derived.Test.YtbneaihpnfkcdaaGreatDoorL10Chl
namespace Go.Proofs.YtbneaihpnfkcdaaGreatDoor.L11
open Go.RowKit
open L10 (Stm Pg)
attribute [local go_sem] Oper.semAt_some

theorem frB_mem : ∀ l : List (Bool × Nat × Int), (L10.frB l).2.2 = 0 ∨ ∃ c ∈ l, c.2.2 = (L10.frB l).2.2
  | [] => .inl rfl
  | c :: r => by
    rw [L10.frB]
    split
    · rcases frB_mem r with h | ⟨d, hd, h⟩
      · exact .inl h
      · exact .inr ⟨d, by simp [hd], h⟩
    · exact .inr ⟨c, by simp, rfl⟩
theorem br_right (s : Stm) (hl : s.labs = []) (h : L10.stE s = 0) : (L10.brV ⟨[], [s]⟩).2.2 = 0 ∨ (L10.brV ⟨[], [s]⟩).2.2 = 11 ∨ (L10.brV ⟨[], [s]⟩).2.2 = 14 ∨ (L10.brV ⟨[], [s]⟩).2.2 = 15 := by
  have h0 : L10.cnd ⟨[], [s]⟩ = [(true, 0, 0), (false, L10.fe [L10.stE s]), (true, 0, 0), (true, 0, 0), (false, L10.fe (L10.dpE [] [s.labs])), (false, (0, 0)), (false, L10.fe [L10.unE ⟨[], [s]⟩ s]), (false, L10.fe [L10.wrE s]), (false, L10.fe [L10.enE 1 0 s])] := rfl
  have h1 : L10.fe (L10.dpE [] [s.labs]) = (0, 0) := by rw [hl]; rfl
  have e2 : ∀ e : Int, (L10.fe [e]).2 = e := fun e => by
    rw [fe1]; split
    · rename_i h; exact h.symm
    · rfl
  rcases frB_mem (L10.cnd ⟨[], [s]⟩) with hz | ⟨c, hc, hz⟩
  · exact .inl hz
  · rw [L10.brV_def, ← hz]
    rw [h0, h1, h] at hc
    simp only [List.mem_cons, List.not_mem_nil, or_false] at hc
    rcases hc with rfl | rfl | rfl | rfl | rfl | rfl | rfl | rfl | rfl
    · exact .inl rfl
    · exact .inl rfl
    · exact .inl rfl
    · exact .inl rfl
    · exact .inl rfl
    · exact .inl rfl
    · show (L10.fe [L10.unE ⟨[], [s]⟩ s]).2 = 0 ∨ (L10.fe [L10.unE ⟨[], [s]⟩ s]).2 = 11 ∨ (L10.fe [L10.unE ⟨[], [s]⟩ s]).2 = 14 ∨ (L10.fe [L10.unE ⟨[], [s]⟩ s]).2 = 15
      rw [e2]
      unfold L10.unE
      split
      · exact .inl rfl
      · exact .inr (.inl rfl)
    · show (L10.fe [L10.wrE s]).2 = 0 ∨ (L10.fe [L10.wrE s]).2 = 11 ∨ (L10.fe [L10.wrE s]).2 = 14 ∨ (L10.fe [L10.wrE s]).2 = 15
      rw [e2]
      unfold L10.wrE
      split
      · exact .inr (.inr (.inl rfl))
      · exact .inl rfl
    · show (L10.fe [L10.enE 1 0 s]).2 = 0 ∨ (L10.fe [L10.enE 1 0 s]).2 = 11 ∨ (L10.fe [L10.enE 1 0 s]).2 = 14 ∨ (L10.fe [L10.enE 1 0 s]).2 = 15
      rw [e2]
      unfold L10.enE
      split
      · exact .inl rfl
      · exact .inr (.inr (.inr rfl))
theorem stE_labs {labs : List ByteArray} {x : L9.Ins} {tg mp : ByteArray} (h : L10.stE ⟨labs, x, tg, mp⟩ = 0) : labs.all L2.vd = true ∧ L10.stE ⟨[], x, tg, mp⟩ = 0 := by
  unfold L10.stE at h ⊢
  dsimp only at h ⊢
  split at h
  · rename_i hl
    refine ⟨hl, ?_⟩
    rw [if_pos (by rfl)]
    exact h
  · cases h
set_option maxHeartbeats 4000000 in
set_option maxRecDepth 100000 in
theorem rright_at (lv : Value) (labs : List ByteArray) (op : Int) (reg : Bool) (dst src off imm : Int) (tg mp : ByteArray) (w : World) (hv : L8.StAt w lv labs) (hm : labs.length ≤ 100000)
    (hf : L10.SmFit ⟨labs, ⟨op, reg, dst, src, off, imm⟩, tg, mp⟩) (h : L10.stE ⟨labs, ⟨op, reg, dst, src, off, imm⟩, tg, mp⟩ = 0) :
    Calls Tryz.prog 56 #[.agg (stA lv op reg dst src off imm tg mp)] w fun e w' => e = .returned (.bool true) ∧ Below w.heap.size w w' := by
  obtain ⟨hall, h1⟩ := stE_labs h
  have hbr := br_right ⟨[], ⟨op, reg, dst, src, off, imm⟩, tg, mp⟩ rfl h1
  obtain ⟨b, K, er, hr⟩ : ∃ b K er, L10.brV ⟨[], [⟨[], ⟨op, reg, dst, src, off, imm⟩, tg, mp⟩]⟩ = (b, K, er) := ⟨_, _, _, rfl⟩
  rw [hr] at hbr
  have hfit : L10.PgFit ⟨[], [⟨[], ⟨op, reg, dst, src, off, imm⟩, tg, mp⟩]⟩ := ⟨fun d hd => by (cases hd), fun s hs => by
    obtain rfl : s = ⟨[], ⟨op, reg, dst, src, off, imm⟩, tg, mp⟩ := by simpa using hs
    exact ⟨fun t ht => by (cases ht), hf.tg, hf.mp, hf.op, hf.dst, hf.src, hf.off, hf.imm⟩⟩
  have HCK := Lib.hid (fun W => L10.rcheck10_at (.slice none 0 0) (.slice (some ⟨W.heap.size, 0, none⟩) 1 1) ⟨[], [⟨[], ⟨op, reg, dst, src, off, imm⟩, tg, mp⟩]⟩ ((W.alloc (.cells (stA (.slice none 0 0) op reg dst src off imm tg mp) 46)).alloc (.cells #[.slice none 0 0, .slice (some ⟨W.heap.size, 0, none⟩) 1 1] 30))
    ⟨.inr ⟨rfl, none, 0, rfl⟩, (sm_one W (.slice none 0 0) ⟨[], ⟨op, reg, dst, src, off, imm⟩, tg, mp⟩ (.inr ⟨rfl, none, 0, rfl⟩)).below (L8.bnew _ _)⟩ hfit ⟨by simp, by simp, by simp [L10.lsum]⟩ b K er hr)
  obtain ⟨n, hn⟩ : ∃ n, labs.length = n := ⟨_, rfl⟩
  have HV := Lib.hid (fun (t : ByteArray) (ht : t ∈ labs) (W : World) => L2.rvalid_at t true W (Nat.le_trans (hf.lb t ht) (by decide)) (List.all_eq_true.1 hall t ht))
  have HA := Lib.hid (L10.st_form hn hv)
  have HN := Lib.hid hn
  rw [hn] at hm
  have HE := Lib.hid hbr
  have hS := heap_alloc_last w (.cells (stA lv op reg dst src off imm tg mp) 46)
  have hB0 := L8.bnew w (.cells (stA lv op reg dst src off imm tg mp) 46)
  clear hv h h1 hall hr hfit hn hf hbr
  obtain ⟨a, cap, rfl, hc⟩ := HA.out
  have HD := Lib.hid hc
  clear hc HA
  go_enter Tryz.func56, Tryz.ntmps56
  go_upto_region 1 with (fail)
  generalize w.alloc (.cells (stA (.slice a n cap) op reg dst src off imm tg mp) 46) = W0 at hS hB0 ⊢
  generalize hgk : w.heap.size = g at hS ⊢
  obtain ⟨x0, x1, x2, x3, x4, x5, x6, x7, x8⟩ := cl9 hS
  go_upto_region 2 with (fail)
  have hb1 := L8.bnew W0 (.cells (stA (.slice none 0 0) op reg dst src off imm tg mp) 46)
  have hb2 := L8.bnew (W0.alloc (.cells (stA (.slice none 0 0) op reg dst src off imm tg mp) 46)) (.cells #[.slice none 0 0, .slice (some ⟨W0.heap.size, 0, none⟩) 1 1] 30)
  have hb3 := L2.bch hb1 hb2
  have HC := Lib.hid (HCK.out W0)
  have hP := heap_alloc_last (W0.alloc (.cells (stA (.slice none 0 0) op reg dst src off imm tg mp) 46)) (.cells #[.slice none 0 0, .slice (some ⟨W0.heap.size, 0, none⟩) 1 1] 30)
  have hsz : (W0.alloc (.cells (stA (.slice none 0 0) op reg dst src off imm tg mp) 46)).heap.size = W0.heap.size + 1 := by simp
  rw [hsz] at hP
  have hS3 := L8.row_up hS hb3
  have HB := Lib.hid (L2.bch hB0 hb3)
  clear x0 x1 x2 x3 x4 x5 x6 x7 x8 HCK hb1 hb2 hsz hS
  generalize (W0.alloc (.cells (stA (.slice none 0 0) op reg dst src off imm tg mp) 46)).alloc (.cells #[.slice none 0 0, .slice (some ⟨W0.heap.size, 0, none⟩) 1 1] 30) = W3 at HC hP hS3 HB hb3 ⊢
  obtain ⟨y0, y1⟩ := L10.cells2p hP
  have hyl := lt_of_block hP
  go_upto_region 3 with (go_at_call 28; ((with_reducible refine (HC.out).mono ?_); rintro e w4 ⟨rfl, b4⟩))
  have hS4 := L8.row_up hS3 b4
  have HB4 := Lib.hid (HB.out.trans (b4.mono HB.out.size))
  clear y0 y1 hyl hP hS3
  obtain ⟨x0, x1, x2, x3, x4, x5, x6, x7, x8⟩ := cl9 hS4
  have hgl := lt_of_block hS4
  clear hB0 hb3 b4 hgk
  go_wp2_with (fail)
  go_loop [6] (fun i => ∃ j : Nat, j ≤ n ∧ i = .int .i64 (j : Int)) (fun i => n - (intOf i).toNat)
  case atStart => exact ⟨0, Nat.zero_le _, rfl⟩
  case round =>
    obtain ⟨j, hj, rfl⟩ := hrel
    by_cases hlt : j < n
    · have hjl : j < labs.length := by rw [HN.out]; exact hlt
      obtain ⟨b1, o, rfl, hb, hc⟩ := HD.out (by omega)
      have HVV := HV.out labs[j] (List.getElem_mem hjl) w4
      obtain ⟨x, hx⟩ : ∃ x, labs[j] = x := ⟨_, rfl⟩
      have hcx : w4.cell? ⟨b1, o + j, none⟩ = some (.string x) := (HB4.out.cell (by exact hb)).trans (by rw [hc j hjl, hx])
      have hb1 := World.block_lt_of_cell? _ _ hcx
      simp only at hb1
      rw [hx] at HVV
      have HV1 := Lib.hid HVV
      have hjI : (j : Int) < (n : Int) := by omega
      clear hc hx HVV
      go_wp2_with (go_at_call 23; ((with_reducible refine (HV1.out).mono ?_); rintro e w5 ⟨rfl, rfl⟩))
      go_round
      case rel => exact ⟨j + 1, by omega, by go_num⟩
      case measure => simp [intOf]; omega
    · obtain rfl : j = n := by omega
      clear HD HN HV HC
      have hE := HE.out
      rcases hE with rfl | rfl | rfl | rfl
      all_goals
        go_wp2
        go_ret
        exact ⟨rfl, HB4.out⟩
theorem opF0 (n : ByteArray) : opF n 0 [] = n := rfl
theorem opS0 (t a : ByteArray) : opS t 0 a = t ++ (spB ++ a) := rfl
theorem opS1 (t a : ByteArray) (i : Nat) : opS t (i + 1) a = (t ++ L9.tCom) ++ (spB ++ a) := by
  unfold opS
  rw [if_pos (Nat.succ_pos i)]
theorem opF1 (n a : ByteArray) : opF n 0 [a] = n ++ ⟨#[32]⟩ ++ a := by
  show opS n 0 a = _
  rw [opS0]
  unfold spB
  apply ByteArray.ext
  simp
theorem opF2 (n a b : ByteArray) : opF n 0 [a, b] = n ++ ⟨#[32]⟩ ++ a ++ ⟨#[44, 32]⟩ ++ b := by
  show opS (opS n 0 a) (0 + 1) b = _
  rw [opS1, opS0]
  unfold spB L9.tCom
  apply ByteArray.ext
  apply Array.toList_inj.1
  simp
theorem opF3 (n a b c : ByteArray) : opF n 0 [a, b, c] = n ++ ⟨#[32]⟩ ++ a ++ ⟨#[44, 32]⟩ ++ b ++ ⟨#[44, 32]⟩ ++ c := by
  show opS (opS (opS n 0 a) (0 + 1) b) (1 + 1) c = _
  rw [opS1, opS1, opS0]
  unfold spB L9.tCom
  apply ByteArray.ext
  apply Array.toList_inj.1
  simp
theorem c32 : (⟨#[32]⟩ : ByteArray).size = 1 := rfl
theorem c4432 : (⟨#[44, 32]⟩ : ByteArray).size = 2 := rfl
theorem nm_len (i : Nat) : (L3.nm i).size ≤ 12 := by
  by_cases h : i < 86
  · have : ∀ k, k < 86 → (L3.nm k).size ≤ 12 := by decide +kernel
    exact this i h
  · have hl : L3.nmL.length ≤ 86 := by decide +kernel
    have e : L3.nm i = L3.nm 86 := by unfold L3.nm; rw [List.getD_eq_getElem?_getD, List.getD_eq_getElem?_getD, List.getElem?_eq_none (by omega), List.getElem?_eq_none hl]
    rw [e]; decide +kernel
theorem meT_len (r o : Int) (h0 : -9223372036854775808 ≤ o) (h1 : o ≤ 9223372036854775807) : (meT r o).size ≤ 40 := by
  have h2 := nB_len o h0 h1
  have h3 := nmS_len r
  unfold meT
  split
  · unfold meB oB
    have e1 : L9.tOpn.size = 1 := rfl
    have e2 : L9.tShu.size = 1 := rfl
    have e3 : L9.tPlu.size = 1 := rfl
    have e4 : L9.eB.size = 0 := rfl
    split
    · simp only [ByteArray.size_append]; omega
    split
    · simp only [ByteArray.size_append]; omega
    · simp only [ByteArray.size_append]; omega
  · decide
theorem in0 {x : L9.Ins} {tg mp : ByteArray} {f : Int} (hf : L3.frm (L3.ix x.op) = f) (h : opL f x tg mp = []) : inT x tg mp = L3.nm (L3.ix x.op) := by unfold inT; rw [hf, h, opF0]
theorem in1 {x : L9.Ins} {tg mp a : ByteArray} {f : Int} (hf : L3.frm (L3.ix x.op) = f) (h : opL f x tg mp = [a]) : inT x tg mp = L3.nm (L3.ix x.op) ++ ⟨#[32]⟩ ++ a := by unfold inT; rw [hf, h, opF1]
theorem in2 {x : L9.Ins} {tg mp a b : ByteArray} {f : Int} (hf : L3.frm (L3.ix x.op) = f) (h : opL f x tg mp = [a, b]) : inT x tg mp = L3.nm (L3.ix x.op) ++ ⟨#[32]⟩ ++ a ++ ⟨#[44, 32]⟩ ++ b := by unfold inT; rw [hf, h, opF2]
theorem in3 {x : L9.Ins} {tg mp a b c : ByteArray} {f : Int} (hf : L3.frm (L3.ix x.op) = f) (h : opL f x tg mp = [a, b, c]) : inT x tg mp = L3.nm (L3.ix x.op) ++ ⟨#[32]⟩ ++ a ++ ⟨#[44, 32]⟩ ++ b ++ ⟨#[44, 32]⟩ ++ c := by unfold inT; rw [hf, h, opF3]
set_option maxHeartbeats 16000000 in
set_option maxRecDepth 100000 in
theorem rcode_all (lv : Value) (op : Int) (reg : Bool) (dst src off imm : Int) (tg mp : ByteArray) (w : World) (f : Int) (hf : L3.frm (L3.ix op) = f) (ho : -9223372036854775808 ≤ off ∧ off ≤ 9223372036854775807) (hm : -9223372036854775808 ≤ imm ∧ imm ≤ 9223372036854775807) (ht : tg.size ≤ 1000) (hq : mp.size ≤ 1000) (hlv : ∃ a n c, lv = .slice a n c)
    (hF : L4.IsF f) (h1 : f ≠ -1) (h2 : reg = false ∨ f = 0 ∨ f = 4) (h5 : f = 5 → imm = 1 ∨ imm = 2 ∨ imm = 3)
    (hR : ∀ W, Below w.heap.size w W → Calls Tryz.prog 56 #[.agg (stA lv op reg dst src off imm tg mp)] W fun e w' => e = .returned (.bool true) ∧ Below W.heap.size W w') :
    Calls Tryz.prog 29 #[.agg (stA lv op reg dst src off imm tg mp)] w fun e w' => e = .returned (.string (inT ⟨op, reg, dst, src, off, imm⟩ tg mp)) ∧ Below w.heap.size w w' := by
  obtain ⟨a, n, c, rfl⟩ := hlv
  have HU := Lib.hid (fun W => L3.rname_at op _ W rfl)
  have HF := Lib.hid (fun W => L3.rform_at op f W hf)
  have HD := Lib.hid (fun W => L2.rname_any dst W)
  have HS := Lib.hid (fun W => L2.rname_any src W)
  have HI := Lib.hid (fun W => L2.rformat_at imm (nB imm) W hm.1 hm.2 rfl)
  have HM := Lib.hid (fun W => rmemory_at src off ho.1 ho.2 W)
  have HM2 := Lib.hid (fun W => rmemory_at dst off ho.1 ho.2 W)
  have l0 := nm_len (L3.ix op)
  have l1 := nmS_len dst
  have l2 := nmS_len src
  have l3 := nB_len imm hm.1 hm.2
  have l4 := meT_len src off ho.1 ho.2
  have l5 := meT_len dst off ho.1 ho.2
  have HFF := Lib.hid hf
  have HC := Lib.hid (And.intro hF (And.intro h1 (And.intro h2 h5)))
  have hS0 := heap_alloc_last w (.cells (stA (.slice a n c) op reg dst src off imm tg mp) 46)
  have hB0 := L8.bnew w (.cells (stA (.slice a n c) op reg dst src off imm tg mp) 46)
  have HR := Lib.hid (hR _ hB0)
  clear hf hm ho hR hF h1 h2 h5
  go_enter Tryz.func29, Tryz.ntmps29
  go_upto_region 1 with (fail)
  generalize w.alloc (.cells (stA (.slice a n c) op reg dst src off imm tg mp) 46) = W0 at hS0 hB0 HR ⊢
  generalize w.heap.size = g at hS0 ⊢
  obtain ⟨x0, x1, x2, x3, x4, x5, x6, x7, x8⟩ := cl9 hS0
  go_upto_region 3 with (go_at_call 56; ((with_reducible refine (HR.out).mono ?_); rintro e w1 ⟨rfl, b1⟩))
  have hS1 := L8.row_up hS0 b1
  have hB1 := L2.bch hB0 b1
  clear x0 x1 x2 x3 x4 x5 x6 x7 x8 hS0 b1 HR
  obtain ⟨x0, x1, x2, x3, x4, x5, x6, x7, x8⟩ := cl9 hS1
  go_upto_region 4 with (fail)
  have hI2 := heap_alloc_last w1 (.cells #[.int .i64 op, .bool reg, .int .i64 dst, .int .i64 src, .int .i64 off, .int .i64 imm] 43)
  have hb2 := L8.bnew w1 (.cells #[.int .i64 op, .bool reg, .int .i64 dst, .int .i64 src, .int .i64 off, .int .i64 imm] 43)
  have hS2 := L8.row_up hS1 hb2
  have hB2 := L2.bch hB1 hb2
  clear x0 x1 x2 x3 x4 x5 x6 x7 x8 hS1 hb2
  generalize w1.alloc (.cells #[.int .i64 op, .bool reg, .int .i64 dst, .int .i64 src, .int .i64 off, .int .i64 imm] 43) = W2 at hI2 hS2 hB2 ⊢
  generalize w1.heap.size = k2 at hI2 ⊢
  obtain ⟨z0, z1, z2, z3, z4, z5⟩ := cl6 hI2
  go_upto_region 5 with (go_at_call 57; ((with_reducible refine (HU.out _).mono ?_); rintro e w3 ⟨rfl, b3⟩))
  have hI3 := L8.row_up hI2 b3
  have hS3 := L8.row_up hS2 b3
  have HB3 := Lib.hid (L2.bch hB2 b3)
  clear z0 z1 z2 z3 z4 z5 hI2 hS2 b3 hB0 hB1 hB2 HU
  obtain ⟨z0, z1, z2, z3, z4, z5⟩ := cl6 hI3
  obtain ⟨x0, x1, x2, x3, x4, x5, x6, x7, x8⟩ := cl9 hS3
  have hk3 := lt_of_block hI3
  have hg3 := lt_of_block hS3
  clear hI3 hS3
  go_upto_region 6 with (go_at_call 58; ((with_reducible refine (HD.out _).mono ?_); rintro e w4 ⟨rfl, rfl⟩))
  go_upto_region 7 with (go_at_call 58; ((with_reducible refine (HS.out _).mono ?_); rintro e w4 ⟨rfl, rfl⟩))
  go_upto_region 9 with (go_at_call 25; ((with_reducible refine (HI.out _).mono ?_); rintro e w4 ⟨rfl, rfl⟩))
  obtain ⟨hF, h1, h2, h5⟩ := HC.out
  clear HC HD HS HI
  rcases hF with rfl | rfl | rfl | rfl | rfl | rfl | rfl | rfl | rfl | rfl | rfl | rfl | rfl
  · exact absurd rfl h1
  · cases reg
    · have q0 : (L3.nm (L3.ix op) ++ ⟨#[32]⟩ : ByteArray).size ≤ 5000 := by simp only [app1, c32]; omega
      have q1 : (L3.nm (L3.ix op) ++ ⟨#[32]⟩ ++ L2.nmS dst : ByteArray).size ≤ 5000 := by simp only [app1, c32]; omega
      have q2 : (L3.nm (L3.ix op) ++ ⟨#[32]⟩ ++ L2.nmS dst ++ ⟨#[44, 32]⟩ : ByteArray).size ≤ 5000 := by simp only [app1, c32, c4432]; omega
      have q3 : (L3.nm (L3.ix op) ++ ⟨#[32]⟩ ++ L2.nmS dst ++ ⟨#[44, 32]⟩ ++ nB imm : ByteArray).size ≤ 5000 := by simp only [app1, c32, c4432]; omega
      go_wp2_with (first | (go_at_call 55; ((with_reducible refine (HF.out _).mono ?_); rintro e w4 ⟨rfl, rfl⟩)))
      go_ret
      exact ⟨by rw [in2 HFF.out (show opL 0 ⟨op, false, dst, src, off, imm⟩ tg mp = [L2.nmS dst, nB imm] from rfl)]; rfl, HB3.out⟩
    · have q0 : (L3.nm (L3.ix op) ++ ⟨#[32]⟩ : ByteArray).size ≤ 5000 := by simp only [app1, c32]; omega
      have q1 : (L3.nm (L3.ix op) ++ ⟨#[32]⟩ ++ L2.nmS dst : ByteArray).size ≤ 5000 := by simp only [app1, c32]; omega
      have q2 : (L3.nm (L3.ix op) ++ ⟨#[32]⟩ ++ L2.nmS dst ++ ⟨#[44, 32]⟩ : ByteArray).size ≤ 5000 := by simp only [app1, c32, c4432]; omega
      have q3 : (L3.nm (L3.ix op) ++ ⟨#[32]⟩ ++ L2.nmS dst ++ ⟨#[44, 32]⟩ ++ L2.nmS src : ByteArray).size ≤ 5000 := by simp only [app1, c32, c4432]; omega
      go_wp2_with (first | (go_at_call 55; ((with_reducible refine (HF.out _).mono ?_); rintro e w4 ⟨rfl, rfl⟩)))
      go_ret
      exact ⟨by rw [in2 HFF.out (show opL 0 ⟨op, true, dst, src, off, imm⟩ tg mp = [L2.nmS dst, L2.nmS src] from rfl)]; rfl, HB3.out⟩
  · obtain rfl : reg = false := by rcases h2 with h | h | h <;> first | exact h | exact absurd h (by decide)
    have q0 : (L3.nm (L3.ix op) ++ ⟨#[32]⟩ : ByteArray).size ≤ 5000 := by simp only [app1, c32]; omega
    have q1 : (L3.nm (L3.ix op) ++ ⟨#[32]⟩ ++ L2.nmS dst : ByteArray).size ≤ 5000 := by simp only [app1, c32]; omega
    go_wp2_with (first | (go_at_call 55; ((with_reducible refine (HF.out _).mono ?_); rintro e w4 ⟨rfl, rfl⟩)))
    go_ret
    exact ⟨by rw [in1 HFF.out (show opL 1 ⟨op, false, dst, src, off, imm⟩ tg mp = [L2.nmS dst] from rfl)]; rfl, HB3.out⟩
  · obtain rfl : reg = false := by rcases h2 with h | h | h <;> first | exact h | exact absurd h (by decide)
    have q0 : (L3.nm (L3.ix op) ++ ⟨#[32]⟩ : ByteArray).size ≤ 5000 := by simp only [app1, c32]; omega
    have q1 : (L3.nm (L3.ix op) ++ ⟨#[32]⟩ ++ L2.nmS dst : ByteArray).size ≤ 5000 := by simp only [app1, c32]; omega
    have q2 : (L3.nm (L3.ix op) ++ ⟨#[32]⟩ ++ L2.nmS dst ++ ⟨#[44, 32]⟩ : ByteArray).size ≤ 5000 := by simp only [app1, c32, c4432]; omega
    have q3 : (L3.nm (L3.ix op) ++ ⟨#[32]⟩ ++ L2.nmS dst ++ ⟨#[44, 32]⟩ ++ L2.nmS src : ByteArray).size ≤ 5000 := by simp only [app1, c32, c4432]; omega
    go_wp2_with (first | (go_at_call 55; ((with_reducible refine (HF.out _).mono ?_); rintro e w4 ⟨rfl, rfl⟩)))
    go_ret
    exact ⟨by rw [in2 HFF.out (show opL 2 ⟨op, false, dst, src, off, imm⟩ tg mp = [L2.nmS dst, L2.nmS src] from rfl)]; rfl, HB3.out⟩
  · obtain rfl : reg = false := by rcases h2 with h | h | h <;> first | exact h | exact absurd h (by decide)
    have q0 : (L3.nm (L3.ix op) ++ ⟨#[32]⟩ : ByteArray).size ≤ 5000 := by simp only [app1, c32]; omega
    have q1 : (L3.nm (L3.ix op) ++ ⟨#[32]⟩ ++ tg : ByteArray).size ≤ 5000 := by simp only [app1, c32]; omega
    go_wp2_with (first | (go_at_call 55; ((with_reducible refine (HF.out _).mono ?_); rintro e w4 ⟨rfl, rfl⟩)))
    go_ret
    exact ⟨by rw [in1 HFF.out (show opL 3 ⟨op, false, dst, src, off, imm⟩ tg mp = [tg] from rfl)]; rfl, HB3.out⟩
  · cases reg
    · have q0 : (L3.nm (L3.ix op) ++ ⟨#[32]⟩ : ByteArray).size ≤ 5000 := by simp only [app1, c32]; omega
      have q1 : (L3.nm (L3.ix op) ++ ⟨#[32]⟩ ++ L2.nmS dst : ByteArray).size ≤ 5000 := by simp only [app1, c32]; omega
      have q2 : (L3.nm (L3.ix op) ++ ⟨#[32]⟩ ++ L2.nmS dst ++ ⟨#[44, 32]⟩ : ByteArray).size ≤ 5000 := by simp only [app1, c32, c4432]; omega
      have q3 : (L3.nm (L3.ix op) ++ ⟨#[32]⟩ ++ L2.nmS dst ++ ⟨#[44, 32]⟩ ++ nB imm : ByteArray).size ≤ 5000 := by simp only [app1, c32, c4432]; omega
      have q4 : (L3.nm (L3.ix op) ++ ⟨#[32]⟩ ++ L2.nmS dst ++ ⟨#[44, 32]⟩ ++ nB imm ++ ⟨#[44, 32]⟩ : ByteArray).size ≤ 5000 := by simp only [app1, c32, c4432]; omega
      have q5 : (L3.nm (L3.ix op) ++ ⟨#[32]⟩ ++ L2.nmS dst ++ ⟨#[44, 32]⟩ ++ nB imm ++ ⟨#[44, 32]⟩ ++ tg : ByteArray).size ≤ 5000 := by simp only [app1, c32, c4432]; omega
      go_wp2_with (first | (go_at_call 55; ((with_reducible refine (HF.out _).mono ?_); rintro e w4 ⟨rfl, rfl⟩)))
      go_ret
      exact ⟨by rw [in3 HFF.out (show opL 4 ⟨op, false, dst, src, off, imm⟩ tg mp = [L2.nmS dst, nB imm, tg] from rfl)]; rfl, HB3.out⟩
    · have q0 : (L3.nm (L3.ix op) ++ ⟨#[32]⟩ : ByteArray).size ≤ 5000 := by simp only [app1, c32]; omega
      have q1 : (L3.nm (L3.ix op) ++ ⟨#[32]⟩ ++ L2.nmS dst : ByteArray).size ≤ 5000 := by simp only [app1, c32]; omega
      have q2 : (L3.nm (L3.ix op) ++ ⟨#[32]⟩ ++ L2.nmS dst ++ ⟨#[44, 32]⟩ : ByteArray).size ≤ 5000 := by simp only [app1, c32, c4432]; omega
      have q3 : (L3.nm (L3.ix op) ++ ⟨#[32]⟩ ++ L2.nmS dst ++ ⟨#[44, 32]⟩ ++ L2.nmS src : ByteArray).size ≤ 5000 := by simp only [app1, c32, c4432]; omega
      have q4 : (L3.nm (L3.ix op) ++ ⟨#[32]⟩ ++ L2.nmS dst ++ ⟨#[44, 32]⟩ ++ L2.nmS src ++ ⟨#[44, 32]⟩ : ByteArray).size ≤ 5000 := by simp only [app1, c32, c4432]; omega
      have q5 : (L3.nm (L3.ix op) ++ ⟨#[32]⟩ ++ L2.nmS dst ++ ⟨#[44, 32]⟩ ++ L2.nmS src ++ ⟨#[44, 32]⟩ ++ tg : ByteArray).size ≤ 5000 := by simp only [app1, c32, c4432]; omega
      go_wp2_with (first | (go_at_call 55; ((with_reducible refine (HF.out _).mono ?_); rintro e w4 ⟨rfl, rfl⟩)))
      go_ret
      exact ⟨by rw [in3 HFF.out (show opL 4 ⟨op, true, dst, src, off, imm⟩ tg mp = [L2.nmS dst, L2.nmS src, tg] from rfl)]; rfl, HB3.out⟩
  · obtain rfl : reg = false := by rcases h2 with h | h | h <;> first | exact h | exact absurd h (by decide)
    have c6 : ∀ a b c d e f : UInt8, (⟨#[a, b, c, d, e, f]⟩ : ByteArray).size = 6 := fun _ _ _ _ _ _ => rfl
    rcases h5 rfl with rfl | rfl | rfl
    · have q0 : (L3.nm (L3.ix op) ++ ⟨#[32]⟩ : ByteArray).size ≤ 5000 := by simp only [app1, c32]; omega
      have q1 : (L3.nm (L3.ix op) ++ ⟨#[32]⟩ ++ ⟨#[108, 111, 111, 107, 117, 112]⟩ : ByteArray).size ≤ 5000 := by simp only [app1, c32, c6]; omega
      go_wp2_with (first | (go_at_call 55; ((with_reducible refine (HF.out _).mono ?_); rintro e w4 ⟨rfl, rfl⟩)))
      go_ret
      exact ⟨by rw [in1 HFF.out (show opL 5 ⟨op, false, dst, src, off, 1⟩ tg mp = [heB 1] from rfl)]; rfl, L2.bch HB3.out (L8.bnew _ _)⟩
    · have q0 : (L3.nm (L3.ix op) ++ ⟨#[32]⟩ : ByteArray).size ≤ 5000 := by simp only [app1, c32]; omega
      have q1 : (L3.nm (L3.ix op) ++ ⟨#[32]⟩ ++ ⟨#[117, 112, 100, 97, 116, 101]⟩ : ByteArray).size ≤ 5000 := by simp only [app1, c32, c6]; omega
      go_wp2_with (first | (go_at_call 55; ((with_reducible refine (HF.out _).mono ?_); rintro e w4 ⟨rfl, rfl⟩)))
      go_ret
      exact ⟨by rw [in1 HFF.out (show opL 5 ⟨op, false, dst, src, off, 2⟩ tg mp = [heB 2] from rfl)]; rfl, L2.bch HB3.out (L8.bnew _ _)⟩
    · have q0 : (L3.nm (L3.ix op) ++ ⟨#[32]⟩ : ByteArray).size ≤ 5000 := by simp only [app1, c32]; omega
      have q1 : (L3.nm (L3.ix op) ++ ⟨#[32]⟩ ++ ⟨#[100, 101, 108, 101, 116, 101]⟩ : ByteArray).size ≤ 5000 := by simp only [app1, c32, c6]; omega
      go_wp2_with (first | (go_at_call 55; ((with_reducible refine (HF.out _).mono ?_); rintro e w4 ⟨rfl, rfl⟩)))
      go_ret
      exact ⟨by rw [in1 HFF.out (show opL 5 ⟨op, false, dst, src, off, 3⟩ tg mp = [heB 3] from rfl)]; rfl, L2.bch HB3.out (L8.bnew _ _)⟩
  · obtain rfl : reg = false := by rcases h2 with h | h | h <;> first | exact h | exact absurd h (by decide)
    go_wp2_with (first | (go_at_call 55; ((with_reducible refine (HF.out _).mono ?_); rintro e w4 ⟨rfl, rfl⟩)))
    go_ret
    exact ⟨by rw [in0 HFF.out (show opL 6 ⟨op, false, dst, src, off, imm⟩ tg mp = [] from rfl)]; rfl, HB3.out⟩
  · obtain rfl : reg = false := by rcases h2 with h | h | h <;> first | exact h | exact absurd h (by decide)
    have q0 : (L3.nm (L3.ix op) ++ ⟨#[32]⟩ : ByteArray).size ≤ 5000 := by simp only [app1, c32]; omega
    have q1 : (L3.nm (L3.ix op) ++ ⟨#[32]⟩ ++ L2.nmS dst : ByteArray).size ≤ 5000 := by simp only [app1, c32]; omega
    have q2 : (L3.nm (L3.ix op) ++ ⟨#[32]⟩ ++ L2.nmS dst ++ ⟨#[44, 32]⟩ : ByteArray).size ≤ 5000 := by simp only [app1, c32, c4432]; omega
    have q3 : (L3.nm (L3.ix op) ++ ⟨#[32]⟩ ++ L2.nmS dst ++ ⟨#[44, 32]⟩ ++ meT src off : ByteArray).size ≤ 5000 := by simp only [app1, c32, c4432]; omega
    go_wp2_with (first | (go_at_call 55; ((with_reducible refine (HF.out _).mono ?_); rintro e w4 ⟨rfl, rfl⟩)) | (go_at_call 59; ((with_reducible refine (HM.out _).mono ?_); rintro e w4 ⟨rfl, rfl⟩)))
    go_ret
    exact ⟨by rw [in2 HFF.out (show opL 7 ⟨op, false, dst, src, off, imm⟩ tg mp = [L2.nmS dst, meT src off] from rfl)]; rfl, HB3.out⟩
  · obtain rfl : reg = false := by rcases h2 with h | h | h <;> first | exact h | exact absurd h (by decide)
    have q0 : (L3.nm (L3.ix op) ++ ⟨#[32]⟩ : ByteArray).size ≤ 5000 := by simp only [app1, c32]; omega
    have q1 : (L3.nm (L3.ix op) ++ ⟨#[32]⟩ ++ meT dst off : ByteArray).size ≤ 5000 := by simp only [app1, c32]; omega
    have q2 : (L3.nm (L3.ix op) ++ ⟨#[32]⟩ ++ meT dst off ++ ⟨#[44, 32]⟩ : ByteArray).size ≤ 5000 := by simp only [app1, c32, c4432]; omega
    have q3 : (L3.nm (L3.ix op) ++ ⟨#[32]⟩ ++ meT dst off ++ ⟨#[44, 32]⟩ ++ nB imm : ByteArray).size ≤ 5000 := by simp only [app1, c32, c4432]; omega
    go_wp2_with (first | (go_at_call 55; ((with_reducible refine (HF.out _).mono ?_); rintro e w4 ⟨rfl, rfl⟩)) | (go_at_call 59; ((with_reducible refine (HM2.out _).mono ?_); rintro e w4 ⟨rfl, rfl⟩)))
    go_ret
    exact ⟨by rw [in2 HFF.out (show opL 8 ⟨op, false, dst, src, off, imm⟩ tg mp = [meT dst off, nB imm] from rfl)]; rfl, HB3.out⟩
  · obtain rfl : reg = false := by rcases h2 with h | h | h <;> first | exact h | exact absurd h (by decide)
    have q0 : (L3.nm (L3.ix op) ++ ⟨#[32]⟩ : ByteArray).size ≤ 5000 := by simp only [app1, c32]; omega
    have q1 : (L3.nm (L3.ix op) ++ ⟨#[32]⟩ ++ meT dst off : ByteArray).size ≤ 5000 := by simp only [app1, c32]; omega
    have q2 : (L3.nm (L3.ix op) ++ ⟨#[32]⟩ ++ meT dst off ++ ⟨#[44, 32]⟩ : ByteArray).size ≤ 5000 := by simp only [app1, c32, c4432]; omega
    have q3 : (L3.nm (L3.ix op) ++ ⟨#[32]⟩ ++ meT dst off ++ ⟨#[44, 32]⟩ ++ L2.nmS src : ByteArray).size ≤ 5000 := by simp only [app1, c32, c4432]; omega
    go_wp2_with (first | (go_at_call 55; ((with_reducible refine (HF.out _).mono ?_); rintro e w4 ⟨rfl, rfl⟩)) | (go_at_call 59; ((with_reducible refine (HM2.out _).mono ?_); rintro e w4 ⟨rfl, rfl⟩)))
    go_ret
    exact ⟨by rw [in2 HFF.out (show opL 9 ⟨op, false, dst, src, off, imm⟩ tg mp = [meT dst off, L2.nmS src] from rfl)]; rfl, HB3.out⟩
  · obtain rfl : reg = false := by rcases h2 with h | h | h <;> first | exact h | exact absurd h (by decide)
    have q0 : (L3.nm (L3.ix op) ++ ⟨#[32]⟩ : ByteArray).size ≤ 5000 := by simp only [app1, c32]; omega
    have q1 : (L3.nm (L3.ix op) ++ ⟨#[32]⟩ ++ L2.nmS dst : ByteArray).size ≤ 5000 := by simp only [app1, c32]; omega
    have q2 : (L3.nm (L3.ix op) ++ ⟨#[32]⟩ ++ L2.nmS dst ++ ⟨#[44, 32]⟩ : ByteArray).size ≤ 5000 := by simp only [app1, c32, c4432]; omega
    have q3 : (L3.nm (L3.ix op) ++ ⟨#[32]⟩ ++ L2.nmS dst ++ ⟨#[44, 32]⟩ ++ nB imm : ByteArray).size ≤ 5000 := by simp only [app1, c32, c4432]; omega
    go_wp2_with (first | (go_at_call 55; ((with_reducible refine (HF.out _).mono ?_); rintro e w4 ⟨rfl, rfl⟩)))
    go_ret
    exact ⟨by rw [in2 HFF.out (show opL 10 ⟨op, false, dst, src, off, imm⟩ tg mp = [L2.nmS dst, nB imm] from rfl)]; rfl, HB3.out⟩
  · obtain rfl : reg = false := by rcases h2 with h | h | h <;> first | exact h | exact absurd h (by decide)
    have q0 : (L3.nm (L3.ix op) ++ ⟨#[32]⟩ : ByteArray).size ≤ 5000 := by simp only [app1, c32]; omega
    have q1 : (L3.nm (L3.ix op) ++ ⟨#[32]⟩ ++ L2.nmS dst : ByteArray).size ≤ 5000 := by simp only [app1, c32]; omega
    have q2 : (L3.nm (L3.ix op) ++ ⟨#[32]⟩ ++ L2.nmS dst ++ ⟨#[44, 32]⟩ : ByteArray).size ≤ 5000 := by simp only [app1, c32, c4432]; omega
    have q3 : (L3.nm (L3.ix op) ++ ⟨#[32]⟩ ++ L2.nmS dst ++ ⟨#[44, 32]⟩ ++ mp : ByteArray).size ≤ 5000 := by simp only [app1, c32, c4432]; omega
    go_wp2_with (first | (go_at_call 55; ((with_reducible refine (HF.out _).mono ?_); rintro e w4 ⟨rfl, rfl⟩)))
    go_ret
    exact ⟨by rw [in2 HFF.out (show opL 11 ⟨op, false, dst, src, off, imm⟩ tg mp = [L2.nmS dst, mp] from rfl)]; rfl, HB3.out⟩
theorem rcode_at (lv : Value) (labs : List ByteArray) (op : Int) (reg : Bool) (dst src off imm : Int) (tg mp : ByteArray) (w : World) (hv : L8.StAt w lv labs) (hm : labs.length ≤ 100000)
    (hf : L10.SmFit ⟨labs, ⟨op, reg, dst, src, off, imm⟩, tg, mp⟩) (h : L10.stE ⟨labs, ⟨op, reg, dst, src, off, imm⟩, tg, mp⟩ = 0) :
    Calls Tryz.prog 29 #[.agg (stA lv op reg dst src off imm tg mp)] w fun e w' => e = .returned (.string (inT ⟨op, reg, dst, src, off, imm⟩ tg mp)) ∧ Below w.heap.size w w' := by
  have hR : ∀ W, Below w.heap.size w W → Calls Tryz.prog 56 #[.agg (stA lv op reg dst src off imm tg mp)] W fun e w' => e = .returned (.bool true) ∧ Below W.heap.size W w' :=
    fun W hb => rright_at lv labs op reg dst src off imm tg mp W (hv.below hb) hm hf h
  have hlv : ∃ a n c, lv = .slice a n c := by
    obtain ⟨a, c, e, _⟩ := L10.st_form rfl hv
    exact ⟨a, _, c, e⟩
  obtain ⟨rn, htg, hmp, _⟩ := stE_ok _ h
  dsimp only at htg hmp
  have hck : L4.chkF (L3.frm (L3.ix op)) reg dst src off imm = 0 := by
    unfold L10.stE at h
    split at h
    · split at h
      · rename_i hc; exact hc
      · rename_i hc; exact absurd h hc
    · cases h
  obtain ⟨c1, c2, _, _, _, _, _, _, _, c10⟩ := chk_all hck
  refine rcode_all lv op reg dst src off imm tg mp w _ rfl (wf64 hf.off) (wf64 hf.imm) htg hmp hlv (L4.frm_isF op) c1 c2 (fun h5 => ?_) hR
  rw [h5] at c10
  simp only [L4.rng, beq_self_eq_true, if_true, Bool.and_eq_true, decide_eq_true_eq] at c10
  omega
end Go.Proofs.YtbneaihpnfkcdaaGreatDoor.L11
