/- What the program's checkStmt returns: a statement's first error. Condition: the tables read as the program's text lays them, and memory holds the statement's labels. -/
import Derived.Test.YtbneaihpnfkcdaaDoorL10Sml
import Derived.Deep.RegionHeld3
import Derived.Laws.EntriesVeiled
namespace Go.Proofs.YtbneaihpnfkcdaaDoor.L10
open Go.RowKit Go.Maps
attribute [local go_sem] Oper.semAt_some

theorem st_form {w : World} {v : Value} {l : List ByteArray} {n : Nat} (hn : l.length = n) (h : L8.StAt w v l) : ∃ a c, v = .slice a n c ∧ (0 < n → ∃ b o, a = some ⟨b, o, none⟩ ∧ b < w.heap.size ∧ ∀ j, (h : j < l.length) → w.cell? ⟨b, o + j, none⟩ = some (.string l[j])) := by
  subst hn
  rcases h with ⟨b, o, cap, rfl, hb, hc⟩ | ⟨rfl, a, cap, rfl⟩
  · exact ⟨_, _, rfl, fun _ => ⟨b, o, rfl, hb, fun j hj => by have := hc j hj; simpa [List.getD, List.getElem?_eq_getElem hj] using this⟩⟩
  · exact ⟨a, cap, rfl, fun h => absurd h (by simp)⟩
abbrev smA (lv : Value) (op : Int) (reg : Bool) (dst src off imm : Int) (tg mp : ByteArray) : Array Value := #[lv, .int .i64 op, .bool reg, .int .i64 dst, .int .i64 src, .int .i64 off, .int .i64 imm, .string tg, .string mp]
def Bt (w W : World) (g : Nat) (cs : Array Value) : Prop := Below w.heap.size w W ∧ W.heap[g]? = some (.cells cs 30)
theorem Bt.below {w W W' : World} {g : Nat} {cs : Array Value} (h : Bt w W g cs) (hb : Below W.heap.size W W') : Bt w W' g cs := ⟨L2.bch h.1 hb, L8.row_up h.2 hb⟩
theorem keepB {w W W' : World} {g : Nat} {a b c d e f i j k : Value} (hb : Below W.heap.size W W') (h : Bt w W g #[a, b, c, d, e, f, i, j, k]) :
    Bt w W' g #[a, b, c, d, e, f, i, j, k] ∧ W'.cell? ⟨g, 0, none⟩ = some a ∧ W'.cell? ⟨g, 1, none⟩ = some b ∧ W'.cell? ⟨g, 2, none⟩ = some c ∧ W'.cell? ⟨g, 3, none⟩ = some d ∧ W'.cell? ⟨g, 4, none⟩ = some e ∧ W'.cell? ⟨g, 5, none⟩ = some f ∧ W'.cell? ⟨g, 6, none⟩ = some i ∧ W'.cell? ⟨g, 7, none⟩ = some j ∧ W'.cell? ⟨g, 8, none⟩ = some k :=
  ⟨h.below hb, cells9 (h.below hb).2⟩
theorem keepC {w W W' : World} {g : Nat} {a b c d e f i j k : Value} (hb : Below W.heap.size W W') (h : Bt w W g #[a, b, c, d, e, f, i, j, k] ∧ W.cell? ⟨g, 0, none⟩ = some a ∧ W.cell? ⟨g, 1, none⟩ = some b ∧ W.cell? ⟨g, 2, none⟩ = some c ∧ W.cell? ⟨g, 3, none⟩ = some d ∧ W.cell? ⟨g, 4, none⟩ = some e ∧ W.cell? ⟨g, 5, none⟩ = some f ∧ W.cell? ⟨g, 6, none⟩ = some i ∧ W.cell? ⟨g, 7, none⟩ = some j ∧ W.cell? ⟨g, 8, none⟩ = some k) :
    Bt w W' g #[a, b, c, d, e, f, i, j, k] ∧ W'.cell? ⟨g, 0, none⟩ = some a ∧ W'.cell? ⟨g, 1, none⟩ = some b ∧ W'.cell? ⟨g, 2, none⟩ = some c ∧ W'.cell? ⟨g, 3, none⟩ = some d ∧ W'.cell? ⟨g, 4, none⟩ = some e ∧ W'.cell? ⟨g, 5, none⟩ = some f ∧ W'.cell? ⟨g, 6, none⟩ = some i ∧ W'.cell? ⟨g, 7, none⟩ = some j ∧ W'.cell? ⟨g, 8, none⟩ = some k := keepB hb h.1
theorem kinds3 (f : Int) : (L4.jmpF f = true ∧ (f == 11) = false) ∨ (L4.jmpF f = false ∧ (f == 11) = true) ∨ (L4.jmpF f = false ∧ (f == 11) = false) := by
  unfold L4.jmpF
  by_cases h3 : f = 3
  · subst h3; exact .inl ⟨rfl, rfl⟩
  by_cases h4 : f = 4
  · subst h4; exact .inl ⟨rfl, rfl⟩
  by_cases h11 : f = 11
  · subst h11; exact .inr (.inl ⟨rfl, rfl⟩)
  · exact .inr (.inr (by simp [h3, h4, h11]))
theorem stE_eq (labs : List ByteArray) (op : Int) (reg : Bool) (dst src off imm : Int) (tg mp : ByteArray) (f c : Int) (jm rf : Bool) (hf : L3.frm (L3.ix op) = f) (hc : L4.chkF f reg dst src off imm = c) (hj : L4.jmpF f = jm) (hr : (f == 11) = rf) :
    stE ⟨labs, ⟨op, reg, dst, src, off, imm⟩, tg, mp⟩ = if labs.all L2.vd then (if c = 0 then (if (jm && off != 0) || (rf && imm != 0) || (!jm && !tg.toList.isEmpty) || (!rf && !mp.toList.isEmpty) then 12 else if (jm && !L2.vd tg) || (rf && !L2.vd mp) then 7 else 0) else c) else 7 := by
  subst hf hc hj hr
  rfl
set_option maxHeartbeats 4000000 in
set_option maxRecDepth 100000 in
theorem checkStmt_at (lv : Value) (labs : List ByteArray) (op : Int) (reg : Bool) (dst src off imm : Int) (tg mp : ByteArray) (r : Int) (w : World) (hT : L1.Wid w ∧ L2.Regs w) (hv : L8.StAt w lv labs) (hm : labs.length ≤ 100000) (h : stE ⟨labs, ⟨op, reg, dst, src, off, imm⟩, tg, mp⟩ = r) :
    Calls Tryd.prog 55 #[.agg (smA lv op reg dst src off imm tg mp)] w fun e w' => e = .returned (.int .i64 r) ∧ Below w.heap.size w w' := by
  obtain ⟨n, hn⟩ : ∃ n, labs.length = n := ⟨_, rfl⟩
  obtain ⟨f, hf⟩ : ∃ f, L3.frm (L3.ix op) = f := ⟨_, rfl⟩
  obtain ⟨c, hcc⟩ : ∃ c, L4.chkF f reg dst src off imm = c := ⟨_, rfl⟩
  obtain ⟨jm, hjm⟩ : ∃ c, L4.jmpF f = c := ⟨_, rfl⟩
  obtain ⟨rf, hrf⟩ : ∃ c, (f == 11) = c := ⟨_, rfl⟩
  rw [stE_eq labs op reg dst src off imm tg mp f c jm rf hf hcc hjm hrf] at h
  have HR := Lib.hid h
  have K3 : Hid ((jm = true ∧ rf = false) ∨ (jm = false ∧ rf = true) ∨ (jm = false ∧ rf = false)) := Lib.hid (by have := kinds3 f; rwa [hjm, hrf] at this)
  have HV := Lib.hid (fun (t : ByteArray) (W : World) (hb : Below w.heap.size w W) (v : Bool) (hv : L2.vd t = v) => L2.valid_at t v W (hT.2.below hb) hv)
  have HC := Lib.hid (fun (W : World) (hb : Below w.heap.size w W) => L4.check_is op reg dst src off imm f c W (L4.wid_below hT.1 hb) hf hcc)
  have HJ := Lib.hid (fun W => L4.jumps_at op reg dst src off imm f jm W hf hjm)
  have HF := Lib.hid (fun W => L4.form_at op f W hf)
  have HRF := Lib.hid hrf
  have HA := Lib.hid (st_form hn hv)
  have HN := Lib.hid hn
  clear hv h hf hcc hjm hrf hn hT
  obtain ⟨a, cap, rfl, hc⟩ := HA.out
  have HD := Lib.hid hc
  clear hc HA
  have hS := heap_alloc_last w (.cells (smA (.slice a n cap) op reg dst src off imm tg mp) 30)
  have hB0 := L8.bnew w (.cells (smA (.slice a n cap) op reg dst src off imm tg mp) 30)
  obtain ⟨g, hg⟩ : ∃ g, g = w.heap.size := ⟨_, rfl⟩
  go_enter Tryd.func55, Tryd.ntmps55
  go_wp2
  rw [← hg] at hS ⊢
  clear hg
  generalize w.alloc (.cells (smA (.slice a n cap) op reg dst src off imm tg mp) 30) = W0 at hS hB0 ⊢
  have HW := Lib.hid (show Below w.heap.size w W0 from hB0)
  clear hB0
  go_loopw [11] (fun i wr => ∃ j : Nat, j ≤ n ∧ i = .int .i64 (j : Int) ∧ Below W0.heap.size W0 wr ∧ Hid ((labs.drop j).all L2.vd = labs.all L2.vd)) (fun i _ => n - (intOf i).toNat)
  case atStart => exact ⟨0, Nat.zero_le _, rfl, Below.refl _ _, Lib.hid rfl⟩
  case round =>
    obtain ⟨j, hj, rfl, hB, hL⟩ := hrel
    by_cases hlt : j < n
    · have hjl : j < labs.length := by rw [HN.out]; exact hlt
      obtain ⟨b, o, rfl, hb, hc⟩ := HD.out (by omega)
      obtain ⟨x, hx⟩ : ∃ x, labs[j] = x := ⟨_, rfl⟩
      have hcx : wr.cell? ⟨b, o + j, none⟩ = some (.string x) := (hB.cell (by exact Nat.lt_of_lt_of_le hb HW.out.size)).trans ((HW.out.cell (by exact hb)).trans (by rw [hc j hjl, hx]))
      have hst : labs.all L2.vd = (L2.vd x && (labs.drop (j + 1)).all L2.vd) := by rw [← hL.out, List.drop_eq_getElem_cons hjl, List.all_cons, hx]
      obtain ⟨v, hv⟩ : ∃ v, L2.vd x = v := ⟨_, rfl⟩
      rw [hv] at hst
      have HVV := Lib.hid (HV.out x wr (L2.bch HW.out hB) v hv)
      have HS := Lib.hid hst
      clear hc hx hst hv hL
      cases v
      · obtain rfl : r = 7 := by rw [← HR.out, HS.out]; rfl
        go_wp2_with (go_at_call 75; ((with_reducible refine (HVV.out).mono ?_); rintro e w1 ⟨rfl, b1⟩))
        go_ret
        exact ⟨rfl, L2.bch HW.out (L2.bch hB b1)⟩
      · go_wp2_with (go_at_call 75; ((with_reducible refine (HVV.out).mono ?_); rintro e w1 ⟨rfl, b1⟩))
        go_roundw
        case rel => exact ⟨j + 1, by omega, by go_num, L2.bch hB b1, Lib.hid (by rw [HS.out]; rfl)⟩
        case measure => simp [intOf]; omega
    · obtain rfl : j = n := by omega
      have hall : labs.all L2.vd = true := by rw [← hL.out, List.drop_eq_nil_of_le (by rw [HN.out]; exact Nat.le_refl _)]; rfl
      have hr := HR.out
      rw [hall, if_pos rfl] at hr
      have hS2 := L8.row_up hS hB
      have B2 := L2.bch HW.out hB
      obtain ⟨x0, x1, x2, x3, x4, x5, x6, x7, x8⟩ := cells9 hS2
      clear hall HR hL HD HN hS
      by_cases hc0 : c = 0
      · subst hc0
        rw [if_pos rfl] at hr
        have HR := Lib.hid hr
        clear hr
        go_upto_region 10 with (go_at_call 78; ((with_reducible refine (HC.out _ B2).mono ?_); rintro e w1 ⟨rfl, b1⟩))
        have X : Bt w w1 g (smA (.slice a j cap) op reg dst src off imm tg mp) := ⟨L2.bch B2 b1, L8.row_up hS2 b1⟩
        have hrf := HRF.out
        clear hS2 x0 x1 x2 x3 x4 x5 x6 x7 x8 HC
        go_region_held3 (fun W => Bt w W g (smA (.slice a j cap) op reg dst src off imm tg mp) ∧ W.cell? ⟨g, 0, none⟩ = some (.slice a j cap) ∧ W.cell? ⟨g, 1, none⟩ = some (.int .i64 op) ∧ W.cell? ⟨g, 2, none⟩ = some (.bool reg) ∧ W.cell? ⟨g, 3, none⟩ = some (.int .i64 dst) ∧ W.cell? ⟨g, 4, none⟩ = some (.int .i64 src) ∧ W.cell? ⟨g, 5, none⟩ = some (.int .i64 off) ∧ W.cell? ⟨g, 6, none⟩ = some (.int .i64 imm) ∧ W.cell? ⟨g, 7, none⟩ = some (.string tg) ∧ W.cell? ⟨g, 8, none⟩ = some (.string mp))
          (first | exact keepB (Below.refl _ _).drew X | exact keepC hb9 (by assumption) | assumption)
          (first | (go_at_call 79; ((with_reducible refine (HJ.out _).mono ?_); rintro e w9 ⟨rfl, hb9⟩)) | (go_at_call 26; ((with_reducible refine (HF.out _).mono ?_); rintro e w9 ⟨rfl, hb9⟩)))
        all_goals
          rename_i hh
          obtain ⟨X2, y0, y1, y2, y3, y4, y5, y6, y7, y8⟩ := hh
          have HV2 := Lib.hid (fun (t : ByteArray) (v : Bool) (hv : L2.vd t = v) => HV.out t _ X2.1 v hv)
          have HX := Lib.hid X2.1
          clear X2 X HJ HF hrf HRF HV
          rcases K3.out with ⟨rfl, rfl⟩ | ⟨rfl, rfl⟩ | ⟨rfl, rfl⟩
          · by_cases ho : off = 0
            · subst ho
              cases hme : mp.toList.isEmpty
              · obtain rfl : r = 12 := by rw [← HR.out]; simp [hme]
                clear HR
                go_wp2
                go_ret
                exact ⟨rfl, HX.out⟩
              · obtain ⟨v, hv⟩ : ∃ v, L2.vd tg = v := ⟨_, rfl⟩
                have HVV := Lib.hid (HV2.out tg v hv)
                cases v
                · obtain rfl : r = 7 := by rw [← HR.out]; simp [hme, hv]
                  clear HR hv
                  go_wp2_with (go_at_call 75; ((with_reducible refine (HVV.out).mono ?_); rintro e w2 ⟨rfl, b2⟩))
                  go_ret
                  exact ⟨rfl, L2.bch HX.out b2⟩
                · obtain rfl : r = 0 := by rw [← HR.out]; simp [hme, hv]
                  clear HR hv
                  go_wp2_with (go_at_call 75; ((with_reducible refine (HVV.out).mono ?_); rintro e w2 ⟨rfl, b2⟩))
                  go_ret
                  exact ⟨rfl, L2.bch HX.out b2⟩
            · obtain rfl : r = 12 := by rw [← HR.out]; simp [ho]
              clear HR
              go_wp2
              go_ret
              exact ⟨rfl, HX.out⟩
          · by_cases ho : imm = 0
            · subst ho
              cases hme : tg.toList.isEmpty
              · obtain rfl : r = 12 := by rw [← HR.out]; simp [hme]
                clear HR
                go_wp2
                go_ret
                exact ⟨rfl, HX.out⟩
              · obtain ⟨v, hv⟩ : ∃ v, L2.vd mp = v := ⟨_, rfl⟩
                have HVV := Lib.hid (HV2.out mp v hv)
                cases v
                · obtain rfl : r = 7 := by rw [← HR.out]; simp [hme, hv]
                  clear HR hv
                  go_wp2_with (go_at_call 75; ((with_reducible refine (HVV.out).mono ?_); rintro e w2 ⟨rfl, b2⟩))
                  go_ret
                  exact ⟨rfl, L2.bch HX.out b2⟩
                · obtain rfl : r = 0 := by rw [← HR.out]; simp [hme, hv]
                  clear HR hv
                  go_wp2_with (go_at_call 75; ((with_reducible refine (HVV.out).mono ?_); rintro e w2 ⟨rfl, b2⟩))
                  go_ret
                  exact ⟨rfl, L2.bch HX.out b2⟩
            · obtain rfl : r = 12 := by rw [← HR.out]; simp [ho]
              clear HR
              go_wp2
              go_ret
              exact ⟨rfl, HX.out⟩
          · cases hte : tg.toList.isEmpty
            · obtain rfl : r = 12 := by rw [← HR.out]; simp [hte]
              clear HR
              go_wp2
              go_ret
              exact ⟨rfl, HX.out⟩
            · cases hme : mp.toList.isEmpty
              · obtain rfl : r = 12 := by rw [← HR.out]; simp [hte, hme]
                clear HR
                go_wp2
                go_ret
                exact ⟨rfl, HX.out⟩
              · obtain rfl : r = 0 := by rw [← HR.out]; simp [hte, hme]
                clear HR
                go_wp2
                go_ret
                exact ⟨rfl, HX.out⟩
      · rw [if_neg hc0] at hr
        subst hr
        go_wp2_with (go_at_call 78; ((with_reducible refine (HC.out _ B2).mono ?_); rintro e w1 ⟨rfl, b1⟩))
        go_ret
        exact ⟨rfl, L2.bch B2 b1⟩
end Go.Proofs.YtbneaihpnfkcdaaDoor.L10
