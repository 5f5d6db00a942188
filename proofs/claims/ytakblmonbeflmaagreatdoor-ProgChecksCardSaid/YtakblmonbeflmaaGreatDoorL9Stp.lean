/- What the program's reader does at each kind of operand. Condition: memory holds the reader and its tokens, a word is left, and the tables read as the program's text lays them. -/
import Derived.Test.YtakblmonbeflmaaGreatDoorL9Nxt
namespace Go.Proofs.YtakblmonbeflmaaGreatDoor.L9
open Go.RowKit
attribute [local go_sem] Oper.semAt_some

/-- The tables as the program's text lays them. -/
def Tab (w : World) : Prop := L1.Wid w ∧ L2.Regs w
theorem Tab.wid {w : World} (h : Tab w) : L1.Wid w := h.1
theorem Tab.reg {w : World} (h : Tab w) : L2.Regs w := h.2
theorem Tab.gr {w w' : World} {g : Nat} (h : Tab w) (hg : w.grownBy w' (some g)) (h2 : 3 ≤ g) : Tab w' := by
  obtain ⟨⟨t, fr, h0⟩, ⟨t', fr', h1⟩⟩ := h
  exact ⟨⟨t, fr, (hg.block _ (lt_of_block h0) (by simp; omega)).trans h0⟩, ⟨t', fr', (hg.block _ (lt_of_block h1) (by simp; omega)).trans h1⟩⟩
theorem Tab.below {w w' : World} {B : Nat} (h : Tab w) (hb : Below B w w') (hB : 3 ≤ B) : Tab w' := by
  obtain ⟨⟨t, fr, h0⟩, ⟨t', fr', h1⟩⟩ := h
  exact ⟨⟨t, fr, (hb.block _ (by omega)).trans h0⟩, ⟨t', fr', (hb.block _ (by omega)).trans h1⟩⟩
theorem Tab.lt {w : World} (h : Tab w) : 3 ≤ w.heap.size := by
  obtain ⟨⟨t, fr, h0⟩, ⟨t', fr', h1⟩⟩ := h
  have := lt_of_block h0
  have := lt_of_block h1
  omega
theorem rd_row {B g : Nat} {w : World} {s : St} (h : RdAt B g w s) : ∃ v, w.heap[g]? = some (.cells (rdC v s.x s.tg s.mp) 166) := by
  obtain ⟨b, o, n, cap, xs, _, _, _, _, _, _, _, _, hr⟩ := h
  exact ⟨_, hr⟩
theorem rd_fz {B g : Nat} {w : World} {s : St} (h : RdAt B g w s) (i : Nat) : w.frozen? ⟨g, i, none⟩ = false := by
  obtain ⟨v, hr⟩ := rd_row h
  exact frozen_all hr i
/-- A store into a field of a reader. -/
theorem rd_set {B g : Nat} {w : World} {s s' : St} (h : RdAt B g w s) (i : Nat) (u : Value) (e : ∀ v, (rdC v s.x s.tg s.mp).setIfInBounds i u = rdC v s'.x s'.tg s'.mp) (hs : s'.rest = s.rest) : RdAt B g (w.setCell ⟨g, i, none⟩ u) s' := by
  obtain ⟨b, o, n, cap, xs, hbB, hBg, hcp, hn, hm, htx, hsz, hc, hr⟩ := h
  refine ⟨b, o, n, cap, xs, hbB, hBg, hcp, hn, hm, htx.trans hs.symm, by rw [hs]; exact hsz, fun j hj => ?_, ?_⟩
  · have hbl : ∀ i', (w.setCell ⟨g, i, none⟩ u).cell? ⟨b, i', none⟩ = w.cell? ⟨b, i', none⟩ := fun i' => World.cell?_of_block (Below.heap_setCell _ _ _ _ (by show b ≠ g; omega))
    rw [hbl, hbl]
    exact hc j hj
  · rw [← e]; exact row_set hr i u
theorem rd_gr {B g : Nat} {w w' : World} {s : St} (h : RdAt B g w s) (hg : Below w.heap.size w w') : RdAt B g w' s := by
  obtain ⟨b, o, n, cap, xs, hbB, hBg, hcp, hn, hm, htx, hsz, hc, hr⟩ := h
  have hgl := lt_of_block hr
  exact ⟨b, o, n, cap, xs, hbB, hBg, hcp, hn, hm, htx, hsz, hc.below (by omega) hg, (hg.block g hgl).trans hr⟩
theorem rd_B {B g : Nat} {w : World} {s : St} (h : RdAt B g w s) : B ≤ g := by
  obtain ⟨b, o, n, cap, xs, hbB, hBg, _⟩ := h
  exact hBg
theorem nx_size (l : List ByteArray) (h : ∀ t ∈ l, t.size ≤ 100000) : (nx eB l).1.size ≤ 100001 ∧ (∀ t ∈ (nx eB l).2, t.size ≤ 100000) := by
  have H : ∀ (l : List ByteArray) (sg : ByteArray), sg.size ≤ 1 → (∀ t ∈ l, t.size ≤ 100000) → (nx sg l).1.size ≤ 100001 ∧ (∀ t ∈ (nx sg l).2, t.size ≤ 100000) := by
    intro l
    induction l with
    | nil => intro sg _ _; exact ⟨by show (0 : Nat) ≤ _; omega, fun t ht => by simp [nx] at ht⟩
    | cons t r ih =>
      intro sg hs h
      unfold nx
      split
      · refine ih _ ?_ fun t ht => h t (List.mem_cons_of_mem _ ht)
        split
        · decide
        · exact hs
      · have := h t (by simp)
        exact ⟨by rw [ByteArray.size_append]; omega, fun t ht => h t (List.mem_cons_of_mem _ ht)⟩
  exact H l eB (by decide) h

theorem identifier_at (t : ByteArray) (w : World) (hR : L2.Regs w) (u : ByteArray) (x : Int) (hu : (if L2.vd t then t else eB) = u) (hx : naV t = x) :
    Calls Tryz.prog 110 #[.string t] w fun e w' => e = .returned (.tuple #[.string u, .int .i64 x]) ∧ Below w.heap.size w w' := by
  obtain ⟨b, hb⟩ : ∃ b, L2.vd t = b := ⟨_, rfl⟩
  have HV := Lib.hid (L2.valid_at t b w hR hb)
  unfold naV at hx
  rw [hb] at hu hx
  clear hb hR
  cases b
  · obtain rfl : u = ⟨#[]⟩ := hu.symm
    obtain rfl : x = 7 := hx.symm
    clear hu hx
    go_enter Tryz.func110, Tryz.ntmps110
    go_wp2_with (go_at_call 91; ((with_reducible refine (HV.out).mono ?_); rintro e w1 ⟨rfl, hb1⟩))
    go_ret2
    exact ⟨rfl, hb1⟩
  · obtain rfl : u = t := hu.symm
    obtain rfl : x = 0 := hx.symm
    clear hu hx
    go_enter Tryz.func110, Tryz.ntmps110
    go_wp2_with (go_at_call 91; ((with_reducible refine (HV.out).mono ?_); rintro e w1 ⟨rfl, hb1⟩))
    go_ret2
    exact ⟨rfl, hb1⟩
theorem preg_at (t : ByteArray) (w : World) (hR : L2.Regs w) (v x : Int) (h1 : (reV t).1 = v) (h2 : (reV t).2 = x) :
    Calls Tryz.prog 156 #[.string t] w fun e w' => e = .returned (.tuple #[.int .i64 v, .int .i64 x]) ∧ w = w' := by
  subst h1 h2
  unfold reV
  obtain ⟨b, hb⟩ : ∃ b, (L2.rg t).2 = b := ⟨_, rfl⟩
  obtain ⟨n, hn⟩ : ∃ n : Int, ((L2.rg t).1 : Int) = n := ⟨_, rfl⟩
  have HP := Lib.hid (L2.register_at t n b w hR hn hb)
  rw [hb, hn]
  clear hb hn hR
  cases b
  · go_enter Tryz.func156, Tryz.ntmps156
    go_wp2_with (go_at_call 114; ((with_reducible refine (HP.out).mono ?_); rintro e w1 ⟨rfl, rfl⟩))
    go_ret2
    exact ⟨rfl, rfl⟩
  · go_enter Tryz.func156, Tryz.ntmps156
    go_wp2_with (go_at_call 114; ((with_reducible refine (HP.out).mono ?_); rintro e w1 ⟨rfl, rfl⟩))
    go_ret2
    exact ⟨rfl, rfl⟩
theorem pnum_at (t : ByteArray) (b : Int) (w : World) (hW : L1.Wid w) (v x : Int) (h1 : (nuV t b).1 = v) (h2 : (nuV t b).2 = x) :
    Calls Tryz.prog 122 #[.string t, .int .i64 b] w fun e w' => e = .returned (.tuple #[.int .i64 v, .int .i64 x]) ∧ Below w.heap.size w w' := by
  subst h1 h2
  exact L1.parse_any t b w hW

abbrev StpP (B g : Nat) (k : Rk) (s : St) (w : World) (e : Ending) (w' : World) : Prop := e = .returned (.int .i64 (stp k s).2) ∧ RdAt B g w' (stp k s).1 ∧ w.grownBy w' (some g)
set_option maxHeartbeats 1000000 in
set_option maxRecDepth 100000 in
theorem dst_at (B g : Nat) (s : St) (w : World) (h : RdAt B g w s) (hk : okS .dst s = true) (hT : Tab w) (h2 : 3 ≤ B) : Calls Tryz.prog 144 #[.pointer (some ⟨g, 0, none⟩)] w fun e w' => StpP B g .dst s w e w' := by
  obtain ⟨p, q, hp⟩ : ∃ p q, nx eB s.rest = (p, q) := ⟨_, _, rfl⟩
  obtain ⟨v, hv⟩ : ∃ v, (reV p).1 = v := ⟨_, rfl⟩
  obtain ⟨x, hx⟩ : ∃ x, (reV p).2 = x := ⟨_, rfl⟩
  have e0 : stp .dst s = (⟨q, { s.x with dst := v }, s.tg, s.mp⟩, x) := by simp only [stp, hp, hv, hx]
  have hBg := rd_B h
  have HNX := Lib.hid (next_at B g s w h hk p q hp)
  have HRG := Lib.hid (fun W (hR : L2.Regs W) => preg_at p W hR v x hv hx)
  have HT := Lib.hid hT
  unfold StpP
  rw [e0]
  clear hp hv hx e0 hk h hT
  go_enter Tryz.func144, Tryz.ntmps144
  go_wp2_with (first | (go_at_call 157; ((with_reducible refine (HNX.out).mono ?_); rintro e w1 ⟨rfl, hr1, hg1⟩; obtain ⟨vv, hrw⟩ := rd_row hr1; obtain ⟨r0, r1, r2, r3, r4, r5, r6, r7, r8⟩ := cells9 hrw; have fz := frozen_all hrw 3; clear hrw r0 r1 r2 r4 r5 r6 r7 r8)) | (go_at_call 156; ((with_reducible refine (HRG.out _ (HT.out.gr hg1 (by omega)).reg).mono ?_); rintro e w2 ⟨rfl, rfl⟩)))
  go_ret
  exact ⟨rfl, rd_set hr1 3 _ (fun _ => rfl) rfl, gr_set hg1 3 _⟩
set_option maxHeartbeats 1000000 in
set_option maxRecDepth 100000 in
theorem src_at (B g : Nat) (s : St) (w : World) (h : RdAt B g w s) (hk : okS .src s = true) (hT : Tab w) (h2 : 3 ≤ B) : Calls Tryz.prog 146 #[.pointer (some ⟨g, 0, none⟩)] w fun e w' => StpP B g .src s w e w' := by
  obtain ⟨p, q, hp⟩ : ∃ p q, nx eB s.rest = (p, q) := ⟨_, _, rfl⟩
  obtain ⟨v, hv⟩ : ∃ v, (reV p).1 = v := ⟨_, rfl⟩
  obtain ⟨x, hx⟩ : ∃ x, (reV p).2 = x := ⟨_, rfl⟩
  have e0 : stp .src s = (⟨q, { s.x with src := v }, s.tg, s.mp⟩, x) := by simp only [stp, hp, hv, hx]
  have hBg := rd_B h
  have HNX := Lib.hid (next_at B g s w h hk p q hp)
  have HRG := Lib.hid (fun W (hR : L2.Regs W) => preg_at p W hR v x hv hx)
  have HT := Lib.hid hT
  unfold StpP
  rw [e0]
  clear hp hv hx e0 hk h hT
  go_enter Tryz.func146, Tryz.ntmps146
  go_wp2_with (first | (go_at_call 157; ((with_reducible refine (HNX.out).mono ?_); rintro e w1 ⟨rfl, hr1, hg1⟩; obtain ⟨vv, hrw⟩ := rd_row hr1; obtain ⟨r0, r1, r2, r3, r4, r5, r6, r7, r8⟩ := cells9 hrw; have fz := frozen_all hrw 4; clear hrw r0 r1 r2 r3 r5 r6 r7 r8)) | (go_at_call 156; ((with_reducible refine (HRG.out _ (HT.out.gr hg1 (by omega)).reg).mono ?_); rintro e w2 ⟨rfl, rfl⟩)))
  go_ret
  exact ⟨rfl, rd_set hr1 4 _ (fun _ => rfl) rfl, gr_set hg1 4 _⟩
set_option maxHeartbeats 1000000 in
set_option maxRecDepth 100000 in
theorem tgt_at (B g : Nat) (s : St) (w : World) (h : RdAt B g w s) (hk : okS .tgt s = true) (hT : Tab w) (h2 : 3 ≤ B) : Calls Tryz.prog 147 #[.pointer (some ⟨g, 0, none⟩)] w fun e w' => StpP B g .tgt s w e w' := by
  obtain ⟨p, q, hp⟩ : ∃ p q, nx eB s.rest = (p, q) := ⟨_, _, rfl⟩
  obtain ⟨u, hu⟩ : ∃ u, (if L2.vd p then p else eB) = u := ⟨_, rfl⟩
  obtain ⟨x, hx⟩ : ∃ x, naV p = x := ⟨_, rfl⟩
  have e0 : stp .tgt s = (⟨q, s.x, u, s.mp⟩, x) := by simp only [stp, hp, hu, hx]
  have hBg := rd_B h
  have HNX := Lib.hid (next_at B g s w h hk p q hp)
  have HID := Lib.hid (fun W (hR : L2.Regs W) => identifier_at p W hR u x hu hx)
  have HT := Lib.hid hT
  unfold StpP
  rw [e0]
  clear hp hu hx e0 hk h hT
  go_enter Tryz.func147, Tryz.ntmps147
  go_wp2_with (first | (go_at_call 157; ((with_reducible refine (HNX.out).mono ?_); rintro e w1 ⟨rfl, hr1, hg1⟩)) | (go_at_call 110; ((with_reducible refine (HID.out _ (HT.out.gr hg1 (by omega)).reg).mono ?_); rintro e w2 ⟨rfl, hb2⟩; have hr2 := rd_gr hr1 hb2; obtain ⟨vv, hrw⟩ := rd_row hr2; obtain ⟨r0, r1, r2, r3, r4, r5, r6, r7, r8⟩ := cells9 hrw; have fz := frozen_all hrw 7; clear hrw r0 r1 r2 r3 r4 r5 r6 r8)))
  go_ret
  exact ⟨rfl, rd_set hr2 7 _ (fun _ => rfl) rfl, gr_set (gr_trans hg1 (gr_below hb2)) 7 _⟩
set_option maxHeartbeats 1000000 in
set_option maxRecDepth 100000 in
theorem mpn_at (B g : Nat) (s : St) (w : World) (h : RdAt B g w s) (hk : okS .mpn s = true) (hT : Tab w) (h2 : 3 ≤ B) : Calls Tryz.prog 152 #[.pointer (some ⟨g, 0, none⟩)] w fun e w' => StpP B g .mpn s w e w' := by
  obtain ⟨p, q, hp⟩ : ∃ p q, nx eB s.rest = (p, q) := ⟨_, _, rfl⟩
  obtain ⟨u, hu⟩ : ∃ u, (if L2.vd p then p else eB) = u := ⟨_, rfl⟩
  obtain ⟨x, hx⟩ : ∃ x, naV p = x := ⟨_, rfl⟩
  have e0 : stp .mpn s = (⟨q, s.x, s.tg, u⟩, x) := by simp only [stp, hp, hu, hx]
  have hBg := rd_B h
  have HNX := Lib.hid (next_at B g s w h hk p q hp)
  have HID := Lib.hid (fun W (hR : L2.Regs W) => identifier_at p W hR u x hu hx)
  have HT := Lib.hid hT
  unfold StpP
  rw [e0]
  clear hp hu hx e0 hk h hT
  go_enter Tryz.func152, Tryz.ntmps152
  go_wp2_with (first | (go_at_call 157; ((with_reducible refine (HNX.out).mono ?_); rintro e w1 ⟨rfl, hr1, hg1⟩)) | (go_at_call 110; ((with_reducible refine (HID.out _ (HT.out.gr hg1 (by omega)).reg).mono ?_); rintro e w2 ⟨rfl, hb2⟩; have hr2 := rd_gr hr1 hb2; obtain ⟨vv, hrw⟩ := rd_row hr2; obtain ⟨r0, r1, r2, r3, r4, r5, r6, r7, r8⟩ := cells9 hrw; have fz := frozen_all hrw 8; clear hrw r0 r1 r2 r3 r4 r5 r6 r7)))
  go_ret
  exact ⟨rfl, rd_set hr2 8 _ (fun _ => rfl) rfl, gr_set (gr_trans hg1 (gr_below hb2)) 8 _⟩
set_option maxHeartbeats 1000000 in
set_option maxRecDepth 100000 in
theorem immed_at (B g : Nat) (s : St) (w : World) (h : RdAt B g w s) (hT : Tab w) (t : ByteArray) (b v x : Int) (hv : (nuV t b).1 = v) (hx : (nuV t b).2 = x) : Calls Tryz.prog 158 #[.pointer (some ⟨g, 0, none⟩), .string t, .int .i64 b] w fun e w' => e = .returned (.int .i64 x) ∧ RdAt B g w' ⟨s.rest, { s.x with imm := v }, s.tg, s.mp⟩ ∧ w.grownBy w' (some g) := by
  have HN := Lib.hid (pnum_at t b w hT.1 v x hv hx)
  clear hv hx hT
  go_enter Tryz.func158, Tryz.ntmps158
  go_wp2_with (go_at_call 122; ((with_reducible refine (HN.out).mono ?_); rintro e w2 ⟨rfl, hb2⟩; have hr2 := rd_gr h hb2; obtain ⟨vv, hrw⟩ := rd_row hr2; obtain ⟨r0, r1, r2, r3, r4, r5, r6, r7, r8⟩ := cells9 hrw; have fz := frozen_all hrw 6; clear hrw r0 r1 r2 r3 r4 r5 r7 r8))
  go_ret
  exact ⟨rfl, rd_set hr2 6 _ (fun _ => rfl) rfl, gr_set (gr_below hb2) 6 _⟩
set_option maxHeartbeats 1000000 in
set_option maxRecDepth 100000 in
theorem i32_at (B g : Nat) (s : St) (w : World) (h : RdAt B g w s) (hk : okS .i32 s = true) (hT : Tab w) (h2 : 3 ≤ B) : Calls Tryz.prog 150 #[.pointer (some ⟨g, 0, none⟩)] w fun e w' => StpP B g .i32 s w e w' := by
  obtain ⟨p, q, hp⟩ : ∃ p q, nx eB s.rest = (p, q) := ⟨_, _, rfl⟩
  obtain ⟨v, hv⟩ : ∃ v, (nuV p 32).1 = v := ⟨_, rfl⟩
  obtain ⟨x, hx⟩ : ∃ x, (nuV p 32).2 = x := ⟨_, rfl⟩
  have e0 : stp .i32 s = (⟨q, { s.x with imm := v }, s.tg, s.mp⟩, x) := by simp only [stp, hp, hv, hx]
  have hBg := rd_B h
  have HNX := Lib.hid (next_at B g s w h hk p q hp)
  have HIM := Lib.hid (fun W (hr : RdAt B g W ⟨q, s.x, s.tg, s.mp⟩) (hT : Tab W) => immed_at B g _ W hr hT p 32 v x hv hx)
  have HT := Lib.hid hT
  unfold StpP
  rw [e0]
  clear hp hv hx e0 hk h hT
  go_enter Tryz.func150, Tryz.ntmps150
  go_wp2_with (first | (go_at_call 157; ((with_reducible refine (HNX.out).mono ?_); rintro e w1 ⟨rfl, hr1, hg1⟩)) | (go_at_call 158; ((with_reducible refine (HIM.out _ hr1 (HT.out.gr hg1 (by omega))).mono ?_); rintro e w2 ⟨rfl, hr2, hg2⟩)))
  go_ret
  exact ⟨rfl, hr2, gr_trans hg1 hg2⟩
set_option maxHeartbeats 1000000 in
set_option maxRecDepth 100000 in
theorem i64_at (B g : Nat) (s : St) (w : World) (h : RdAt B g w s) (hk : okS .i64 s = true) (hT : Tab w) (h2 : 3 ≤ B) : Calls Tryz.prog 151 #[.pointer (some ⟨g, 0, none⟩)] w fun e w' => StpP B g .i64 s w e w' := by
  obtain ⟨p, q, hp⟩ : ∃ p q, nx eB s.rest = (p, q) := ⟨_, _, rfl⟩
  obtain ⟨v, hv⟩ : ∃ v, (nuV p 64).1 = v := ⟨_, rfl⟩
  obtain ⟨x, hx⟩ : ∃ x, (nuV p 64).2 = x := ⟨_, rfl⟩
  have e0 : stp .i64 s = (⟨q, { s.x with imm := v }, s.tg, s.mp⟩, x) := by simp only [stp, hp, hv, hx]
  have hBg := rd_B h
  have HNX := Lib.hid (next_at B g s w h hk p q hp)
  have HIM := Lib.hid (fun W (hr : RdAt B g W ⟨q, s.x, s.tg, s.mp⟩) (hT : Tab W) => immed_at B g _ W hr hT p 64 v x hv hx)
  have HT := Lib.hid hT
  unfold StpP
  rw [e0]
  clear hp hv hx e0 hk h hT
  go_enter Tryz.func151, Tryz.ntmps151
  go_wp2_with (first | (go_at_call 157; ((with_reducible refine (HNX.out).mono ?_); rintro e w1 ⟨rfl, hr1, hg1⟩)) | (go_at_call 158; ((with_reducible refine (HIM.out _ hr1 (HT.out.gr hg1 (by omega))).mono ?_); rintro e w2 ⟨rfl, hr2, hg2⟩)))
  go_ret
  exact ⟨rfl, hr2, gr_trans hg1 hg2⟩
set_option maxHeartbeats 1000000 in
set_option maxRecDepth 100000 in
theorem sec_at (B g : Nat) (s : St) (w : World) (h : RdAt B g w s) (hk : okS .sec s = true) (hT : Tab w) (h2 : 3 ≤ B) : Calls Tryz.prog 145 #[.pointer (some ⟨g, 0, none⟩)] w fun e w' => StpP B g .sec s w e w' := by
  obtain ⟨p, q, hp⟩ : ∃ p q, nx eB s.rest = (p, q) := ⟨_, _, rfl⟩
  have hBg := rd_B h
  have HNX := Lib.hid (next_at B g s w h hk p q hp)
  have HT := Lib.hid hT
  unfold StpP
  obtain ⟨n, hn⟩ : ∃ n : Int, ((L2.rg p).1 : Int) = n := ⟨_, rfl⟩
  cases hb : (L2.rg p).2
  · obtain ⟨v, hv⟩ : ∃ v, (nuV p 32).1 = v := ⟨_, rfl⟩
    obtain ⟨x, hx⟩ : ∃ x, (nuV p 32).2 = x := ⟨_, rfl⟩
    have e0 : stp .sec s = (⟨q, { s.x with imm := v }, s.tg, s.mp⟩, x) := by simp only [stp, hp, seV, hb, hv, hx]; rfl
    have HRG := Lib.hid (fun W (hR : L2.Regs W) => L2.register_at p n false W hR hn hb)
    have HIM := Lib.hid (fun W (hr : RdAt B g W ⟨q, s.x, s.tg, s.mp⟩) (hT : Tab W) => immed_at B g _ W hr hT p 32 v x hv hx)
    rw [e0]
    clear hp hv hx e0 hk h hT hn hb
    go_enter Tryz.func145, Tryz.ntmps145
    go_wp2_with (first | (go_at_call 157; ((with_reducible refine (HNX.out).mono ?_); rintro e w1 ⟨rfl, hr1, hg1⟩)) | (go_at_call 114; ((with_reducible refine (HRG.out _ (HT.out.gr hg1 (by omega)).reg).mono ?_); rintro e w2 ⟨rfl, rfl⟩)) | (go_at_call 158; ((with_reducible refine (HIM.out _ hr1 (HT.out.gr hg1 (by omega))).mono ?_); rintro e w2 ⟨rfl, hr2, hg2⟩)))
    go_ret
    exact ⟨rfl, hr2, gr_trans hg1 hg2⟩
  · have e0 : stp .sec s = (⟨q, { s.x with reg := true, src := n }, s.tg, s.mp⟩, 0) := by simp only [stp, hp, seV, hb, hn]; rfl
    have HRG := Lib.hid (fun W (hR : L2.Regs W) => L2.register_at p n true W hR hn hb)
    rw [e0]
    clear hp e0 hk h hT hn hb
    go_enter Tryz.func145, Tryz.ntmps145
    go_wp2_with (first | (go_at_call 157; ((with_reducible refine (HNX.out).mono ?_); rintro e w1 ⟨rfl, hr1, hg1⟩; obtain ⟨vv, hrw⟩ := rd_row hr1; obtain ⟨r0, r1, r2, r3, r4, r5, r6, r7, r8⟩ := cells9 hrw; have fy := frozen_all hrw 4; have fz := frozen_all hrw 2; clear hrw r0 r1 r3 r5 r6 r7 r8)) | (go_at_call 114; ((with_reducible refine (HRG.out _ (HT.out.gr hg1 (by omega)).reg).mono ?_); rintro e w2 ⟨rfl, rfl⟩)))
    go_ret
    exact ⟨rfl, rd_set (s' := ⟨q, { s.x with reg := true, src := n }, s.tg, s.mp⟩) (rd_set (s' := ⟨q, { s.x with reg := true }, s.tg, s.mp⟩) hr1 2 _ (fun _ => rfl) rfl) 4 _ (fun _ => rfl) rfl, gr_set (gr_set hg1 2 _) 4 _⟩
theorem heV_four (p : ByteArray) : (heV p = 0 ∧ (p.toList == [108, 111, 111, 107, 117, 112]) = false ∧ (p.toList == [117, 112, 100, 97, 116, 101]) = false ∧ (p.toList == [100, 101, 108, 101, 116, 101]) = false) ∨ (heV p = 1 ∧ (p.toList == [108, 111, 111, 107, 117, 112]) = true) ∨ (heV p = 2 ∧ (p.toList == [108, 111, 111, 107, 117, 112]) = false ∧ (p.toList == [117, 112, 100, 97, 116, 101]) = true) ∨ (heV p = 3 ∧ (p.toList == [108, 111, 111, 107, 117, 112]) = false ∧ (p.toList == [117, 112, 100, 97, 116, 101]) = false ∧ (p.toList == [100, 101, 108, 101, 116, 101]) = true) := by
  unfold heV
  by_cases h1 : p = ⟨#[108, 111, 111, 107, 117, 112]⟩
  · rw [if_pos h1]; exact .inr (.inl ⟨rfl, eqb h1⟩)
  rw [if_neg h1]
  by_cases h2 : p = ⟨#[117, 112, 100, 97, 116, 101]⟩
  · rw [if_pos h2]; exact .inr (.inr (.inl ⟨rfl, beqt_ne h1, eqb h2⟩))
  rw [if_neg h2]
  by_cases h3 : p = ⟨#[100, 101, 108, 101, 116, 101]⟩
  · rw [if_pos h3]; exact .inr (.inr (.inr ⟨rfl, beqt_ne h1, beqt_ne h2, eqb h3⟩))
  rw [if_neg h3]
  exact .inl ⟨rfl, beqt_ne h1, beqt_ne h2, beqt_ne h3⟩
set_option maxHeartbeats 1000000 in
set_option maxRecDepth 100000 in
theorem hlp_at (B g : Nat) (s : St) (w : World) (h : RdAt B g w s) (hk : okS .hlp s = true) : Calls Tryz.prog 148 #[.pointer (some ⟨g, 0, none⟩)] w fun e w' => StpP B g .hlp s w e w' := by
  obtain ⟨p, q, hp⟩ : ∃ p q, nx eB s.rest = (p, q) := ⟨_, _, rfl⟩
  have HNX := Lib.hid (next_at B g s w h hk p q hp)
  unfold StpP
  rcases heV_four p with ⟨hv, t1, t2, t3⟩ | ⟨hv, t1⟩ | ⟨hv, t1, t2⟩ | ⟨hv, t1, t2, t3⟩
  · have e0 : stp .hlp s = (⟨q, s.x, s.tg, s.mp⟩, 7) := by simp only [stp, hp, hv]; rfl
    rw [e0]
    clear hp hv e0 hk h
    go_enter Tryz.func148, Tryz.ntmps148
    go_wp2_with (go_at_call 157; ((with_reducible refine (HNX.out).mono ?_); rintro e w1 ⟨rfl, hr1, hg1⟩))
    go_ret
    exact ⟨rfl, hr1, hg1⟩
  · have e0 : stp .hlp s = (⟨q, { s.x with imm := 1 }, s.tg, s.mp⟩, 0) := by simp only [stp, hp, hv]; rfl
    rw [e0]
    clear hp hv e0 hk h
    go_enter Tryz.func148, Tryz.ntmps148
    go_wp2_with (go_at_call 157; ((with_reducible refine (HNX.out).mono ?_); rintro e w1 ⟨rfl, hr1, hg1⟩; obtain ⟨vv, hrw⟩ := rd_row hr1; obtain ⟨r0, r1, r2, r3, r4, r5, r6, r7, r8⟩ := cells9 hrw; have fz := frozen_all hrw 6; clear hrw r0 r1 r2 r3 r4 r5 r7 r8))
    go_ret
    exact ⟨rfl, rd_set hr1 6 _ (fun _ => rfl) rfl, gr_set hg1 6 _⟩
  · have e0 : stp .hlp s = (⟨q, { s.x with imm := 2 }, s.tg, s.mp⟩, 0) := by simp only [stp, hp, hv]; rfl
    rw [e0]
    clear hp hv e0 hk h
    go_enter Tryz.func148, Tryz.ntmps148
    go_wp2_with (go_at_call 157; ((with_reducible refine (HNX.out).mono ?_); rintro e w1 ⟨rfl, hr1, hg1⟩; obtain ⟨vv, hrw⟩ := rd_row hr1; obtain ⟨r0, r1, r2, r3, r4, r5, r6, r7, r8⟩ := cells9 hrw; have fz := frozen_all hrw 6; clear hrw r0 r1 r2 r3 r4 r5 r7 r8))
    go_ret
    exact ⟨rfl, rd_set hr1 6 _ (fun _ => rfl) rfl, gr_set hg1 6 _⟩
  · have e0 : stp .hlp s = (⟨q, { s.x with imm := 3 }, s.tg, s.mp⟩, 0) := by simp only [stp, hp, hv]; rfl
    rw [e0]
    clear hp hv e0 hk h
    go_enter Tryz.func148, Tryz.ntmps148
    go_wp2_with (go_at_call 157; ((with_reducible refine (HNX.out).mono ?_); rintro e w1 ⟨rfl, hr1, hg1⟩; obtain ⟨vv, hrw⟩ := rd_row hr1; obtain ⟨r0, r1, r2, r3, r4, r5, r6, r7, r8⟩ := cells9 hrw; have fz := frozen_all hrw 6; clear hrw r0 r1 r2 r3 r4 r5 r7 r8))
    go_ret
    exact ⟨rfl, rd_set hr1 6 _ (fun _ => rfl) rfl, gr_set hg1 6 _⟩
theorem head_tok {B g : Nat} {w : World} {s : St} (h : RdAt B g w s) (h0 : s.rest ≠ []) : ∃ (b o n cap : Nat) (T : ByteArray), w.heap[g]? = some (.cells (rdC (.slice (some ⟨b, o, none⟩) n cap) s.x s.tg s.mp) 166) ∧ 0 < n ∧ w.cell? ⟨b, o, none⟩ = some (.string T) ∧ s.rest.head? = some T := by
  obtain ⟨b, o, n, cap, xs, hbB, hBg, hcp, hn, hm, htx, hsz, hc, hr⟩ := h
  cases xs with
  | nil => exact absurd htx.symm h0
  | cons x r =>
    refine ⟨b, o, n, cap, x.1, hr, by rw [← hn]; simp, ?_, by rw [← htx]; rfl⟩
    have := (hc 0 (by simp)).1
    simpa using this
set_option maxHeartbeats 1000000 in
set_option maxRecDepth 100000 in
theorem off_at (B g : Nat) (s : St) (w : World) (h : RdAt B g w s) (hk : okS .off s = true) (hT : Tab w) (h2 : 3 ≤ B) : Calls Tryz.prog 149 #[.pointer (some ⟨g, 0, none⟩)] w fun e w' => StpP B g .off s w e w' := by
  have hne : s.rest ≠ [] := fun e => by simp [okS, e, hasW] at hk
  obtain ⟨b, o, n, cap, T, hr, hn0, c0, hT0⟩ := head_tok h hne
  have hBg := rd_B h
  have HT := Lib.hid hT
  unfold StpP
  obtain ⟨r0, r1, r2, r3, r4, r5, r6, r7, r8⟩ := cells9 hr
  clear r1 r2 r3 r4 r5 r6 r7 r8 hr
  by_cases hS : T = tShu
  · have e0 : stp .off s = (s, 0) := by simp only [stp, hT0, hS]; rfl
    have t1 : (T.toList == [93]) = true := eqb hS
    rw [e0]
    clear e0 hk hS hT hne hT0
    go_enter Tryz.func149, Tryz.ntmps149
    go_wp2
    go_ret
    exact ⟨rfl, h, gr_refl _ _⟩
  · obtain ⟨p, q, hp⟩ : ∃ p q, nx eB s.rest = (p, q) := ⟨_, _, rfl⟩
    obtain ⟨v, hv⟩ : ∃ v, (nuV p 16).1 = v := ⟨_, rfl⟩
    obtain ⟨x, hx⟩ : ∃ x, (nuV p 16).2 = x := ⟨_, rfl⟩
    have hS' : ¬ s.rest.head? = some tShu := fun e => hS (by rw [hT0] at e; exact Option.some.inj e)
    have e0 : stp .off s = (⟨q, { s.x with off := v }, s.tg, s.mp⟩, x) := by simp only [stp, hp, hv, hx, if_neg hS']
    have hk' : hasW s.rest = true := by simpa [okS, hS'] using hk
    have HNX := Lib.hid (next_at B g s w h hk' p q hp)
    have HN := Lib.hid (fun W (hW : L1.Wid W) => pnum_at p 16 W hW v x hv hx)
    have t1 : (T.toList == [93]) = false := beqt_ne hS
    rw [e0]
    clear e0 hk hS hS' hT hne hT0 hp hv hx hk' h
    go_enter Tryz.func149, Tryz.ntmps149
    go_wp2_with (first | (go_at_call 157; ((with_reducible refine (HNX.out).mono ?_); rintro e w1 ⟨rfl, hr1, hg1⟩; clear r0 c0)) | (go_at_call 122; ((with_reducible refine (HN.out _ (HT.out.gr hg1 (by omega)).wid).mono ?_); rintro e w2 ⟨rfl, hb2⟩; have hr2 := rd_gr hr1 hb2; obtain ⟨vv, hrw⟩ := rd_row hr2; obtain ⟨r0, r1, r2, r3, r4, r5, r6, r7, r8⟩ := cells9 hrw; have fz := frozen_all hrw 5; clear hrw r0 r1 r2 r3 r4 r6 r7 r8)))
    go_ret
    exact ⟨rfl, rd_set hr2 5 _ (fun _ => rfl) rfl, gr_set (gr_trans hg1 (gr_below hb2)) 5 _⟩
end Go.Proofs.YtakblmonbeflmaaGreatDoor.L9
