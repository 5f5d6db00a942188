/- What the program's Parse returns, for all bytes (no more than 100000): the texts whose table the bytes are and their offsets, or the error. Condition: memory holds the bytes. -/
import Derived.Test.YtegdffebdbkchaaL14Ps
namespace Go.Proofs.Ytegdffebdbkchaa.L14
open Go.RowKit Go.Shelf
attribute [local go_sem] Oper.semAt_some

/-- What Parse returns. -/
def PrP (l : List UInt8) (e : Ending) (w' : World) : Prop :=
  (prV l = none ∧ e = .returned (.tuple #[.slice none 0 0, .slice none 0 0, .int .i64 19])) ∨
    ∃ ts a c a2 c2, prV l = some ts ∧ e = .returned (.tuple #[.slice a ts.length c, .slice a2 ts.length c2, .int .i64 0]) ∧ Rw eT w' (.slice a ts.length c) ts ∧ Rw eN w' (.slice a2 ts.length c2) (ofs 1 ts)
theorem prP_no {l : List UInt8} {w' : World} (h : prV l = none) : PrP l (.returned (.tuple #[.slice none 0 0, .slice none 0 0, .int .i64 19])) w' := .inl ⟨h, rfl⟩
theorem pts_val {l : List UInt8} (x : Sg) (h : x ∈ sg 0 [] l) : (⟨x, h⟩ : Pt l) ∈ pts l := by simp [pts]
/-- Parse's answer, out of the texts behind the first zero byte. -/
theorem prP_of {w w' : World} {r : List UInt8} {e : Ending} (hr : (0 :: r : List UInt8).getLast? = some 0) (h : PaP w r e w') : PrP (0 :: r) e w' := by
  have hen : en [] r = true := by
    cases r with
    | nil => rfl
    | cons c q => rw [en_last (c :: q) [] 0 (by rw [← hr, List.getLast?_cons_cons])]; rfl
  have hp : prV (0 :: r) = pr [] r := by show (if (0 : UInt8) = 0 then pr [] r else none) = _; rw [if_pos rfl]
  have hs := pr_sg r [] 0
  rw [hen, Bool.true_and] at hs
  obtain ⟨⟨⟨x, hx⟩, rfl⟩ | ⟨hz, v, v', rfl, h1, h2⟩, -⟩ := h
  · refine prP_no ?_
    rw [hp, hs, if_neg]
    intro ha
    have := List.all_eq_true.1 ha x.1 x.2
    rw [hx] at this; simp at this
  · have hall : ((sg 0 [] r).all fun x => !x.t.isEmpty) = true := List.all_eq_true.2 fun x hx => by
      have := hz ⟨x, hx⟩ (pts_val x hx)
      simpa using this
    rw [if_pos hall, ← hp] at hs
    have e1 : (pts r).map (fun x => eT x.1.t) = ((sg 0 [] r).map (·.t)).map eT := by rw [pts_map r (fun x => eT x.t), List.map_map]; rfl
    have e2 : (pts r).map (fun x => eN (1 + x.1.at')) = (ofs 1 ((sg 0 [] r).map (·.t))).map eN := by
      rw [pts_map r (fun x => eN (1 + x.at')), ← ofs_up _ 0 1, ← sg_ofs, List.map_map, List.map_map]; rfl
    obtain ⟨ts, hts⟩ : ∃ ts, (sg 0 [] r).map (·.t) = ts := ⟨_, rfl⟩
    have hl : (pts r).length = ts.length := by rw [← hts, pts_len, List.length_map]
    rw [hts] at hs e1 e2
    rw [e1, hl] at h1
    rw [e2, hl] at h2
    obtain ⟨a, c, rfl⟩ := owns_slice h1
    obtain ⟨a2, c2, rfl⟩ := owns_slice h2
    refine .inr ⟨ts, a, c, a2, c2, hs, rfl, Rw.own h1, ?_⟩
    have h3 := ofs_len ts 1
    rw [← h3] at h2 ⊢
    exact Rw.own h2

/-- The three results in their cells where the answer is the error. -/
theorem er_cells (w : World) : (((w.alloc (.cells #[.slice none 0 0] 22)).alloc (.cells #[.slice none 0 0] 26)).alloc (.cells #[.int .i64 19] 27)).cell? ⟨w.heap.size, 0, none⟩ = some (.slice none 0 0) ∧
    (((w.alloc (.cells #[.slice none 0 0] 22)).alloc (.cells #[.slice none 0 0] 26)).alloc (.cells #[.int .i64 19] 27)).cell? ⟨w.heap.size + 1, 0, none⟩ = some (.slice none 0 0) ∧
    (((w.alloc (.cells #[.slice none 0 0] 22)).alloc (.cells #[.slice none 0 0] 26)).alloc (.cells #[.int .i64 19] 27)).cell? ⟨w.heap.size + 1 + 1, 0, none⟩ = some (.int .i64 19) := by
  have b0 := ((Boxed.new w 22 (.slice none 0 0)).alloc (.cells #[.slice none 0 0] 26)).alloc (.cells #[.int .i64 19] 27)
  have b1 := (Boxed.new (w.alloc (.cells #[.slice none 0 0] 22)) 26 (.slice none 0 0)).alloc (.cells #[.int .i64 19] 27)
  have b2 := Boxed.new ((w.alloc (.cells #[.slice none 0 0] 22)).alloc (.cells #[.slice none 0 0] 26)) 27 (.int .i64 19)
  simp only [World.size_alloc] at b1 b2
  exact ⟨b0.cell, b1.cell, b2.cell⟩
theorem er_below (w : World) : Below w.heap.size w (((w.alloc (.cells #[.slice none 0 0] 22)).alloc (.cells #[.slice none 0 0] 26)).alloc (.cells #[.int .i64 19] 27)) := bch (bch (bnew _ _) (bnew _ _)) (bnew _ _)

set_option maxRecDepth 100000 in
set_option maxHeartbeats 4000000 in
theorem parse_at (v : Value) (l : List UInt8) (w : World) (h : Rw eB w v l) (hl : l.length ≤ 100000) :
    Calls Try.prog 16 #[v] w fun e w' => PrP l e w' ∧ Below w.heap.size w w' := by
  obtain ⟨n, hn⟩ : ∃ n, l.length = n := ⟨_, rfl⟩
  obtain ⟨a, c, rfl, hc1, -, hc⟩ := h.form hn
  obtain ⟨k0, k1, k2⟩ := er_cells w
  have hbe := er_below w
  by_cases h0 : n = 0
  · subst h0
    have hnil : l = [] := List.eq_nil_of_length_eq_zero hn
    have HR := Lib.hid (show prV l = none by rw [hnil]; rfl)
    clear h hn hc hnil
    go_enter Try.func16, Try.ntmps16
    go_wp2
    refine bodyPost_ret (v := .tuple #[.slice none 0 0, .slice none 0 0, .int .i64 19]) (by simp [results, Try.results16, go_sem, k0, k1, k2]) rfl ⟨prP_no HR.out, hbe⟩
  obtain ⟨m, rfl⟩ : ∃ m, n = m + 1 := ⟨n - 1, by omega⟩
  obtain ⟨d, r, rfl⟩ : ∃ d r, l = d :: r := by
    cases l with
    | nil => simp at hn
    | cons d r => exact ⟨d, r, rfl⟩
  obtain ⟨b, o, rfl, hb, hcc⟩ := hc (by omega)
  have hx : w.cell? ⟨b, o, none⟩ = some (.int .u8 (d.toNat : Int)) := hcc 0 (by rw [hn]; omega)
  have hml : m < (d :: r).length := by rw [hn]; omega
  have hy : w.cell? ⟨b, o + m, none⟩ = some (.int .u8 ((d :: r)[m].toNat : Int)) := hcc m hml
  have hlast : (d :: r).getLast? = some (d :: r)[m] := by
    rw [List.getLast?_eq_getElem?, hn, Nat.add_sub_cancel, List.getElem?_eq_getElem hml]
  have hb3 : Below w.heap.size w (((w.alloc (.cells #[.slice none 0 0] 22)).alloc (.cells #[.slice none 0 0] 26)).alloc (.cells #[.int .i64 0] 27)) := bch (bch (bnew _ _) (bnew _ _)) (bnew _ _)
  have hmm : m ≤ 100000 := by omega
  have hne0 : ((m : Int) + 1 == 0) = false := by rw [beq_eq_false_iff_ne]; omega
  by_cases hd : d = 0
  · subst hd
    by_cases hz : (0 :: r : List UInt8)[m] = 0
    · rw [hz] at hlast
      refine (parse_go b o (m + 1) c r hn (by omega) w h hlast).mono fun e w' hP => ⟨prP_of hlast hP, hP.2⟩
    · have hnz : (((0 :: r : List UInt8)[m].toNat : Int) == 0) = false := byte_ne (d := 0) hz
      have HR := Lib.hid (show prV (0 :: r) = none by
        show (if (0 : UInt8) = 0 then pr [] r else none) = none
        rw [if_pos rfl, pr_sg r [] 0]
        cases r with
        | nil => exact absurd (by simp at hn; subst hn; rfl) hz
        | cons c q =>
          rw [List.getLast?_cons_cons] at hlast
          rw [en_last (c :: q) [] _ hlast, if_neg]
          simp [hz])
      obtain ⟨y, hy2⟩ : ∃ y : Int, ((0 :: r : List UInt8)[m].toNat : Int) = y := ⟨_, rfl⟩
      rw [hy2] at hy hnz
      have hnz2 : (y != 0) = true := by rw [bne, hnz]; rfl
      replace hx : w.cell? ⟨b, o, none⟩ = some (.int .u8 0) := hx
      have hx3 := (hb3.cell (p := ⟨b, o, none⟩) hb).trans hx
      have hy3 := (hb3.cell (p := ⟨b, o + m, none⟩) hb).trans hy
      clear h hn hc hcc hml hlast hz hy2 hb3 hx hy
      go_enter Try.func16, Try.ntmps16
      go_wp2
      refine bodyPost_ret (v := .tuple #[.slice none 0 0, .slice none 0 0, .int .i64 19]) (by simp [results, Try.results16, go_sem, k0, k1, k2]) rfl ⟨prP_no HR.out, hbe⟩
  · have hnd : ((d.toNat : Int) == 0) = false := byte_ne (d := 0) hd
    have HR := Lib.hid (show prV (d :: r) = none by show (if d = 0 then pr [] r else none) = none; rw [if_neg hd])
    obtain ⟨x, hx2⟩ : ∃ x : Int, (d.toNat : Int) = x := ⟨_, rfl⟩
    rw [hx2] at hx hnd
    have hnd2 : (x != 0) = true := by rw [bne, hnd]; rfl
    have hx3 := (hb3.cell (p := ⟨b, o, none⟩) hb).trans hx
    clear h hn hc hcc hml hlast hy hd hx2 hb3 hx
    go_enter Try.func16, Try.ntmps16
    go_wp2
    refine bodyPost_ret (v := .tuple #[.slice none 0 0, .slice none 0 0, .int .i64 19]) (by simp [results, Try.results16, go_sem, k0, k1, k2]) rfl ⟨prP_no HR.out, hbe⟩
end Go.Proofs.Ytegdffebdbkchaa.L14
