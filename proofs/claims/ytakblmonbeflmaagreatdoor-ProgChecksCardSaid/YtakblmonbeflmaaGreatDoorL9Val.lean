/- What the operands behind a shape are: their texts, whether there is an offset; how a reader reads them one after the other, and that this comes to the same. It speaks of no program; condition: the texts are tokens'. -/
import Derived.Test.YtakblmonbeflmaaGreatDoorM10
namespace Go.Proofs.YtakblmonbeflmaaGreatDoor.L9

theorem spl_one {a : ByteArray} (ha : IsWd a) : spl [a] = [a] := by simp only [spl, spF, List.foldl, sp_w ha, eB_app]; rw [fl_1 ha.1]; rfl
theorem spl_two {a b : ByteArray} (ha : IsWd a) (hb : IsWd b) : spl [a, tCom, b] = [a, b] := by simp only [spl, spF, List.foldl, sp_w ha, sp_w hb, sp_c bC nCM, eB_app]; rw [fl_1 ha.1, fl_1 hb.1]; rfl
theorem spl_neg {a b : ByteArray} (ha : IsWd a) (hb : IsWd b) : spl [a, tCom, tMin, b] = [a, tMin ++ b] := by simp only [spl, spF, List.foldl, sp_w ha, sp_w hb, sp_c bC nCM, sp_m, eB_app]; rw [fl_1 ha.1, fl_0, fl_1 (min_size b)]; rfl
theorem spl_three {a b c : ByteArray} (ha : IsWd a) (hb : IsWd b) (hc : IsWd c) : spl [a, tCom, b, tCom, c] = [a, b, c] := by simp only [spl, spF, List.foldl, sp_w ha, sp_w hb, sp_w hc, sp_c bC nCM, eB_app]; rw [fl_1 ha.1, fl_1 hb.1, fl_1 hc.1]; rfl
theorem spl_threen {a b c : ByteArray} (ha : IsWd a) (hb : IsWd b) (hc : IsWd c) : spl [a, tCom, tMin, b, tCom, c] = [a, tMin ++ b, c] := by simp only [spl, spF, List.foldl, sp_w ha, sp_w hb, sp_w hc, sp_c bC nCM, sp_m, eB_app]; rw [fl_1 ha.1, fl_0, fl_1 (min_size b), fl_1 hc.1]; rfl
theorem spl_load {a b : ByteArray} (ha : IsWd a) (hb : IsWd b) : spl [a, tCom, tOpn, b, tShu] = [a, b] := by simp only [spl, spF, List.foldl, sp_w ha, sp_w hb, sp_c bC nCM, sp_c bO nOM, sp_c bS nSM, eB_app]; rw [fl_1 ha.1, fl_0, fl_1 hb.1, fl_0]; rfl
theorem spl_loadp {a b c : ByteArray} (ha : IsWd a) (hb : IsWd b) (hc : IsWd c) : spl [a, tCom, tOpn, b, tPlu, c, tShu] = [a, b, c] := by simp only [spl, spF, List.foldl, sp_w ha, sp_w hb, sp_w hc, sp_c bC nCM, sp_c bO nOM, sp_c bS nSM, sp_c bP nPM, eB_app]; rw [fl_1 ha.1, fl_0, fl_1 hb.1, fl_1 hc.1, fl_0]; rfl
theorem spl_loadm {a b c : ByteArray} (ha : IsWd a) (hb : IsWd b) (hc : IsWd c) : spl [a, tCom, tOpn, b, tMin, c, tShu] = [a, b, tMin ++ c] := by simp only [spl, spF, List.foldl, sp_w ha, sp_w hb, sp_w hc, sp_c bC nCM, sp_c bO nOM, sp_c bS nSM, sp_m, eB_app]; rw [fl_1 ha.1, fl_0, fl_1 hb.1, fl_1 (min_size c), fl_0]; rfl
theorem spl_stor {a b : ByteArray} (ha : IsWd a) (hb : IsWd b) : spl [tOpn, a, tShu, tCom, b] = [a, b] := by simp only [spl, spF, List.foldl, sp_w ha, sp_w hb, sp_c bC nCM, sp_c bO nOM, sp_c bS nSM, eB_app]; rw [fl_0, fl_1 ha.1, fl_0, fl_1 hb.1]; rfl
theorem spl_storp {a b c : ByteArray} (ha : IsWd a) (hb : IsWd b) (hc : IsWd c) : spl [tOpn, a, tPlu, b, tShu, tCom, c] = [a, b, c] := by simp only [spl, spF, List.foldl, sp_w ha, sp_w hb, sp_w hc, sp_c bC nCM, sp_c bO nOM, sp_c bS nSM, sp_c bP nPM, eB_app]; rw [fl_0, fl_1 ha.1, fl_1 hb.1, fl_0, fl_1 hc.1]; rfl
theorem spl_storm {a b c : ByteArray} (ha : IsWd a) (hb : IsWd b) (hc : IsWd c) : spl [tOpn, a, tMin, b, tShu, tCom, c] = [a, tMin ++ b, c] := by simp only [spl, spF, List.foldl, sp_w ha, sp_w hb, sp_w hc, sp_c bC nCM, sp_c bO nOM, sp_c bS nSM, sp_m, eB_app]; rw [fl_0, fl_1 ha.1, fl_1 (min_size b), fl_0, fl_1 hc.1]; rfl
theorem spl_storn {a b : ByteArray} (ha : IsWd a) (hb : IsWd b) : spl [tOpn, a, tShu, tCom, tMin, b] = [a, tMin ++ b] := by simp only [spl, spF, List.foldl, sp_w ha, sp_w hb, sp_c bC nCM, sp_c bO nOM, sp_c bS nSM, sp_m, eB_app]; rw [fl_0, fl_1 ha.1, fl_0, fl_0, fl_1 (min_size b)]; rfl
theorem spl_storpn {a b c : ByteArray} (ha : IsWd a) (hb : IsWd b) (hc : IsWd c) : spl [tOpn, a, tPlu, b, tShu, tCom, tMin, c] = [a, b, tMin ++ c] := by simp only [spl, spF, List.foldl, sp_w ha, sp_w hb, sp_w hc, sp_c bC nCM, sp_c bO nOM, sp_c bS nSM, sp_c bP nPM, sp_m, eB_app]; rw [fl_0, fl_1 ha.1, fl_1 hb.1, fl_0, fl_0, fl_1 (min_size c)]; rfl
theorem spl_stormn {a b c : ByteArray} (ha : IsWd a) (hb : IsWd b) (hc : IsWd c) : spl [tOpn, a, tMin, b, tShu, tCom, tMin, c] = [a, tMin ++ b, tMin ++ c] := by simp only [spl, spF, List.foldl, sp_w ha, sp_w hb, sp_w hc, sp_c bC nCM, sp_c bO nOM, sp_c bS nSM, sp_m, eB_app]; rw [fl_0, fl_1 ha.1, fl_1 (min_size b), fl_0, fl_0, fl_1 (min_size c)]; rfl

theorem wd_no {t : ByteArray} (h : IsWd t) : ∀ c ∈ t.data.toList, c ≠ 43 ∧ c ≠ 45 := fun c hc => ⟨(wb_no (h.2.2.2 c hc)).1, (wb_no (h.2.2.2 c hc)).2.1⟩
/-- A word's last byte. -/
theorem wd_last {t : ByteArray} (h : IsWd t) : ∃ P c, t.data.toList = P ++ [c] ∧ c ≠ 44 := by
  have hne : t.data.toList ≠ [] := fun e => h.1 (by rw [← L8.size_list, e]; rfl)
  refine ⟨t.data.toList.dropLast, t.data.toList.getLast hne, (List.dropLast_concat_getLast hne).symm, ?_⟩
  exact (wb_no (h.2.2.2 _ (List.getLast_mem hne))).2.2
theorem offV_plus {m : ByteArray} {P R : List UInt8} (h : m.data.toList = P ++ 43 :: R) (hR : R ≠ []) : offV m = true := by
  have hl : m.size = P.length + 1 + R.length := by rw [← L8.size_list, h]; simp; omega
  have hr : 0 < R.length := List.length_pos_iff.2 hR
  unfold offV
  rw [List.any_eq_true]
  refine ⟨P.length, by rw [List.mem_range]; omega, ?_⟩
  have h43 : m.data.toList.getD P.length 0 = 43 := by rw [h]; simp [List.getD]
  simp only [offAt, h43, decide_true, Bool.true_or]
theorem offV_min {m : ByteArray} {P R : List UInt8} {c : UInt8} (h : m.data.toList = P ++ c :: 45 :: R) (hc : c ≠ 44) (hR : R ≠ []) : offV m = true := by
  have hl : m.size = P.length + 2 + R.length := by rw [← L8.size_list, h]; simp; omega
  have hr : 0 < R.length := List.length_pos_iff.2 hR
  unfold offV
  rw [List.any_eq_true]
  refine ⟨P.length + 1, by rw [List.mem_range]; omega, ?_⟩
  have h45 : m.data.toList.getD (P.length + 1) 0 = 45 := by rw [h]; simp [List.getD]
  have hcc : m.data.toList.getD P.length 0 = c := by rw [h]; simp [List.getD]
  simp only [offAt, h45, Nat.add_sub_cancel, hcc, decide_true, Bool.true_and, Bool.or_eq_true, Bool.and_eq_true, decide_eq_true_eq]
  exact .inr ⟨by omega, hc⟩
theorem off_load {a b : ByteArray} (ha : IsWd a) (hb : IsWd b) : offV (joi [a, tCom, tOpn, b, tShu]) = false := offV_no (by
  rw [joi_list]
  intro c hc
  simp only [List.flatMap_cons, List.flatMap_nil, List.append_nil, List.mem_append] at hc
  rcases hc with hc | hc | hc | hc | hc
  · exact wd_no ha c hc
  · have : c = 44 := by simpa [tCom] using hc
    subst this; exact ⟨by decide, by decide⟩
  · have : c = 91 := by simpa [tOpn] using hc
    subst this; exact ⟨by decide, by decide⟩
  · exact wd_no hb c hc
  · have : c = 93 := by simpa [tShu] using hc
    subst this; exact ⟨by decide, by decide⟩)
theorem off_stor {a b : ByteArray} (ha : IsWd a) (hb : IsWd b) : offV (joi [tOpn, a, tShu, tCom, b]) = false := offV_no (by
  rw [joi_list]
  intro c hc
  simp only [List.flatMap_cons, List.flatMap_nil, List.append_nil, List.mem_append] at hc
  rcases hc with hc | hc | hc | hc | hc
  · have : c = 91 := by simpa [tOpn] using hc
    subst this; exact ⟨by decide, by decide⟩
  · exact wd_no ha c hc
  · have : c = 93 := by simpa [tShu] using hc
    subst this; exact ⟨by decide, by decide⟩
  · have : c = 44 := by simpa [tCom] using hc
    subst this; exact ⟨by decide, by decide⟩
  · exact wd_no hb c hc)
theorem off_storn {a b : ByteArray} (ha : IsWd a) (hb : IsWd b) : offV (joi [tOpn, a, tShu, tCom, tMin, b]) = false := offV_com (P := 91 :: a.data.toList ++ [93]) (R := b.data.toList) (by rw [joi_list]; simp [tOpn, tShu, tCom, tMin]) (by
  intro c hc
  simp only [List.cons_append, List.mem_cons, List.mem_append, List.not_mem_nil, or_false] at hc
  rcases hc with rfl | hc | rfl
  · exact ⟨by decide, by decide⟩
  · exact wd_no ha c hc
  · exact ⟨by decide, by decide⟩) (wd_no hb)
theorem off_loadp {a b c : ByteArray} : offV (joi [a, tCom, tOpn, b, tPlu, c, tShu]) = true := offV_plus (P := a.data.toList ++ 44 :: 91 :: b.data.toList) (R := c.data.toList ++ [93]) (by rw [joi_list]; simp [tOpn, tShu, tCom, tPlu]) (by simp)
theorem off_storp {a b c : ByteArray} : offV (joi [tOpn, a, tPlu, b, tShu, tCom, c]) = true := offV_plus (P := 91 :: a.data.toList) (R := b.data.toList ++ 93 :: 44 :: c.data.toList) (by rw [joi_list]; simp [tOpn, tShu, tCom, tPlu]) (by simp)
theorem off_storpn {a b c : ByteArray} : offV (joi [tOpn, a, tPlu, b, tShu, tCom, tMin, c]) = true := offV_plus (P := 91 :: a.data.toList) (R := b.data.toList ++ 93 :: 44 :: 45 :: c.data.toList) (by rw [joi_list]; simp [tOpn, tShu, tCom, tPlu, tMin]) (by simp)
theorem off_loadm {a b c : ByteArray} (hb : IsWd b) : offV (joi [a, tCom, tOpn, b, tMin, c, tShu]) = true := by
  obtain ⟨P, x, e, hx⟩ := wd_last hb
  exact offV_min (P := a.data.toList ++ 44 :: 91 :: P) (c := x) (R := c.data.toList ++ [93]) (by rw [joi_list]; simp [tOpn, tShu, tCom, tMin, e]) hx (by simp)
theorem off_storm {a b c : ByteArray} (ha : IsWd a) : offV (joi [tOpn, a, tMin, b, tShu, tCom, c]) = true := by
  obtain ⟨P, x, e, hx⟩ := wd_last ha
  exact offV_min (P := 91 :: P) (c := x) (R := b.data.toList ++ 93 :: 44 :: c.data.toList) (by rw [joi_list]; simp [tOpn, tShu, tCom, tMin, e]) hx (by simp)
theorem off_stormn {a b c : ByteArray} (ha : IsWd a) : offV (joi [tOpn, a, tMin, b, tShu, tCom, tMin, c]) = true := by
  obtain ⟨P, x, e, hx⟩ := wd_last ha
  exact offV_min (P := 91 :: P) (c := x) (R := b.data.toList ++ 93 :: 44 :: 45 :: c.data.toList) (by rw [joi_list]; simp [tOpn, tShu, tCom, tMin, e]) hx (by simp)

/-! ### a reader -/
/-- The next operand, with its sign, and what stands behind it. -/
def nx : ByteArray → List ByteArray → ByteArray × List ByteArray
  | _, [] => (eB, [])
  | sg, t :: r => if brk t then nx (if t = tMin then tMin else sg) r else (sg ++ t, r)
def hasW (l : List ByteArray) : Bool := l.any fun t => !brk t
/-- Where a reader is. -/
structure St where
  rest : List ByteArray
  x : Ins
  tg : ByteArray
  mp : ByteArray
/-- What is read. -/
inductive Rk
  | dst | sec | src | tgt | hlp | off | i32 | i64 | mpn
def stp (k : Rk) (s : St) : St × Int :=
  let p := nx eB s.rest
  match k with
  | .dst => (⟨p.2, { s.x with dst := (reV p.1).1 }, s.tg, s.mp⟩, (reV p.1).2)
  | .src => (⟨p.2, { s.x with src := (reV p.1).1 }, s.tg, s.mp⟩, (reV p.1).2)
  | .sec => (⟨p.2, (seV s.x p.1).1, s.tg, s.mp⟩, (seV s.x p.1).2)
  | .tgt => (⟨p.2, s.x, if L2.vd p.1 then p.1 else eB, s.mp⟩, naV p.1)
  | .mpn => (⟨p.2, s.x, s.tg, if L2.vd p.1 then p.1 else eB⟩, naV p.1)
  | .hlp => if heV p.1 = 0 then (⟨p.2, s.x, s.tg, s.mp⟩, 7) else (⟨p.2, { s.x with imm := heV p.1 }, s.tg, s.mp⟩, 0)
  | .off => if s.rest.head? = some tShu then (s, 0) else (⟨p.2, { s.x with off := (nuV p.1 16).1 }, s.tg, s.mp⟩, (nuV p.1 16).2)
  | .i32 => (⟨p.2, { s.x with imm := (nuV p.1 32).1 }, s.tg, s.mp⟩, (nuV p.1 32).2)
  | .i64 => (⟨p.2, { s.x with imm := (nuV p.1 64).1 }, s.tg, s.mp⟩, (nuV p.1 64).2)
def runs : List Rk → St → St × Int
  | [], s => (s, 0)
  | k :: r, s => if (stp k s).2 ≠ 0 then stp k s else runs r (stp k s).1
def okS (k : Rk) (s : St) : Bool := match k with
  | .off => decide (s.rest.head? = some tShu) || hasW s.rest
  | _ => hasW s.rest
def OkR : List Rk → St → Prop
  | [], _ => True
  | k :: r, s => okS k s = true ∧ ((stp k s).2 = 0 → OkR r (stp k s).1)
/-- What a form's operands are read by. -/
def ksV (f : Int) : List Rk :=
  if f = 0 then [.dst, .sec] else if f = 1 then [.dst] else if f = 2 then [.dst, .src] else if f = 3 then [.tgt] else if f = 4 then [.dst, .sec, .tgt]
  else if f = 5 then [.hlp] else if f = 7 then [.dst, .src, .off] else if f = 8 then [.dst, .off, .i32] else if f = 9 then [.dst, .off, .src]
  else if f = 10 then [.dst, .i64] else if f = 11 then [.dst, .mpn] else []
def SameR (p : St × Int) (q : Rs × Int) : Prop := p.2 = q.2 ∧ (p.2 = 0 → p.1.x = q.1.x ∧ p.1.tg = q.1.tg ∧ p.1.mp = q.1.mp ∧ q.1.kind = 2 ∧ q.1.d = Df.z)
theorem nx_w {sg a : ByteArray} {r : List ByteArray} (h : IsWd a) : nx sg (a :: r) = (sg ++ a, r) := by rw [nx, if_neg (by rw [h.2.1]; exact Bool.false_ne_true)]
theorem nx_c {sg t : ByteArray} {r : List ByteArray} (h : brk t = true) (hn : t ≠ tMin) : nx sg (t :: r) = nx sg r := by rw [nx, if_pos h, if_neg hn]
theorem nx_m {sg : ByteArray} {r : List ByteArray} : nx sg (tMin :: r) = nx tMin r := by rw [nx, if_pos bM, if_pos rfl]
theorem nx_C {sg : ByteArray} {r : List ByteArray} : nx sg (tCom :: r) = nx sg r := nx_c bC nCM
theorem nx_O {sg : ByteArray} {r : List ByteArray} : nx sg (tOpn :: r) = nx sg r := nx_c bO nOM
theorem nx_S {sg : ByteArray} {r : List ByteArray} : nx sg (tShu :: r) = nx sg r := nx_c bS nSM
theorem nx_P {sg : ByteArray} {r : List ByteArray} : nx sg (tPlu :: r) = nx sg r := nx_c bP nPM
theorem hw_w {a : ByteArray} {r : List ByteArray} (h : IsWd a) : hasW (a :: r) = true := by simp [hasW, h.2.1]
theorem hw_C {t : ByteArray} {r : List ByteArray} (h : brk t = true) : hasW (t :: r) = hasW r := by simp [hasW, h]
theorem wd_ne {t u : ByteArray} (h : IsWd t) (hu : brk u = true) : ¬ t = u := fun e => by rw [← e, h.2.1] at hu; cases hu
theorem b00 (a : ByteArray) : eB ++ a = a := eB_app a
/-- Reading the operands one after the other comes to the same as dividing them first. -/
theorem runs_ops {f op : Int} {q : List ByteArray} (h : Ops f q) : OkR (ksV f) ⟨q, ⟨op, false, 0, 0, 0, 0⟩, eB, eB⟩ ∧ SameR (runs (ksV f) ⟨q, ⟨op, false, 0, 0, 0, 0⟩, eB, eB⟩) (opV f op (spl q) (offV (joi q))) := by
  cases h with
  | none f h => subst h; exact ⟨trivial, rfl, fun _ => ⟨rfl, rfl, rfl, rfl, rfl⟩⟩
  | one f a h ha =>
    rw [spl_one ha]
    generalize offV _ = off
    rcases h with rfl | rfl | rfl
    · by_cases e1 : (reV a).2 = 0 <;> simp [ksV, OkR, okS, stp, runs, SameR, opV, g0, hw_w ha, nx_w ha, eB_app, e1]
    · cases e1 : L2.vd a <;> simp [ksV, OkR, okS, stp, runs, SameR, opV, g0, hw_w ha, nx_w ha, eB_app, naV, e1]
    · by_cases e1 : heV a = 0 <;> simp [ksV, OkR, okS, stp, runs, SameR, opV, g0, hw_w ha, nx_w ha, eB_app, e1]
  | two f a b h ha hb =>
    rw [spl_two ha hb]
    generalize offV _ = off
    rcases h with rfl | rfl | rfl | rfl
    · by_cases e1 : (reV a).2 = 0
      · obtain ⟨y, z, hs⟩ : ∃ y z, seV ⟨op, false, (reV a).1, 0, 0, 0⟩ b = (y, z) := ⟨_, _, rfl⟩
        by_cases e2 : z = 0 <;> simp [ksV, OkR, okS, stp, runs, SameR, opV, g0, hw_w ha, hw_w hb, hw_C bC, nx_C, nx_w ha, nx_w hb, eB_app, e1, hs, e2]
      · simp [ksV, OkR, okS, stp, runs, SameR, opV, g0, hw_w ha, hw_w hb, hw_C bC, nx_C, nx_w ha, nx_w hb, eB_app, e1]
    · by_cases e1 : (reV a).2 = 0
      · by_cases e2 : (nuV b 64).2 = 0 <;> simp [ksV, OkR, okS, stp, runs, SameR, opV, g0, hw_w ha, hw_w hb, hw_C bC, nx_C, nx_w ha, nx_w hb, eB_app, e1, e2]
      · simp [ksV, OkR, okS, stp, runs, SameR, opV, g0, hw_w ha, hw_w hb, hw_C bC, nx_C, nx_w ha, nx_w hb, eB_app, e1]
    · by_cases e1 : (reV a).2 = 0
      · by_cases e2 : (reV b).2 = 0 <;> simp [ksV, OkR, okS, stp, runs, SameR, opV, g0, hw_w ha, hw_w hb, hw_C bC, nx_C, nx_w ha, nx_w hb, eB_app, e1, e2]
      · simp [ksV, OkR, okS, stp, runs, SameR, opV, g0, hw_w ha, hw_w hb, hw_C bC, nx_C, nx_w ha, nx_w hb, eB_app, e1]
    · by_cases e1 : (reV a).2 = 0
      · cases e2 : L2.vd b <;> simp [ksV, OkR, okS, stp, runs, SameR, opV, g0, hw_w ha, hw_w hb, hw_C bC, nx_C, nx_w ha, nx_w hb, eB_app, naV, e1, e2]
      · simp [ksV, OkR, okS, stp, runs, SameR, opV, g0, hw_w ha, hw_w hb, hw_C bC, nx_C, nx_w ha, nx_w hb, eB_app, e1]
  | neg f a b h ha hb =>
    rw [spl_neg ha hb]
    generalize offV _ = off
    rcases h with rfl | rfl
    · by_cases e1 : (reV a).2 = 0
      · obtain ⟨y, z, hs⟩ : ∃ y z, seV ⟨op, false, (reV a).1, 0, 0, 0⟩ (tMin ++ b) = (y, z) := ⟨_, _, rfl⟩
        by_cases e2 : z = 0 <;> simp [ksV, OkR, okS, stp, runs, SameR, opV, g0, hw_w ha, hw_w hb, hw_C bC, hw_C bM, nx_C, nx_m, nx_w ha, nx_w hb, eB_app, e1, hs, e2]
      · simp [ksV, OkR, okS, stp, runs, SameR, opV, g0, hw_w ha, hw_w hb, hw_C bC, hw_C bM, nx_C, nx_m, nx_w ha, nx_w hb, eB_app, e1]
    · by_cases e1 : (reV a).2 = 0
      · by_cases e2 : (nuV (tMin ++ b) 64).2 = 0 <;> simp [ksV, OkR, okS, stp, runs, SameR, opV, g0, hw_w ha, hw_w hb, hw_C bC, hw_C bM, nx_C, nx_m, nx_w ha, nx_w hb, eB_app, e1, e2]
      · simp [ksV, OkR, okS, stp, runs, SameR, opV, g0, hw_w ha, hw_w hb, hw_C bC, hw_C bM, nx_C, nx_m, nx_w ha, nx_w hb, eB_app, e1]
  | three a b c ha hb hc =>
    rw [spl_three ha hb hc]
    generalize offV _ = off
    by_cases e1 : (reV a).2 = 0
    · obtain ⟨y, z, hs⟩ : ∃ y z, seV ⟨op, false, (reV a).1, 0, 0, 0⟩ b = (y, z) := ⟨_, _, rfl⟩
      by_cases e2 : z = 0
      · cases e3 : L2.vd c <;> simp [ksV, OkR, okS, stp, runs, SameR, opV, g0, hw_w ha, hw_w hb, hw_w hc, hw_C bC, nx_C, nx_w ha, nx_w hb, nx_w hc, eB_app, naV, e1, hs, e2, e3]
      · simp [ksV, OkR, okS, stp, runs, SameR, opV, g0, hw_w ha, hw_w hb, hw_C bC, nx_C, nx_w ha, nx_w hb, eB_app, e1, hs, e2]
    · simp [ksV, OkR, okS, stp, runs, SameR, opV, g0, hw_w ha, hw_w hb, hw_C bC, nx_C, nx_w ha, nx_w hb, eB_app, e1]
  | threen a b c ha hb hc =>
    rw [spl_threen ha hb hc]
    generalize offV _ = off
    by_cases e1 : (reV a).2 = 0
    · obtain ⟨y, z, hs⟩ : ∃ y z, seV ⟨op, false, (reV a).1, 0, 0, 0⟩ (tMin ++ b) = (y, z) := ⟨_, _, rfl⟩
      by_cases e2 : z = 0
      · cases e3 : L2.vd c <;> simp [ksV, OkR, okS, stp, runs, SameR, opV, g0, hw_w ha, hw_w hb, hw_w hc, hw_C bC, hw_C bM, nx_C, nx_m, nx_w ha, nx_w hb, nx_w hc, eB_app, naV, e1, hs, e2, e3]
      · simp [ksV, OkR, okS, stp, runs, SameR, opV, g0, hw_w ha, hw_w hb, hw_C bC, hw_C bM, nx_C, nx_m, nx_w ha, nx_w hb, eB_app, e1, hs, e2]
    · simp [ksV, OkR, okS, stp, runs, SameR, opV, g0, hw_w ha, hw_w hb, hw_C bC, hw_C bM, nx_C, nx_m, nx_w ha, nx_w hb, eB_app, e1]
  | load a b ha hb =>
    rw [spl_load ha hb, off_load ha hb]
    by_cases e1 : (reV a).2 = 0
    · by_cases e2 : (reV b).2 = 0 <;> simp [ksV, OkR, okS, stp, runs, SameR, opV, meV, g0, hw_w ha, hw_w hb, hw_C bC, hw_C bO, nx_C, nx_O, nx_w ha, nx_w hb, eB_app, e1, e2]
    · simp [ksV, OkR, okS, stp, runs, SameR, opV, g0, hw_w ha, nx_w ha, eB_app, e1]
  | loadp a b c ha hb hc =>
    rw [spl_loadp ha hb hc, off_loadp]
    by_cases e1 : (reV a).2 = 0
    · by_cases e2 : (reV b).2 = 0
      · by_cases e3 : (nuV c 16).2 = 0 <;> simp [ksV, OkR, okS, stp, runs, SameR, opV, meV, g0, hw_w ha, hw_w hb, hw_w hc, hw_C bC, hw_C bO, hw_C bP, nx_C, nx_O, nx_P, nx_w ha, nx_w hb, nx_w hc, eB_app, e1, e2, e3, show ¬ tPlu = tShu by decide]
      · simp [ksV, OkR, okS, stp, runs, SameR, opV, meV, g0, hw_w ha, hw_w hb, hw_C bC, hw_C bO, nx_C, nx_O, nx_w ha, nx_w hb, eB_app, e1, e2]
    · simp [ksV, OkR, okS, stp, runs, SameR, opV, g0, hw_w ha, nx_w ha, eB_app, e1]
  | loadm a b c ha hb hc =>
    rw [spl_loadm ha hb hc, off_loadm hb]
    by_cases e1 : (reV a).2 = 0
    · by_cases e2 : (reV b).2 = 0
      · by_cases e3 : (nuV (tMin ++ c) 16).2 = 0 <;> simp [ksV, OkR, okS, stp, runs, SameR, opV, meV, g0, hw_w ha, hw_w hb, hw_w hc, hw_C bC, hw_C bO, hw_C bM, nx_C, nx_O, nx_m, nx_w ha, nx_w hb, nx_w hc, eB_app, e1, e2, e3, show ¬ tMin = tShu by decide]
      · simp [ksV, OkR, okS, stp, runs, SameR, opV, meV, g0, hw_w ha, hw_w hb, hw_C bC, hw_C bO, nx_C, nx_O, nx_w ha, nx_w hb, eB_app, e1, e2]
    · simp [ksV, OkR, okS, stp, runs, SameR, opV, g0, hw_w ha, nx_w ha, eB_app, e1]
  | stor f a b h ha hb =>
    rw [spl_stor ha hb, off_stor ha hb]
    rcases h with rfl | rfl
    · by_cases e1 : (reV a).2 = 0
      · by_cases e2 : (nuV b 32).2 = 0 <;> simp [ksV, OkR, okS, stp, runs, SameR, opV, meV, g0, hw_w ha, hw_w hb, hw_C bC, hw_C bO, hw_C bS, nx_C, nx_O, nx_S, nx_w ha, nx_w hb, eB_app, e1, e2]
      · simp [ksV, OkR, okS, stp, runs, SameR, opV, meV, g0, hw_w ha, hw_C bO, nx_O, nx_w ha, eB_app, e1]
    · by_cases e1 : (reV a).2 = 0
      · by_cases e2 : (reV b).2 = 0 <;> simp [ksV, OkR, okS, stp, runs, SameR, opV, meV, g0, hw_w ha, hw_w hb, hw_C bC, hw_C bO, hw_C bS, nx_C, nx_O, nx_S, nx_w ha, nx_w hb, eB_app, e1, e2]
      · simp [ksV, OkR, okS, stp, runs, SameR, opV, meV, g0, hw_w ha, hw_C bO, nx_O, nx_w ha, eB_app, e1]
  | storp f a b c h ha hb hc =>
    rw [spl_storp ha hb hc, off_storp]
    rcases h with rfl | rfl
    · by_cases e1 : (reV a).2 = 0
      · by_cases e2 : (nuV b 16).2 = 0
        · by_cases e3 : (nuV c 32).2 = 0 <;> simp [ksV, OkR, okS, stp, runs, SameR, opV, meV, g0, hw_w ha, hw_w hb, hw_w hc, hw_C bC, hw_C bO, hw_C bS, hw_C bP, nx_C, nx_O, nx_S, nx_P, nx_w ha, nx_w hb, nx_w hc, eB_app, e1, e2, e3, show ¬ tPlu = tShu by decide]
        · simp [ksV, OkR, okS, stp, runs, SameR, opV, meV, g0, hw_w ha, hw_w hb, hw_C bO, hw_C bP, nx_O, nx_P, nx_w ha, nx_w hb, eB_app, e1, e2, show ¬ tPlu = tShu by decide]
      · simp [ksV, OkR, okS, stp, runs, SameR, opV, meV, g0, hw_w ha, hw_C bO, nx_O, nx_w ha, eB_app, e1]
    · by_cases e1 : (reV a).2 = 0
      · by_cases e2 : (nuV b 16).2 = 0
        · by_cases e3 : (reV c).2 = 0 <;> simp [ksV, OkR, okS, stp, runs, SameR, opV, meV, g0, hw_w ha, hw_w hb, hw_w hc, hw_C bC, hw_C bO, hw_C bS, hw_C bP, nx_C, nx_O, nx_S, nx_P, nx_w ha, nx_w hb, nx_w hc, eB_app, e1, e2, e3, show ¬ tPlu = tShu by decide]
        · simp [ksV, OkR, okS, stp, runs, SameR, opV, meV, g0, hw_w ha, hw_w hb, hw_C bO, hw_C bP, nx_O, nx_P, nx_w ha, nx_w hb, eB_app, e1, e2, show ¬ tPlu = tShu by decide]
      · simp [ksV, OkR, okS, stp, runs, SameR, opV, meV, g0, hw_w ha, hw_C bO, nx_O, nx_w ha, eB_app, e1]
  | storm f a b c h ha hb hc =>
    rw [spl_storm ha hb hc, off_storm ha]
    rcases h with rfl | rfl
    · by_cases e1 : (reV a).2 = 0
      · by_cases e2 : (nuV (tMin ++ b) 16).2 = 0
        · by_cases e3 : (nuV c 32).2 = 0 <;> simp [ksV, OkR, okS, stp, runs, SameR, opV, meV, g0, hw_w ha, hw_w hb, hw_w hc, hw_C bC, hw_C bO, hw_C bS, hw_C bM, nx_C, nx_O, nx_S, nx_m, nx_w ha, nx_w hb, nx_w hc, eB_app, e1, e2, e3, show ¬ tMin = tShu by decide]
        · simp [ksV, OkR, okS, stp, runs, SameR, opV, meV, g0, hw_w ha, hw_w hb, hw_C bO, hw_C bM, nx_O, nx_m, nx_w ha, nx_w hb, eB_app, e1, e2, show ¬ tMin = tShu by decide]
      · simp [ksV, OkR, okS, stp, runs, SameR, opV, meV, g0, hw_w ha, hw_C bO, nx_O, nx_w ha, eB_app, e1]
    · by_cases e1 : (reV a).2 = 0
      · by_cases e2 : (nuV (tMin ++ b) 16).2 = 0
        · by_cases e3 : (reV c).2 = 0 <;> simp [ksV, OkR, okS, stp, runs, SameR, opV, meV, g0, hw_w ha, hw_w hb, hw_w hc, hw_C bC, hw_C bO, hw_C bS, hw_C bM, nx_C, nx_O, nx_S, nx_m, nx_w ha, nx_w hb, nx_w hc, eB_app, e1, e2, e3, show ¬ tMin = tShu by decide]
        · simp [ksV, OkR, okS, stp, runs, SameR, opV, meV, g0, hw_w ha, hw_w hb, hw_C bO, hw_C bM, nx_O, nx_m, nx_w ha, nx_w hb, eB_app, e1, e2, show ¬ tMin = tShu by decide]
      · simp [ksV, OkR, okS, stp, runs, SameR, opV, meV, g0, hw_w ha, hw_C bO, nx_O, nx_w ha, eB_app, e1]
  | storn a b ha hb =>
    rw [spl_storn ha hb, off_storn ha hb]
    by_cases e1 : (reV a).2 = 0
    · by_cases e2 : (nuV (tMin ++ b) 32).2 = 0 <;> simp [ksV, OkR, okS, stp, runs, SameR, opV, meV, g0, hw_w ha, hw_w hb, hw_C bC, hw_C bO, hw_C bS, hw_C bM, nx_C, nx_O, nx_S, nx_m, nx_w ha, nx_w hb, eB_app, e1, e2]
    · simp [ksV, OkR, okS, stp, runs, SameR, opV, meV, g0, hw_w ha, hw_C bO, nx_O, nx_w ha, eB_app, e1]
  | storpn a b c ha hb hc =>
    rw [spl_storpn ha hb hc, off_storpn]
    by_cases e1 : (reV a).2 = 0
    · by_cases e2 : (nuV b 16).2 = 0
      · by_cases e3 : (nuV (tMin ++ c) 32).2 = 0 <;> simp [ksV, OkR, okS, stp, runs, SameR, opV, meV, g0, hw_w ha, hw_w hb, hw_w hc, hw_C bC, hw_C bO, hw_C bS, hw_C bP, hw_C bM, nx_C, nx_O, nx_S, nx_P, nx_m, nx_w ha, nx_w hb, nx_w hc, eB_app, e1, e2, e3, show ¬ tPlu = tShu by decide]
      · simp [ksV, OkR, okS, stp, runs, SameR, opV, meV, g0, hw_w ha, hw_w hb, hw_C bO, hw_C bP, nx_O, nx_P, nx_w ha, nx_w hb, eB_app, e1, e2, show ¬ tPlu = tShu by decide]
    · simp [ksV, OkR, okS, stp, runs, SameR, opV, meV, g0, hw_w ha, hw_C bO, nx_O, nx_w ha, eB_app, e1]
  | stormn a b c ha hb hc =>
    rw [spl_stormn ha hb hc, off_stormn ha]
    by_cases e1 : (reV a).2 = 0
    · by_cases e2 : (nuV (tMin ++ b) 16).2 = 0
      · by_cases e3 : (nuV (tMin ++ c) 32).2 = 0 <;> simp [ksV, OkR, okS, stp, runs, SameR, opV, meV, g0, hw_w ha, hw_w hb, hw_w hc, hw_C bC, hw_C bO, hw_C bS, hw_C bM, nx_C, nx_O, nx_S, nx_m, nx_w ha, nx_w hb, nx_w hc, eB_app, e1, e2, e3, show ¬ tMin = tShu by decide]
      · simp [ksV, OkR, okS, stp, runs, SameR, opV, meV, g0, hw_w ha, hw_w hb, hw_C bO, hw_C bM, nx_O, nx_m, nx_w ha, nx_w hb, eB_app, e1, e2, show ¬ tMin = tShu by decide]
    · simp [ksV, OkR, okS, stp, runs, SameR, opV, meV, g0, hw_w ha, hw_C bO, nx_O, nx_w ha, eB_app, e1]
end Go.Proofs.YtakblmonbeflmaaGreatDoor.L9
