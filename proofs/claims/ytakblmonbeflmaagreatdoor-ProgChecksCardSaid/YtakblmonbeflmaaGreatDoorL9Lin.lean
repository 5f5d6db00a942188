/- What the program's Line returns: the items of a line, or the first error. Condition: the line has at most 100000 bytes, and the tables read as the program's text lays them. -/
import Derived.Test.YtakblmonbeflmaaGreatDoorL9Beh
namespace Go.Proofs.YtakblmonbeflmaaGreatDoor.L9
open Go.RowKit
attribute [local go_sem] Oper.semAt_some

theorem txt_tkX (s : ByteArray) : L8.txt (L8.tkX s (L8.tks s)) = L8.txts s := by
  unfold L8.txt L8.tkX L8.txts
  rw [List.map_map]
  exact List.map_congr_left fun p _ => L8.ext_list s p.1 p.2
theorem toks_ok (s : ByteArray) : (L8.tkX s (L8.tks s)).length ≤ s.size ∧ (∀ t ∈ L8.txt (L8.tkX s (L8.tks s)), L8.TokT t) ∧ ∀ t ∈ txs (L8.tkX s (L8.tks s)), t.size ≤ s.size := by
  refine ⟨by rw [L8.tkX_len]; exact L8.tks_len s, by rw [txt_tkX]; exact L8.txts_tok s, fun x hx => ?_⟩
  unfold txs L8.tkX at hx
  rw [List.map_map, List.mem_map] at hx
  obtain ⟨p, _, rfl⟩ := hx
  show (s.extract p.1 p.2).size ≤ s.size
  rw [← L8.size_list, L8.ext_list, ← L8.size_list s, List.length_take, List.length_drop]; omega
/-- Memory holds items. -/
def ItAt (w : World) (v : Value) (l : List Value) : Prop :=
  (∃ b o cap, v = .slice (some ⟨b, o, none⟩) l.length cap ∧ b < w.heap.size ∧ ∀ j, (h : j < l.length) → w.cell? ⟨b, o + j, none⟩ = some l[j]) ∨ (l = [] ∧ ∃ a cap, v = .slice a 0 cap)
theorem ItAt.below {w w' : World} {v : Value} {l : List Value} (h : ItAt w v l) (hb : Below w.heap.size w w') : ItAt w' v l := by
  rcases h with ⟨b, o, cap, rfl, hlt, hc⟩ | h
  · exact .inl ⟨b, o, cap, rfl, Nat.lt_of_lt_of_le hlt hb.size, fun j hj => (hb.cell (by exact hlt)).trans (hc j hj)⟩
  · exact .inr h
theorem own_it {w : World} {base e : TypeId} {v : Value} {n : Nat} {l : List Value} (h : w.ownsRow base e 1 v n l) (hn : l.length = n) : ItAt w v l := by
  subst hn
  rcases h.2 with ⟨rfl, h0⟩ | ⟨g, cap, cur, rfl, _, hh, hcp, _, _, _⟩
  · exact .inr ⟨List.eq_nil_of_length_eq_zero h0, _, _, rfl⟩
  · refine .inl ⟨g, 0, cap, rfl, lt_of_block hh, fun j hj => ?_⟩
    have k1 := h.cells (g := g) rfl j l[j] (by simp [List.getElem?_eq_getElem hj])
    rw [Nat.zero_add]; rwa [L8.add0] at k1
/-- A line's items, and the error. -/
def prV (ts : List ByteArray) : List Value × Int :=
  let p := lab [] ts
  if p.1 ≠ 0 then ([], 7) else
  match p.2.2 with
  | [] => (p.2.1.map lbV, 0)
  | t :: q => if wdB t = false then ([], 2) else if (itB t q).2 ≠ 0 then ([], (itB t q).2) else (p.2.1.map lbV ++ [(itB t q).1], 0)
def prL (s : ByteArray) : List Value × Int := if 0 ≤ L8.bad s then ([], 2) else prV (txB s)
def LinP (l : List Value) (er : Int) (w : World) (e : Ending) (w' : World) : Prop := ∃ v, e = .returned (.tuple #[v, .int .i64 er]) ∧ ItAt w' v l ∧ Below w.heap.size w w' ∧ ∀ b, v.ownBlock = some b → ∃ cs, w'.heap[b]? = some (.cells cs 98)
theorem own_ty9 {w : World} {base e : TypeId} {size : Nat} {v : Value} {n : Nat} {xs : List Value} (h : w.ownsRow base e size v n xs) : ∀ g, v.ownBlock = some g → ∃ cur, w.heap[g]? = some (.cells cur e) := by
  intro g hg
  rcases h.2 with ⟨rfl, _⟩ | ⟨g', cap, cur, rfl, _, hh, _⟩
  · cases hg
  · obtain rfl : g' = g := by simpa [Value.ownBlock] using hg
    exact ⟨cur, hh⟩
theorem labels_err (v : Value) (xs : L8.Tks) (hm : xs.length ≤ 100000) (hxt : ∀ t ∈ L8.txt xs, L8.TokT t) (w : World) (hT : Tab w) (hv : L8.TksAt w v xs) (h : (lab [] (txs xs)).1 ≠ 0) :
    Calls Tryz.prog 88 #[v] w fun e w' => e = .returned (.tuple #[.slice none 0 0, .slice none 0 0, .int .i64 7]) ∧ Below w.heap.size w w' :=
  (labels_at v xs hm hxt w hT hv _ rfl).mono fun _ _ ⟨hB, hP⟩ => by
    rcases hP with ⟨h0, _⟩ | ⟨_, he⟩
    · exact absurd h0 h
    · exact ⟨he, hB⟩
def LabO (xs : L8.Tks) (p : List ByteArray × List ByteArray) (w : World) (e : Ending) (w' : World) : Prop := ∃ v1 a n cap ys, e = .returned (.tuple #[v1, .slice a n cap, .int .i64 0]) ∧ w'.ownsRow w.heap.size 98 1 v1 p.1.length (p.1.map lbV) ∧ L8.TksAt w' (.slice a n cap) ys ∧ txs ys = p.2 ∧ ys.length = n ∧ (∃ k, ys = xs.drop k) ∧ Below w.heap.size w w'
theorem labels_ok (v : Value) (xs : L8.Tks) (hm : xs.length ≤ 100000) (hxt : ∀ t ∈ L8.txt xs, L8.TokT t) (w : World) (hT : Tab w) (hv : L8.TksAt w v xs) (h : (lab [] (txs xs)).1 = 0) :
    Calls Tryz.prog 88 #[v] w fun e w' => LabO xs (lab [] (txs xs)).2 w e w' :=
  (labels_at v xs hm hxt w hT hv _ rfl).mono fun _ _ ⟨hB, hP⟩ => by
    rcases hP with ⟨_, v1, v2, ys, rfl, hown, hv2, hy, hk⟩ | ⟨h7, _⟩
    · obtain ⟨a, cap, rfl⟩ := hv2.form
      exact ⟨v1, a, _, cap, ys, rfl, hown, hv2, hy, rfl, hk, hB⟩
    · rw [h] at h7; cases h7
set_option maxHeartbeats 1000000 in
set_option maxRecDepth 100000 in
theorem line_bad (s : ByteArray) (hs : s.size ≤ 100000) (w : World) (hb : 0 ≤ L8.bad s) : Calls Tryz.prog 54 #[.string s] w fun e w' => e = .returned (.tuple #[.slice none 0 0, .int .i64 2]) ∧ Below w.heap.size w w' := by
  have HT := Lib.hid (L8.tokens_any s w hs)
  go_enter Tryz.func54, Tryz.ntmps54
  go_wp2_with (go_at_call 87; ((with_reducible refine (HT.out).mono ?_); intro e w1 hp; obtain ⟨a, cap, rfl, b1⟩ := L8.PT_bad hb hp; clear hp))
  go_ret2
  exact ⟨rfl, b1⟩
set_option maxHeartbeats 1000000 in
set_option maxRecDepth 100000 in
theorem line_label (s : ByteArray) (hs : s.size ≤ 100000) (w : World) (hT : Tab w) (hb : L8.bad s = -1) (h : (lab [] (txB s)).1 ≠ 0) : Calls Tryz.prog 54 #[.string s] w fun e w' => e = .returned (.tuple #[.slice none 0 0, .int .i64 7]) ∧ Below w.heap.size w w' := by
  have h2 := hT.lt
  obtain ⟨hl, hxt, hz⟩ := toks_ok s
  have HK := Lib.hid (L8.tokens_any s w hs)
  have HL := Lib.hid (fun (W : World) (hB : Below w.heap.size w W) (a : Option Addr) (cap : Nat) (hv : L8.TksAt W (.slice a (L8.tks s).length cap) (L8.tkX s (L8.tks s))) => labels_err _ _ (by omega) hxt W (hT.below hB h2) hv h)
  have HB := Lib.hid hb
  clear hT h hl hxt hz hb
  go_enter Tryz.func54, Tryz.ntmps54
  go_wp2_with (first | (go_at_call 87; ((with_reducible refine (HK.out).mono ?_); intro e w1 hp; obtain ⟨a, cap, rfl, hv, b1⟩ := L8.PT_ok HB.out hp; clear hp)) | (go_at_call 88; ((with_reducible refine (HL.out _ b1 _ _ hv).mono ?_); rintro e w2 ⟨rfl, b2⟩)))
  go_ret2
  exact ⟨rfl, L2.bch b1 b2⟩
set_option maxHeartbeats 1000000 in
set_option maxRecDepth 100000 in
theorem line_none (s : ByteArray) (hs : s.size ≤ 100000) (w : World) (hT : Tab w) (hb : L8.bad s = -1) (h : (lab [] (txB s)).1 = 0) (h0 : (lab [] (txB s)).2.2 = []) : Calls Tryz.prog 54 #[.string s] w fun e w' => LinP ((lab [] (txB s)).2.1.map lbV) 0 w e w' := by
  have h2 := hT.lt
  obtain ⟨hl, hxt, hz⟩ := toks_ok s
  have HK := Lib.hid (L8.tokens_any s w hs)
  have HL := Lib.hid (fun (W : World) (hB : Below w.heap.size w W) (a : Option Addr) (cap : Nat) (hv : L8.TksAt W (.slice a (L8.tks s).length cap) (L8.tkX s (L8.tks s))) => labels_ok _ _ (by omega) hxt W (hT.below hB h2) hv h)
  have HB := Lib.hid hb
  have H0 := Lib.hid h0
  clear hT h hl hxt hz hb h0
  go_enter Tryz.func54, Tryz.ntmps54
  go_wp2_with (first | (go_at_call 87; ((with_reducible refine (HK.out).mono ?_); intro e w1 hp; obtain ⟨a, cap, rfl, hv, b1⟩ := L8.PT_ok HB.out hp; clear hp)) | (go_at_call 88; ((with_reducible refine (HL.out _ b1 _ _ hv).mono ?_); rintro e w2 ⟨v1, a2, n2, cap2, ys, rfl, hown, hv2, hy, hn2, hk, b2⟩; obtain rfl : n2 = 0 := (by have e1 := hy.trans H0.out; have e2 : ys = [] := (by unfold txs at e1; exact List.map_eq_nil_iff.1 e1); rw [← hn2, e2]; rfl); clear hv2 hy hn2 hk)))
  refine bodyPost_ret (v := .tuple #[v1, .int .i64 0]) (by simp [results, Tryz.results54, go_sem]) rfl ?_
  exact ⟨v1, rfl, own_it hown (by rw [List.length_map]; rfl), L2.bch b1 b2, own_ty9 hown⟩
theorem ys_cons {ys : L8.Tks} {t : ByteArray} {q : List ByteArray} (h : txs ys = t :: q) : ∃ x r, ys = x :: r ∧ x.1 = t ∧ txs r = q := by
  cases ys with
  | nil => cases h
  | cons x r => unfold txs at h ⊢; rw [List.map_cons] at h; injection h with h1 h2; exact ⟨x, r, rfl, h1, h2⟩
theorem drop_facts {xs : L8.Tks} {x : ByteArray × Int} {r : L8.Tks} (hk : ∃ k, x :: r = xs.drop k) (hxt : ∀ t ∈ L8.txt xs, L8.TokT t) {m : Nat} (hz : ∀ t ∈ txs xs, t.size ≤ m) : (∀ t ∈ L8.txt (x :: r), L8.TokT t) ∧ (∀ t ∈ txs (x :: r), t.size ≤ m) ∧ r.length + 1 ≤ xs.length := by
  obtain ⟨k, hk⟩ := hk
  rw [show r.length + 1 = (x :: r).length from rfl, hk]
  refine ⟨fun t ht => hxt t ?_, fun t ht => hz t ?_, by rw [List.length_drop]; omega⟩
  · unfold L8.txt at ht ⊢
    rw [List.map_drop] at ht
    exact List.mem_of_mem_drop ht
  · unfold txs at ht ⊢
    rw [List.map_drop] at ht
    exact List.mem_of_mem_drop ht
set_option maxHeartbeats 2000000 in
set_option maxRecDepth 100000 in
theorem line_no (s : ByteArray) (hs : s.size ≤ 100000) (w : World) (hT : Tab w) (hb : L8.bad s = -1) (h : (lab [] (txB s)).1 = 0) (t : ByteArray) (q : List ByteArray) (h0 : (lab [] (txB s)).2.2 = t :: q) (hw : wdB t = false) : Calls Tryz.prog 54 #[.string s] w fun e w' => e = .returned (.tuple #[.slice none 0 0, .int .i64 2]) ∧ Below w.heap.size w w' := by
  have h2 := hT.lt
  obtain ⟨hl, hxt, hz⟩ := toks_ok s
  have HK := Lib.hid (L8.tokens_any s w hs)
  have HL := Lib.hid (fun (W : World) (hB : Below w.heap.size w W) (a : Option Addr) (cap : Nat) (hv : L8.TksAt W (.slice a (L8.tks s).length cap) (L8.tkX s (L8.tks s))) => labels_ok _ _ (by omega) hxt W (hT.below hB h2) hv h)
  have HB := Lib.hid hb
  have H0 := Lib.hid h0
  have HBH := Lib.hid (fun (W : World) (hB : Below w.heap.size w W) (b o n cap : Nat) (x : ByteArray × Int) (r : L8.Tks) (hk : ∃ k, x :: r = (L8.tkX s (L8.tks s)).drop k) (hx : x.1 = t) (hr : txs r = q) (hn : r.length + 1 = n) (hcp : n ≤ cap) (hbl : b < W.heap.size) (hc : L8.Tksat W b o (x :: r)) => behind_no b o n cap x r hn hcp W hbl hc (tok_head (drop_facts hk hxt hz).1).1 (by rw [hx]; exact hw))
  clear hT h hl hxt hz hb h0 hw
  go_enter Tryz.func54, Tryz.ntmps54
  go_wp2_with (first | (go_at_call 87; ((with_reducible refine (HK.out).mono ?_); intro e w1 hp; obtain ⟨a, cap, rfl, hv, b1⟩ := L8.PT_ok HB.out hp; clear hp)) | (go_at_call 88; ((with_reducible refine (HL.out _ b1 _ _ hv).mono ?_); rintro e w2 ⟨v1, a2, n2, cap2, ys, rfl, hown, hv2, hy, hn2, hk, b2⟩; obtain ⟨x, r, hyr, hx, hr⟩ := ys_cons (hy.trans H0.out); obtain ⟨bb, oo, rfl, hnc, hbl, hyl, hcs⟩ := hv2.get (by rw [← hn2, hyr]; simp); have hn0 : 0 < n2 := (by rw [← hn2, hyr]; simp); have B2 := L2.bch b1 b2; have HC := Lib.hid (HBH.out w2 B2 bb oo n2 cap2 x r (hyr ▸ hk) hx hr (by rw [← hn2, hyr]; rfl) hnc hbl (hyr ▸ hcs)); clear hv hv2 hy hn2 hk hyr hx hr hyl hcs hnc hbl)) | (go_at_call 89; ((with_reducible refine (HC.out).mono ?_); rintro e w3 ⟨rfl, b3⟩)))
  go_ret2
  exact ⟨rfl, L2.bch B2 b3⟩
set_option maxHeartbeats 2000000 in
set_option maxRecDepth 100000 in
theorem line_err (s : ByteArray) (hs : s.size ≤ 100000) (w : World) (hT : Tab w) (hb : L8.bad s = -1) (h : (lab [] (txB s)).1 = 0) (t : ByteArray) (q : List ByteArray) (h0 : (lab [] (txB s)).2.2 = t :: q) (hw : wdB t = true) (iv : Value) (er : Int) (hI : itB t q = (iv, er)) (hne : ¬ er = 0) : Calls Tryz.prog 54 #[.string s] w fun e w' => e = .returned (.tuple #[.slice none 0 0, .int .i64 er]) ∧ Below w.heap.size w w' := by
  have h2 := hT.lt
  obtain ⟨hl, hxt, hz⟩ := toks_ok s
  have HK := Lib.hid (L8.tokens_any s w hs)
  have HL := Lib.hid (fun (W : World) (hB : Below w.heap.size w W) (a : Option Addr) (cap : Nat) (hv : L8.TksAt W (.slice a (L8.tks s).length cap) (L8.tkX s (L8.tks s))) => labels_ok _ _ (by omega) hxt W (hT.below hB h2) hv h)
  have HB := Lib.hid hb
  have H0 := Lib.hid h0
  have HBH := Lib.hid (fun (W : World) (hB : Below w.heap.size w W) (b o n cap : Nat) (x : ByteArray × Int) (r : L8.Tks) (hk : ∃ k, x :: r = (L8.tkX s (L8.tks s)).drop k) (hx : x.1 = t) (hr : txs r = q) (hn : r.length + 1 = n) (hcp : n ≤ cap) (hbl : b < W.heap.size) (hc : L8.Tksat W b o (x :: r)) => behind_yes b o n cap x r hn (by have := (drop_facts hk hxt hz).2.2; omega) hcp W (hT.below hB h2) hbl hc (fun t ht => by have := (drop_facts hk hxt hz).2.1 t ht; omega) (drop_facts hk hxt hz).1 (by rw [hx]; exact hw) iv er (by rw [hx, hr]; exact hI))
  clear hT h hl hxt hz hb h0 hw hI
  go_enter Tryz.func54, Tryz.ntmps54
  go_wp2_with (first | (go_at_call 87; ((with_reducible refine (HK.out).mono ?_); intro e w1 hp; obtain ⟨a, cap, rfl, hv, b1⟩ := L8.PT_ok HB.out hp; clear hp)) | (go_at_call 88; ((with_reducible refine (HL.out _ b1 _ _ hv).mono ?_); rintro e w2 ⟨v1, a2, n2, cap2, ys, rfl, hown, hv2, hy, hn2, hk, b2⟩; obtain ⟨x, r, hyr, hx, hr⟩ := ys_cons (hy.trans H0.out); obtain ⟨bb, oo, rfl, hnc, hbl, hyl, hcs⟩ := hv2.get (by rw [← hn2, hyr]; simp); have hn0 : 0 < n2 := (by rw [← hn2, hyr]; simp); have B2 := L2.bch b1 b2; have HC := Lib.hid (HBH.out w2 B2 bb oo n2 cap2 x r (hyr ▸ hk) hx hr (by rw [← hn2, hyr]; rfl) hnc hbl (hyr ▸ hcs)); clear hv hv2 hy hn2 hk hyr hx hr hyl hcs hnc hbl)) | (go_at_call 89; ((with_reducible refine (HC.out).mono ?_); rintro e w3 ⟨rfl, b3⟩)))
  go_ret2
  exact ⟨rfl, L2.bch B2 b3⟩
set_option maxHeartbeats 4000000 in
set_option maxRecDepth 100000 in
theorem line_yes (s : ByteArray) (hs : s.size ≤ 100000) (w : World) (hT : Tab w) (hb : L8.bad s = -1) (h : (lab [] (txB s)).1 = 0) (t : ByteArray) (q : List ByteArray) (h0 : (lab [] (txB s)).2.2 = t :: q) (hw : wdB t = true) (ty : TypeId) (iu : Value) (hI : itB t q = (.iface ty iu, 0)) (labs : List ByteArray) (hlb : (lab [] (txB s)).2.1 = labs) (hll : labs.length ≤ 100000) : Calls Tryz.prog 54 #[.string s] w fun e w' => LinP (labs.map lbV ++ [.iface ty iu]) 0 w e w' := by
  obtain ⟨i0, hi, hz0, hz1, hz2⟩ := info_parts Tryz.info98
  have h2 := hT.lt
  obtain ⟨hl, hxt, hz⟩ := toks_ok s
  have HK := Lib.hid (L8.tokens_any s w hs)
  have HL := Lib.hid (fun (W : World) (hB : Below w.heap.size w W) (a : Option Addr) (cap : Nat) (hv : L8.TksAt W (.slice a (L8.tks s).length cap) (L8.tkX s (L8.tks s))) => labels_ok _ _ (by omega) hxt W (hT.below hB h2) hv h)
  have HB := Lib.hid hb
  have H0 := Lib.hid h0
  have HBH := Lib.hid (fun (W : World) (hB : Below w.heap.size w W) (b o n cap : Nat) (x : ByteArray × Int) (r : L8.Tks) (hk : ∃ k, x :: r = (L8.tkX s (L8.tks s)).drop k) (hx : x.1 = t) (hr : txs r = q) (hn : r.length + 1 = n) (hcp : n ≤ cap) (hbl : b < W.heap.size) (hc : L8.Tksat W b o (x :: r)) => behind_yes b o n cap x r hn (by have := (drop_facts hk hxt hz).2.2; omega) hcp W (hT.below hB h2) hbl hc (fun t ht => by have := (drop_facts hk hxt hz).2.1 t ht; omega) (drop_facts hk hxt hz).1 (by rw [hx]; exact hw) (.iface ty iu) 0 (by rw [hx, hr]; exact hI))
  obtain ⟨m, hm⟩ : ∃ m, labs.length = m := ⟨_, rfl⟩
  rw [hm] at hll
  have HM := Lib.hid hm
  have HLB := Lib.hid hlb
  clear hT h hl hxt hz hb h0 hw hI hm hlb
  go_enter Tryz.func54, Tryz.ntmps54
  go_wp2_with (first | (go_at_call 87; ((with_reducible refine (HK.out).mono ?_); intro e w1 hp; obtain ⟨a, cap, rfl, hv, b1⟩ := L8.PT_ok HB.out hp; clear hp)) | (go_at_call 88; ((with_reducible refine (HL.out _ b1 _ _ hv).mono ?_); rintro e w2 ⟨v1, a2, n2, cap2, ys, rfl, hown, hv2, hy, hn2, hk, b2⟩; obtain ⟨x, r, hyr, hx, hr⟩ := ys_cons (hy.trans H0.out); obtain ⟨bb, oo, rfl, hnc, hbl, hyl, hcs⟩ := hv2.get (by rw [← hn2, hyr]; simp); have hn0 : 0 < n2 := (by rw [← hn2, hyr]; simp); have B2 := L2.bch b1 b2; have HC := Lib.hid (HBH.out w2 B2 bb oo n2 cap2 x r (hyr ▸ hk) hx hr (by rw [← hn2, hyr]; rfl) hnc hbl (hyr ▸ hcs)); clear hv hv2 hy hn2 hk hyr hx hr hyl hcs hnc hbl)) | (go_at_call 89; ((with_reducible refine (HC.out).mono ?_); rintro e w3 ⟨rfl, b3⟩; have hown3 := L8.own_below hown b3; rw [show (lab [] (txs (L8.tkX s (L8.tks s)))).2.1 = labs from HLB.out, HM.out] at hown3; have B3 := L2.bch B2 b3; have b1s := b1.size; have b2s := b2.size; have b3s := b3.size; clear hown)) | (at_builtin; refine wpList_append_own _ rfl _ _ 94 rfl w1.heap.size 98 i0 .nilIface 1 16 Tryz.underlying94 hi hz0 hz1 hz2 rfl (by decide) _ m _ rfl (hown3.alloc _) ⟨w3.heap.size, 0, none⟩ 1 1 [.iface ty iu] rfl rfl (World.news_of_block (cs := #[.iface ty iu]) (t := 98) (fr := (0, 0)) (heap_alloc_last w3 _)) (by simp [Value.oneCell']) (by unfold maxLen; omega) (by omega) (by simp; omega) ?_; intro v' w4 hown4 hgrow4 _))
  refine bodyPost_ret (v := .tuple #[v', .int .i64 0]) (by simp [results, Tryz.results54, go_sem]) rfl ?_
  refine ⟨v', rfl, own_it hown4 (by rw [List.length_append, List.length_map, HM.out]; rfl), (L2.bch B3 (L8.bnew _ _)).grown hgrow4 (by simp; omega) (fun k hk => ?_), own_ty9 hown4⟩
  have := L8.own_base hown3 k hk
  omega
end Go.Proofs.YtakblmonbeflmaaGreatDoor.L9
