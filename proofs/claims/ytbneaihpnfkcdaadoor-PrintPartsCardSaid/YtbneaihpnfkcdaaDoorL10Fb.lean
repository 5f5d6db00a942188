/- What the program's firstBreach and Check return: the first breach of the nine conditions. Condition: memory holds the program, and the tables read as the program's text lays them. -/
import Derived.Test.YtbneaihpnfkcdaaDoorL10Con
namespace Go.Proofs.YtbneaihpnfkcdaaDoor.L10
open Go.RowKit Go.Maps
attribute [local go_sem] Oper.semAt_some

/-- All cells stay as they were. -/
structure KC (W1 W : World) : Prop where
  size : W1.heap.size ≤ W.heap.size
  row : ∀ (k : Nat) (cs : Array Value) (t : TypeId) (fr : Nat × Nat), W1.heap[k]? = some (.cells cs t fr) → W.heap[k]? = some (.cells cs t fr)
theorem KC.refl (W : World) : KC W W := ⟨Nat.le_refl _, fun _ _ _ _ h => h⟩
theorem KC.cell {W1 W : World} (h : KC W1 W) {p : Addr} {v : Value} (hc : W1.cell? p = some v) : W.cell? p = some v := by
  unfold World.cell? at hc ⊢
  split at hc
  · rename_i c e f hh
    rw [h.row _ _ _ _ hh]
    exact hc
  · cases hc
theorem KC.gr {W1 W W' : World} {o : Option Nat} (h : KC W1 W) (hg : W.grownBy W' o) (hn : NoC W o) : KC W1 W' := ⟨Nat.le_trans h.size hg.size, fun k cs t fr hk => gr_row hg hn (h.row k cs t fr hk)⟩
theorem KC.st {W1 W : World} (h : KC W1 W) {v : Value} {l : List ByteArray} (hv : L8.StAt W1 v l) : L8.StAt W v l := by
  rcases hv with ⟨b, o, cap, rfl, hlt, hc⟩ | hv
  · exact .inl ⟨b, o, cap, rfl, Nat.lt_of_lt_of_le hlt h.size, fun j hj => h.cell (hc j hj)⟩
  · exact .inr hv
theorem KC.df {W1 W : World} (h : KC W1 W) {v : Value} {l : List L9.Df} (hv : DfAt W1 v l) : DfAt W v l := by
  rcases hv with ⟨b, o, cap, rfl, hlt, hc⟩ | hv
  · exact .inl ⟨b, o, cap, rfl, Nat.lt_of_lt_of_le hlt h.size, fun j hj i u hu => h.cell (hc j hj i u hu)⟩
  · exact .inr hv
theorem KC.sm {W1 W : World} (h : KC W1 W) {v : Value} {l : List Stm} (hv : SmAt W1 v l) : SmAt W v l := by
  rcases hv with ⟨b, o, cap, rfl, hlt, hc⟩ | hv
  · refine .inl ⟨b, o, cap, rfl, Nat.lt_of_lt_of_le hlt h.size, fun j hj => ?_⟩
    obtain ⟨lv, h1, h2⟩ := hc j hj
    exact ⟨lv, h.st h1, fun i u hu => h.cell (h2 i u hu)⟩
  · exact .inr hv
theorem KC.one {W1 W : World} (h : KC W1 W) {k : Nat} {v : Value} {t : TypeId} (hk : W1.heap[k]? = some (.cells #[v] t)) : W.cell? ⟨k, 0, none⟩ = some v := by
  simp [World.cell?, h.row _ _ _ _ hk]
/-- What the searches keep: all that stood before, all cells since, the tables; and the sets as they are. -/
structure Inv (w W1 : World) (g3 g4 : Nat) (ms ls : List ByteArray) (W : World) : Prop where
  bel : Below w.heap.size w W
  kc : KC W1 W
  tab : L1.Wid W ∧ L2.Regs W
  s3 : SetAt W g3 ms
  s4 : SetAt W g4 ls
theorem noC_none (w : World) : NoC w none := fun g h => by cases h
theorem noC_set {w : World} {g : Nat} {ks : List ByteArray} (h : SetAt w g ks) : NoC w (some g) := fun x hx cs t fr e => by cases hx; exact map_cells h cs t fr e
section
variable {w W1 : World} {g3 g4 : Nat} {ms ls : List ByteArray} {W W' : World}
theorem Inv.below (h : Inv w W1 g3 g4 ms ls W) (hb : Below W.heap.size W W') : Inv w W1 g3 g4 ms ls W' :=
  ⟨L2.bch h.bel hb, h.kc.gr (gr_of hb none) (noC_none _), ⟨L4.wid_below h.tab.1 hb, h.tab.2.below hb⟩, set_below h.s3 hb, set_below h.s4 hb⟩
theorem bel_gr (h : Below w.heap.size w W) (hg : W.grownBy W' (some g3)) (lo : w.heap.size ≤ g3) : Below w.heap.size w W' := h.grown hg h.size (fun j hj => by cases hj; exact lo)
theorem tab_gr (h : L1.Wid W ∧ L2.Regs W) (hg : W.grownBy W' (some g3)) (hn : NoC W (some g3)) : L1.Wid W' ∧ L2.Regs W' := by
  obtain ⟨⟨t, fr, h1⟩, ⟨t', fr', h2⟩⟩ := h
  exact ⟨⟨t, fr, gr_row hg hn h1⟩, ⟨t', fr', gr_row hg hn h2⟩⟩
theorem Inv.gr3 (h : Inv w W1 g3 g4 ms ls W) (hg : W.grownBy W' (some g3)) (lo : w.heap.size ≤ g3) (hne : g3 ≠ g4) {ms' : List ByteArray} (hs : SetAt W' g3 ms') : Inv w W1 g3 g4 ms' ls W' :=
  ⟨bel_gr h.bel hg lo, h.kc.gr hg (noC_set h.s3), tab_gr h.tab hg (noC_set h.s3), hs, set_of h.s4 (hg.block _ (set_lt h.s4) (by simpa using Ne.symm hne))⟩
theorem Inv.gr4 (h : Inv w W1 g3 g4 ms ls W) (hg : W.grownBy W' (some g4)) (lo : w.heap.size ≤ g4) (hne : g3 ≠ g4) {ls' : List ByteArray} (hs : SetAt W' g4 ls') : Inv w W1 g3 g4 ms ls' W' :=
  ⟨bel_gr h.bel hg lo, h.kc.gr hg (noC_set h.s4), tab_gr h.tab hg (noC_set h.s4), set_of h.s3 (hg.block _ (set_lt h.s3) (by simpa using hne)), hs⟩
end
/-- What a search comes to, of the next condition. -/
def FnP (w W1 : World) (g3 g4 : Nat) (ms ls : List ByteArray) (r : Nat × Int) (W : World) (e : Ending) (W' : World) : Prop :=
  e = .returned (.tuple #[.int .i64 (r.1 : Int), .int .i64 r.2]) ∧ Below w.heap.size w W' ∧ KC W W' ∧ (r.2 = 0 → Inv w W1 g3 g4 ms ls W')
theorem getD_map {α : Type} (l : List α) (f : α → Int) (j : Nat) (h : j < l.length) : (l.map f).getD j 0 = f l[j] := by simp [List.getD, List.getElem?_map, List.getElem?_eq_getElem h]
theorem szE_get (n j : Nat) (h : j < n) : (szE n).getD j 0 = if j < 255 then 0 else 16 := by simp [szE, List.getD, h]
theorem take_snocm (l : List L9.Df) (j : Nat) (h : j < l.length) : (l.take (j + 1)).map (fun d : L9.Df => d.nm) = (l.take j).map (fun d : L9.Df => d.nm) ++ [l[j].nm] := by
  rw [List.take_add_one, List.getElem?_eq_getElem h, List.map_append]; rfl
theorem take_snocl (l : List Stm) (j : Nat) (h : j < l.length) : (l.take (j + 1)).flatMap (fun s : Stm => s.labs) = (l.take j).flatMap (fun s : Stm => s.labs) ++ l[j].labs := by
  rw [List.take_add_one, List.getElem?_eq_getElem h, List.flatMap_append]; simp
theorem flat_one (l : List L9.Df) : (l.map fun d => [d.nm]).flatten = l.map (fun d : L9.Df => d.nm) := by
  induction l with
  | nil => rfl
  | cons a r ih => simp [ih]
theorem dp1_get (l : List L9.Df) (j : Nat) (h : j < l.length) : (dpE [] (l.map fun d => [d.nm])).getD j 0 = if addB ((l.take j).map (fun d : L9.Df => d.nm)) [l[j].nm] then 0 else 10 := by
  rw [List.getD, dpE_get _ _ j (by simpa using h), ← List.map_take, flat_one]
  simp
theorem dp2_get (l : List Stm) (j : Nat) (h : j < l.length) : (dpE [] (l.map (fun s : Stm => s.labs))).getD j 0 = if addB ((l.take j).flatMap (fun s : Stm => s.labs)) l[j].labs then 0 else 10 := by
  rw [List.getD, dpE_get _ _ j (by simpa using h), ← List.map_take, ← List.flatMap_def]
  simp
theorem len_flat (l : List Stm) (j : Nat) (h : j < l.length) : ((l.take j).flatMap (fun s : Stm => s.labs)).length + l[j].labs.length ≤ (l.flatMap (fun s : Stm => s.labs)).length := by
  have e : l = l.take (j + 1) ++ l.drop (j + 1) := (List.take_append_drop _ _).symm
  have h2 : (l.flatMap (fun s : Stm => s.labs)).length = ((l.take (j + 1)).flatMap (fun s : Stm => s.labs)).length + ((l.drop (j + 1)).flatMap (fun s : Stm => s.labs)).length := by
    conv => lhs; rw [e]
    rw [List.flatMap_append, List.length_append]
  rw [h2, take_snocl l j h, List.length_append]
  omega
theorem Fits.lab_sum {p : Pg} (hf : Fits p) (j : Nat) (h : j < p.stmts.length) : ((p.stmts.take j).flatMap (fun s : Stm => s.labs)).length + p.stmts[j].labs.length ≤ 100000 := Nat.le_trans (len_flat p.stmts j h) hf.labs
theorem Fits.lab_le {p : Pg} (hf : Fits p) (j : Nat) (h : j < p.stmts.length) : p.stmts[j].labs.length ≤ 100000 := by have := hf.lab_sum j h; omega
section
variable {w W1 : World} {vm vs : Value} {g k1 k3 k4 g3 g4 : Nat} {v1 v2 v3 v4 v5 v7 v8 v9 : Value} {p : Pg}
theorem find1 (hp : PgAt W1 vm vs p) (hf : Fits p) (kb kf : Nat) (hb : W1.heap[kb]? = some (.cells #[vm] 37)) (hk : W1.heap[kf]? = some (.cells #[.func (.func 51) #[] #[]] 92)) (W : World) (hI : Inv w W1 g3 g4 [] [] W) :
    Calls Tryd.prog 74 #[.pointer (some ⟨kb, 0, none⟩), .pointer (some ⟨kf, 0, none⟩)] W fun e W' => FnP w W1 g3 g4 [] [] (fe (p.maps.map deE)) W e W' :=
  (each1 none kb kf vm p.maps (p.maps.map deE) (fun _ W => Inv w W1 g3 g4 [] [] W) W (hI.kc.df hp.1) hf.maps (by simp) (hI.kc.one hb) (hI.kc.one hk) (noC_none _) hI (fun _ _ _ h hb => h.below hb)
    (fun j h W hI => (c1_at (j : Int) p.maps[j] _ W hI.tab.2 rfl).mono fun e W' ⟨he, hb⟩ => by
      rw [getD_map _ _ _ h]
      exact ⟨he, gr_of hb _, fun _ => hI.below hb⟩)).mono fun e W' ⟨he, hg, hq⟩ => ⟨he, L2.bch hI.bel (gr_to hg), (KC.refl W).gr hg (noC_none _), fun h0 => hq h0⟩
theorem find2 (hp : PgAt W1 vm vs p) (hf : Fits p) (kb kf : Nat) (hb : W1.heap[kb]? = some (.cells #[vs] 36)) (hk : W1.heap[kf]? = some (.cells #[.func (.func 54) #[] #[]] 95)) (W : World) (hI : Inv w W1 g3 g4 [] [] W) :
    Calls Tryd.prog 77 #[.pointer (some ⟨kb, 0, none⟩), .pointer (some ⟨kf, 0, none⟩)] W fun e W' => FnP w W1 g3 g4 [] [] (fe (p.stmts.map stE)) W e W' :=
  (each2 none kb kf vs p.stmts (p.stmts.map stE) (fun _ W => Inv w W1 g3 g4 [] [] W) W (hI.kc.sm hp.2) hf.stmts (by simp) (hI.kc.one hb) (hI.kc.one hk) (noC_none _) hI (fun _ _ _ h hb => h.below hb)
    (fun j h lv W hl hI => (c2_at (j : Int) lv p.stmts[j] _ W hI.tab hl (hf.lab_le j h) rfl).mono fun e W' ⟨he, hb⟩ => by
      rw [getD_map _ _ _ h]
      exact ⟨he, gr_of hb _, fun _ => hI.below hb⟩)).mono fun e W' ⟨he, hg, hq⟩ => ⟨he, L2.bch hI.bel (gr_to hg), (KC.refl W).gr hg (noC_none _), fun h0 => hq h0⟩
theorem find3 (hp : PgAt W1 vm vs p) (hf : Fits p) (kb kf : Nat) (hb : W1.heap[kb]? = some (.cells #[vm] 37)) (hk : W1.heap[kf]? = some (.cells #[.func (.func 56) #[] #[]] 92)) (W : World) (hI : Inv w W1 g3 g4 [] [] W) :
    Calls Tryd.prog 74 #[.pointer (some ⟨kb, 0, none⟩), .pointer (some ⟨kf, 0, none⟩)] W fun e W' => FnP w W1 g3 g4 [] [] (fe (szE p.maps.length)) W e W' :=
  (each3 none kb kf vm p.maps (szE p.maps.length) (fun _ W => Inv w W1 g3 g4 [] [] W) W (hI.kc.df hp.1) hf.maps (by simp [szE]) (hI.kc.one hb) (hI.kc.one hk) (noC_none _) hI (fun _ _ _ h hb => h.below hb)
    (fun j h W hI => (c3_at j p.maps[j].key p.maps[j].val p.maps[j].ent p.maps[j].nm _ W rfl).mono fun e W' ⟨he, hb⟩ => by
      rw [szE_get _ _ h]
      exact ⟨he, gr_of hb _, fun _ => hI.below hb⟩)).mono fun e W' ⟨he, hg, hq⟩ => ⟨he, L2.bch hI.bel (gr_to hg), (KC.refl W).gr hg (noC_none _), fun h0 => hq h0⟩
theorem find4 (hC : CnS W1 vm vs g k1 k3 k4 g3 g4 v1 v2 v3 v4 v5 v7 v8 v9) (hp : PgAt W1 vm vs p) (hf : Fits p) (lo3 : w.heap.size ≤ g3) (hne : g3 ≠ g4) (kb kf : Nat) (hb : W1.heap[kb]? = some (.cells #[vm] 37)) (hk : W1.heap[kf]? = some (.cells #[.func (.func 58) #[] #[.pointer (some ⟨k3, 0, none⟩)]] 92)) (W : World) (hI : Inv w W1 g3 g4 [] [] W) :
    Calls Tryd.prog 74 #[.pointer (some ⟨kb, 0, none⟩), .pointer (some ⟨kf, 0, none⟩)] W fun e W' => FnP w W1 g3 g4 (mpL p) [] (fe (dpE [] (p.maps.map fun d => [d.nm]))) W e W' :=
  (each4 (some g3) kb kf k3 vm p.maps (dpE [] (p.maps.map fun d => [d.nm])) (fun j W => Inv w W1 g3 g4 ((p.maps.take j).map (fun d : L9.Df => d.nm)) [] W) W (hI.kc.df hp.1) hf.maps (by rw [dpE_len, List.length_map]) (hI.kc.one hb) (hI.kc.one hk) (noC_set hI.s3) (by simpa using hI) (fun _ _ _ h hb => h.below hb)
    (fun j h W hI => (c4_at (j : Int) p.maps[j].key p.maps[j].val p.maps[j].ent p.maps[j].nm k3 g3 ((p.maps.take j).map (fun d : L9.Df => d.nm)) _ W (hI.kc.one hC.box3) hI.s3 (hf.nm _ (List.getElem_mem h)) (by have := hf.maps; rw [List.length_map, List.length_take]; omega) rfl).mono fun e W' ⟨he, hg, hs⟩ => by
      rw [dp1_get p.maps j h]
      exact ⟨he, hg, fun h0 => hI.gr3 hg lo3 hne (by rw [take_snocm p.maps j h]; exact hs h0)⟩)).mono fun e W' ⟨he, hg, hq⟩ => ⟨he, bel_gr hI.bel hg lo3, (KC.refl W).gr hg (noC_set hI.s3), fun h0 => by have h2 := hq h0; dsimp only at h2; rwa [List.take_length] at h2⟩
theorem find5 (hC : CnS W1 vm vs g k1 k3 k4 g3 g4 v1 v2 v3 v4 v5 v7 v8 v9) (hp : PgAt W1 vm vs p) (hf : Fits p) (lo4 : w.heap.size ≤ g4) (hne : g3 ≠ g4) (kb kf : Nat) (hb : W1.heap[kb]? = some (.cells #[vs] 36)) (hk : W1.heap[kf]? = some (.cells #[.func (.func 60) #[] #[.pointer (some ⟨k4, 0, none⟩)]] 95)) (W : World) (hI : Inv w W1 g3 g4 (mpL p) [] W) :
    Calls Tryd.prog 77 #[.pointer (some ⟨kb, 0, none⟩), .pointer (some ⟨kf, 0, none⟩)] W fun e W' => FnP w W1 g3 g4 (mpL p) (alL p) (fe (dpE [] (p.stmts.map (fun s : Stm => s.labs)))) W e W' :=
  (each5 (some g4) kb kf k4 vs p.stmts (dpE [] (p.stmts.map (fun s : Stm => s.labs))) (fun j W => Inv w W1 g3 g4 (mpL p) ((p.stmts.take j).flatMap (fun s : Stm => s.labs)) W) W (hI.kc.sm hp.2) hf.stmts (by rw [dpE_len, List.length_map]) (hI.kc.one hb) (hI.kc.one hk) (noC_set hI.s4) (by simpa using hI) (fun _ _ _ h hb => h.below hb)
    (fun j h lv W hl hI => (c5_at (j : Int) lv p.stmts[j] k4 g4 ((p.stmts.take j).flatMap (fun s : Stm => s.labs)) _ W (hI.kc.one hC.box4) hI.s4 (hf.lb _ (List.getElem_mem h)) (hf.lab_sum j h) hl rfl).mono fun e W' ⟨he, hg, hs⟩ => by
      rw [dp2_get p.stmts j h]
      exact ⟨he, hg, fun h0 => hI.gr4 hg lo4 hne (by rw [take_snocl p.stmts j h]; exact hs h0)⟩)).mono fun e W' ⟨he, hg, hq⟩ => ⟨he, bel_gr hI.bel hg lo4, (KC.refl W).gr hg (noC_set hI.s4), fun h0 => by have h2 := hq h0; dsimp only at h2; rwa [List.take_length] at h2⟩
theorem find6 (hC : CnS W1 vm vs g k1 k3 k4 g3 g4 v1 v2 v3 v4 v5 v7 v8 v9) (hp : PgAt W1 vm vs p) (W : World) (hI : Inv w W1 g3 g4 (mpL p) (alL p) W) :
    Calls Tryd.prog 61 #[.pointer (some ⟨k1, 0, none⟩)] W fun e W' => FnP w W1 g3 g4 (mpL p) (alL p) (0, if 0 < p.stmts.length then 0 else 15) W e W' := by
  obtain ⟨a, cap, rfl, -⟩ := sm_form rfl hp.2
  have hc := (cells2 (hI.kc.row _ _ _ _ hC.prg)).2
  exact (c6_at k1 _ cap a _ W hc rfl).mono fun e W' ⟨he, hw⟩ => by
    subst hw
    exact ⟨he, hI.bel, KC.refl W, fun _ => hI⟩
theorem find7 (hC : CnS W1 vm vs g k1 k3 k4 g3 g4 v1 v2 v3 v4 v5 v7 v8 v9) (hp : PgAt W1 vm vs p) (hf : Fits p) (kb kf : Nat) (hb : W1.heap[kb]? = some (.cells #[vs] 36)) (hk : W1.heap[kf]? = some (.cells #[.func (.func 62) #[] #[.pointer (some ⟨k4, 0, none⟩), .pointer (some ⟨k3, 0, none⟩)]] 95)) (W : World) (hI : Inv w W1 g3 g4 (mpL p) (alL p) W) :
    Calls Tryd.prog 77 #[.pointer (some ⟨kb, 0, none⟩), .pointer (some ⟨kf, 0, none⟩)] W fun e W' => FnP w W1 g3 g4 (mpL p) (alL p) (fe (p.stmts.map (unE p))) W e W' :=
  (each7 none kb kf k4 k3 vs p.stmts (p.stmts.map (unE p)) (fun _ W => Inv w W1 g3 g4 (mpL p) (alL p) W) W (hI.kc.sm hp.2) hf.stmts (by simp) (hI.kc.one hb) (hI.kc.one hk) (noC_none _) hI (fun _ _ _ h hb => h.below hb)
    (fun j h lv W hl hI => by
      obtain ⟨la, lc, rfl, -⟩ := st_form rfl hl
      exact (c7_at (j : Int) la _ lc p.stmts[j] k4 k3 g4 g3 (alL p) (mpL p) _ W (hI.kc.one hC.box4) (hI.kc.one hC.box3) hI.s4 hI.s3 (hf.tg _ (List.getElem_mem h)) rfl).mono fun e W' ⟨he, hb⟩ => by
        rw [getD_map _ _ _ h]
        exact ⟨he, gr_of hb _, fun _ => hI.below hb⟩)).mono fun e W' ⟨he, hg, hq⟩ => ⟨he, L2.bch hI.bel (gr_to hg), (KC.refl W).gr hg (noC_none _), fun h0 => hq h0⟩
theorem find8 (hp : PgAt W1 vm vs p) (hf : Fits p) (kb kf : Nat) (hb : W1.heap[kb]? = some (.cells #[vs] 36)) (hk : W1.heap[kf]? = some (.cells #[.func (.func 63) #[] #[]] 95)) (W : World) (hI : Inv w W1 g3 g4 (mpL p) (alL p) W) :
    Calls Tryd.prog 77 #[.pointer (some ⟨kb, 0, none⟩), .pointer (some ⟨kf, 0, none⟩)] W fun e W' => FnP w W1 g3 g4 (mpL p) (alL p) (fe (p.stmts.map wrE)) W e W' :=
  (each8 none kb kf vs p.stmts (p.stmts.map wrE) (fun _ W => Inv w W1 g3 g4 (mpL p) (alL p) W) W (hI.kc.sm hp.2) hf.stmts (by simp) (hI.kc.one hb) (hI.kc.one hk) (noC_none _) hI (fun _ _ _ h hb => h.below hb)
    (fun j h lv W hl hI => by
      obtain ⟨la, lc, rfl, -⟩ := st_form rfl hl
      exact (c8_at (j : Int) la _ lc p.stmts[j] _ W rfl).mono fun e W' ⟨he, hb⟩ => by
        rw [getD_map _ _ _ h]
        exact ⟨he, gr_of hb _, fun _ => hI.below hb⟩)).mono fun e W' ⟨he, hg, hq⟩ => ⟨he, L2.bch hI.bel (gr_to hg), (KC.refl W).gr hg (noC_none _), fun h0 => hq h0⟩
theorem find9 (hC : CnS W1 vm vs g k1 k3 k4 g3 g4 v1 v2 v3 v4 v5 v7 v8 v9) (hp : PgAt W1 vm vs p) (hf : Fits p) (kb kf : Nat) (hb : W1.heap[kb]? = some (.cells #[vs] 36)) (hk : W1.heap[kf]? = some (.cells #[.func (.func 65) #[] #[.pointer (some ⟨k1, 0, none⟩)]] 95)) (W : World) (hI : Inv w W1 g3 g4 (mpL p) (alL p) W) :
    Calls Tryd.prog 77 #[.pointer (some ⟨kb, 0, none⟩), .pointer (some ⟨kf, 0, none⟩)] W fun e W' => FnP w W1 g3 g4 (mpL p) (alL p) (fe (p.stmts.mapIdx (enE p.stmts.length))) W e W' := by
  obtain ⟨a, cap, rfl, -⟩ := sm_form rfl hp.2
  exact (each9 none kb kf k1 _ p.stmts (p.stmts.mapIdx (enE p.stmts.length)) (fun _ W => Inv w W1 g3 g4 (mpL p) (alL p) W) W (hI.kc.sm hp.2) hf.stmts (by simp) (hI.kc.one hb) (hI.kc.one hk) (noC_none _) hI (fun _ _ _ h hb => h.below hb)
    (fun j h lv W hl hI => by
      obtain ⟨la, lc, rfl, -⟩ := st_form rfl hl
      exact (c9_at j la _ lc p.stmts[j] k1 _ cap a _ W (cells2 (hI.kc.row _ _ _ _ hC.prg)).2 hf.stmts rfl).mono fun e W' ⟨he, hb⟩ => by
        rw [show (p.stmts.mapIdx (enE p.stmts.length)).getD j 0 = enE p.stmts.length j p.stmts[j] by simp [List.getD, List.getElem?_mapIdx, List.getElem?_eq_getElem h]]
        exact ⟨he, gr_of hb _, fun _ => hI.below hb⟩)).mono fun e W' ⟨he, hg, hq⟩ => ⟨he, L2.bch hI.bel (gr_to hg), (KC.refl W).gr hg (noC_none _), fun h0 => hq h0⟩
end
end Go.Proofs.YtbneaihpnfkcdaaDoor.L10
