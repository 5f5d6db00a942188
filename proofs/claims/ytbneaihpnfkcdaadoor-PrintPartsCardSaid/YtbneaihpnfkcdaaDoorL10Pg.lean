/- A program: its maps and statements, in memory and plain; what Check finds, condition by condition; and sets of names, as a map of the call's own holds them. It speaks of the program's types alone. No condition. -/
import Derived.Test.YtbneaihpnfkcdaaDoorL9Ln
import Derived.Test.YtbneaihpnfkcdaaDoorL2Rep
import Derived.Test.YtbneaihpnfkcdaaDoorL8Lsh
import Derived.Test.YtbneaihpnfkcdaaDoorL4Alive
namespace Go.Proofs.YtbneaihpnfkcdaaDoor.L10
open Go.RowKit Go.Maps

/-- A statement; a program. -/
structure Stm where
  labs : List ByteArray
  x : L9.Ins
  tg : ByteArray
  mp : ByteArray
structure Pg where
  maps : List L9.Df
  stmts : List Stm

abbrev dfL (d : L9.Df) : List Value := [.string d.nm, .int .i64 d.key, .int .i64 d.val, .int .i64 d.ent]
abbrev inL (x : L9.Ins) : List Value := [.int .i64 x.op, .bool x.reg, .int .i64 x.dst, .int .i64 x.src, .int .i64 x.off, .int .i64 x.imm]
abbrev smL (lv : Value) (s : Stm) : List Value := [lv, .int .i64 s.x.op, .bool s.x.reg, .int .i64 s.x.dst, .int .i64 s.x.src, .int .i64 s.x.off, .int .i64 s.x.imm, .string s.tg, .string s.mp]

/-! ### what Check finds -/
/-- The first error of a list, with its index. -/
def feF : Nat → List Int → Nat × Int
  | _, [] => (0, 0)
  | k, e :: r => if e = 0 then feF (k + 1) r else (k, e)
def fe (l : List Int) : Nat × Int := feF 0 l
theorem feF_zero : ∀ (l : List Int) (k : Nat), (∀ e ∈ l, e = 0) → feF k l = (0, 0)
  | [], _, _ => rfl
  | e :: r, k, h => by rw [feF, if_pos (h e (by simp))]; exact feF_zero r (k + 1) fun x hx => h x (by simp [hx])
theorem feF_none : ∀ (l : List Int) (k : Nat), (feF k l).2 = 0 → ∀ e ∈ l, e = 0
  | [], _, _ => by simp
  | e :: r, k, h => by
    rw [feF] at h
    by_cases he : e = 0
    · rw [if_pos he] at h
      intro x hx
      rcases List.mem_cons.1 hx with rfl | hx
      · exact he
      · exact feF_none r (k + 1) h x hx
    · rw [if_neg he] at h; exact absurd h he
theorem feF_step (l : List Int) (j : Nat) (h : j < l.length) : feF j (l.drop j) = if l[j] = 0 then feF (j + 1) (l.drop (j + 1)) else (j, l[j]) := by
  rw [List.drop_eq_getElem_cons h, feF]
theorem feF_end (l : List Int) (j : Nat) (h : l.length ≤ j) : feF j (l.drop j) = (0, 0) := by
  rw [List.drop_eq_nil_of_le h]; rfl
theorem feF_le : ∀ (l : List Int) (k : Nat), (feF k l).2 ≠ 0 → (feF k l).1 < k + l.length
  | [], _, h => absurd rfl h
  | e :: r, k, h => by
    rw [feF] at h ⊢
    by_cases he : e = 0
    · rw [if_pos he] at h ⊢
      have := feF_le r (k + 1) h
      simp only [List.length_cons]; omega
    · rw [if_neg he]; simp only [List.length_cons]; omega

def upB (g n : Int) : Bool := decide (1 ≤ n) && decide (n ≤ g)
/-- A map's declaration for itself. -/
def deE (d : L9.Df) : Int := if L2.vd d.nm then (if (upB 64 d.key && upB 256 d.val) && upB 1024 d.ent then 0 else 9) else 7
def chI (x : L9.Ins) : Int := L4.chkF (L3.frm (L3.ix x.op)) x.reg x.dst x.src x.off x.imm
def fmI (x : L9.Ins) : Int := L3.frm (L3.ix x.op)
def jmI (x : L9.Ins) : Bool := L4.jmpF (fmI x)
def rfI (x : L9.Ins) : Bool := fmI x == 11
def badF (s : Stm) : Bool := (jmI s.x && s.x.off != 0) || (rfI s.x && s.x.imm != 0) || (!jmI s.x && !s.tg.toList.isEmpty) || (!rfI s.x && !s.mp.toList.isEmpty)
def badN (s : Stm) : Bool := (jmI s.x && !L2.vd s.tg) || (rfI s.x && !L2.vd s.mp)
/-- A statement for itself. -/
def stE (s : Stm) : Int := if s.labs.all L2.vd then (if chI s.x = 0 then (if badF s then 12 else if badN s then 7 else 0) else chI s.x) else 7
/-- The names that are new, one after another. -/
def addB : List ByteArray → List ByteArray → Bool
  | _, [] => true
  | ks, x :: r => if L2.on ks x then false else addB (ks ++ [x]) r
def szE (n : Nat) : List Int := (List.range n).map fun i => if i < 255 then 0 else 16
/-- Lists of names, each of which is to be new. -/
def dpE : List ByteArray → List (List ByteArray) → List Int
  | _, [] => []
  | ks, l :: r => (if addB ks l then 0 else 10) :: dpE (ks ++ l) r
def alL (p : Pg) : List ByteArray := p.stmts.flatMap (·.labs)
def mpL (p : Pg) : List ByteArray := p.maps.map (·.nm)
def unE (p : Pg) (s : Stm) : Int := if (s.tg.toList.isEmpty || L2.on (alL p) s.tg) && (s.mp.toList.isEmpty || L2.on (mpL p) s.mp) then 0 else 11
def wrE (s : Stm) : Int := if L4.wri (fmI s.x) s.x.dst = 10 then 14 else 0
def enE (n : Nat) (i : Nat) (s : Stm) : Int := if decide ((i : Int) < (n : Int) - 1) || L4.endF (fmI s.x) then 0 else 15
/-- The nine conditions: whether of a map, and what is found. -/
def cnd (p : Pg) : List (Bool × Nat × Int) :=
  [(true, fe (p.maps.map deE)), (false, fe (p.stmts.map stE)), (true, fe (szE p.maps.length)), (true, fe (dpE [] (p.maps.map fun d => [d.nm]))),
   (false, fe (dpE [] (p.stmts.map (·.labs)))), (false, (0, if 0 < p.stmts.length then 0 else 15)), (false, fe (p.stmts.map (unE p))), (false, fe (p.stmts.map wrE)),
   (false, fe (p.stmts.mapIdx (enE p.stmts.length)))]
def frB : List (Bool × Nat × Int) → Bool × Nat × Int
  | [] => (false, 0, 0)
  | c :: r => if c.2.2 = 0 then frB r else c
def brV (p : Pg) : Bool × Nat × Int := frB (cnd p)

theorem dpE_len : ∀ (l : List (List ByteArray)) (ks : List ByteArray), (dpE ks l).length = l.length
  | [], _ => rfl
  | _ :: r, ks => by rw [dpE, List.length_cons, List.length_cons, dpE_len r]
theorem dpE_get : ∀ (l : List (List ByteArray)) (ks : List ByteArray) (j : Nat) (h : j < l.length), (dpE ks l)[j]? = some (if addB (ks ++ (l.take j).flatten) l[j] then 0 else 10)
  | a :: r, ks, 0, _ => by simp [dpE]
  | a :: r, ks, j + 1, h => by
    rw [dpE, List.getElem?_cons_succ, dpE_get r (ks ++ a) j (by simpa using h), List.append_assoc]
    rfl

/-! ### sets of names -/
def stx (ks : List ByteArray) : List Lit := ks.map L2.txt
def Sl (ks : List ByteArray) : DataW Unit := setOf (.lit (.bool true)) (stx ks)
theorem stx_mem (ks : List ByteArray) (x : ByteArray) : L2.txt x ∈ stx ks ↔ x ∈ ks := by
  unfold stx
  rw [List.mem_map]
  constructor
  · rintro ⟨y, hy, e⟩
    rw [← L2.txt_inj e]; exact hy
  · intro h; exact ⟨x, h, rfl⟩
theorem stx_key (ks : List ByteArray) : ∀ y ∈ stx ks, WideAt.IsKeyLit y := by
  intro y hy
  obtain ⟨s, _, rfl⟩ := List.mem_map.1 hy
  trivial
theorem Sl_snoc (ks : List ByteArray) (x : ByteArray) : Sl (ks ++ [x]) = (Sl ks).put (L2.txt x) (.lit (.bool true)) := by
  unfold Sl stx
  rw [List.map_append]
  exact setOf_snoc _ _ _
theorem Sl_nil : Sl [] = .map [] := rfl
theorem Sl_at (ks : List ByteArray) (x : ByteArray) : (Sl ks).atKey (L2.txt x) (.lit (.bool false)) = .lit (.bool (L2.on ks x)) := by
  cases h : L2.on ks x
  · rw [Sl, setOf, L2.fold_out _ _ _ _ _ fun h' => by
      have := (L2.on_mem ks x).2 ((stx_mem ks x).1 h')
      rw [h] at this; cases this]
    rfl
  · exact L2.fold_in _ _ _ _ _ isMap_empty (stx_key ks) ((stx_mem ks x).2 ((L2.on_mem ks x).1 h))
abbrev SetAt (w : World) (g : Nat) (ks : List ByteArray) : Prop := w.ownsMap Tryd.prog 9 (plainElem Tryd.prog 4) g ks.length (Sl ks)

/-! ### in memory -/
theorem up_cells {w w' : World} {b o : Nat} {cs : List Value} (hb : b < w.heap.size) (h : ∀ i u, cs[i]? = some u → w.cell? ⟨b, o + i, none⟩ = some u) (hB : Below w.heap.size w w') : ∀ i u, cs[i]? = some u → w'.cell? ⟨b, o + i, none⟩ = some u := fun i u hu => (hB.cell (by exact hb)).trans (h i u hu)
/-- A slice of declarations. -/
def DfAt (w : World) (v : Value) (l : List L9.Df) : Prop :=
  (∃ b o cap, v = .slice (some ⟨b, o, none⟩) l.length cap ∧ b < w.heap.size ∧ ∀ j, (h : j < l.length) → ∀ i u, (dfL l[j])[i]? = some u → w.cell? ⟨b, o + j * 4 + i, none⟩ = some u) ∨ (l = [] ∧ ∃ a cap, v = .slice a 0 cap)
/-- A slice of statements. -/
def SmAt (w : World) (v : Value) (l : List Stm) : Prop :=
  (∃ b o cap, v = .slice (some ⟨b, o, none⟩) l.length cap ∧ b < w.heap.size ∧ ∀ j, (h : j < l.length) → ∃ lv, L8.StAt w lv l[j].labs ∧ ∀ i u, (smL lv l[j])[i]? = some u → w.cell? ⟨b, o + j * 9 + i, none⟩ = some u) ∨ (l = [] ∧ ∃ a cap, v = .slice a 0 cap)
/-- The blocks that a frame keeps. -/
def Kp (w w' : World) (o : Option Nat) : Prop := w.grownBy w' o
theorem st_kept {w w' : World} {v : Value} {l : List ByteArray} {g : Nat} (h : L8.StAt w v l) (hg : w.grownBy w' (some g)) (hm : ∀ cs t fr, w.heap[g]? ≠ some (.cells cs t fr)) : L8.StAt w' v l := by
  rcases h with ⟨b, o, cap, rfl, hlt, hc⟩ | h
  · refine .inl ⟨b, o, cap, rfl, Nat.lt_of_lt_of_le hlt hg.size, fun j hj => hg.cell (hc j hj) ?_⟩
    intro e
    obtain rfl : b = g := by simpa using e
    have := hc j hj
    unfold World.cell? at this
    split at this
    · exact hm _ _ _ ‹_›
    · cases this
  · exact .inr h
theorem DfAt.below {w w' : World} {v : Value} {l : List L9.Df} (h : DfAt w v l) (hb : Below w.heap.size w w') : DfAt w' v l := by
  rcases h with ⟨b, o, cap, rfl, hlt, hc⟩ | h
  · exact .inl ⟨b, o, cap, rfl, Nat.lt_of_lt_of_le hlt hb.size, fun j hj i u hu => (hb.cell (by exact hlt)).trans (hc j hj i u hu)⟩
  · exact .inr h
theorem SmAt.below {w w' : World} {v : Value} {l : List Stm} (h : SmAt w v l) (hb : Below w.heap.size w w') : SmAt w' v l := by
  rcases h with ⟨b, o, cap, rfl, hlt, hc⟩ | h
  · refine .inl ⟨b, o, cap, rfl, Nat.lt_of_lt_of_le hlt hb.size, fun j hj => ?_⟩
    obtain ⟨lv, h1, h2⟩ := hc j hj
    exact ⟨lv, h1.below hb, fun i u hu => (hb.cell (by exact hlt)).trans (h2 i u hu)⟩
  · exact .inr h
/-- A program in memory: its two slices. -/
def PgAt (w : World) (vm vs : Value) (p : Pg) : Prop := DfAt w vm p.maps ∧ SmAt w vs p.stmts
theorem PgAt.below {w w' : World} {vm vs : Value} {p : Pg} (h : PgAt w vm vs p) (hb : Below w.heap.size w w') : PgAt w' vm vs p := ⟨h.1.below hb, h.2.below hb⟩
/-- Its names are no longer than a text may be, and its lists not too long. -/
structure Fits (p : Pg) : Prop where
  maps : p.maps.length ≤ 100000
  stmts : p.stmts.length ≤ 100000
  labs : (alL p).length ≤ 100000
  nm : ∀ d ∈ p.maps, d.nm.size ≤ maxLen
  lb : ∀ s ∈ p.stmts, ∀ t ∈ s.labs, t.size ≤ maxLen
  tg : ∀ s ∈ p.stmts, s.tg.size ≤ maxLen ∧ s.mp.size ≤ maxLen
end Go.Proofs.YtbneaihpnfkcdaaDoor.L10
