/- A loop over an iterator that lays memory of its own and hands it over: the iterator tells, each time that it hands something over, what memory holds there. The loop stands by itself (in no other's round); its body goes on, or returns. No condition. -/
import Derived.Test.YtdamijicombmkaaL15Rw
import Derived.Test.YtdamijicombmkaaL14It
namespace Go.Proofs.Ytdamijicombmkaa.L15
open Go.RowKit Go.Shelf L14
attribute [local go_sem] Oper.semAt_some

section
variable {α : Type}
/-- The iterator's promise: at each handing over of x, Rel x holds, and what has come till now, x with it, is a beginning (Sp); when it ends by itself, all have come (S). -/
def Told (F : Fence) (n : Nat) (P : Program) (g : Nat) (lb : Array Value) (encs : α → Array Value) (Rel : α → World → Prop) (Kp : World → World → Prop) (S Sp : List α → Prop) (w : World) : Prop :=
  ∀ (l : Nat) (J X : List α → World → Prop) (W : World), Below w.heap.size w W → AbidesFrom W.heap.size J → AbidesFrom W.heap.size X → J [] W →
    (∀ pre x A, J pre A → Rel x A → Sp (pre ++ [x]) → YieldAt F (n - 1) P l (encs x) A fun e B => (e = .returned (.bool true) ∧ J (pre ++ [x]) B ∧ Kp A B) ∨ (e = .returned (.bool false) ∧ X (pre ++ [x]) B)) →
    CallsIn F n P g (#[.func (.yield l) #[] #[]] ++ lb) W fun e B => (∃ v, e = .returned v) ∧ ((∃ xs, S xs ∧ J xs B) ∨ ∃ pre, Sp pre ∧ X pre B)
/-- How a round may be left: it goes on, or it returns. -/
def told (d : Nat) (Kp : World → World → Prop) (I X : List α → World → Prop) (xs : List α) (A : World) : Exit → Act → World → Prop
  | .normal, _, B => KeepsFrom d A B ∧ Kp A B ∧ I xs B
  | .ret, _, B => KeepsFrom d A B ∧ X xs B
  | _, _, _ => False

/-- The loop's record and the block of its deferred calls lie at d + 1 and d. -/
structure Bk (d : Nat) (r : Loop) (W : World) : Prop where
  here : W.heap[d + 1]? = some (.loop r)
  col : W.heap[d]? = some (.deferred (some []))
theorem Bk.lt {d : Nat} {r : Loop} {W : World} (h : Bk d r W) : d + 1 < W.heap.size := lt_of_block h.here
theorem Bk.grown {d : Nat} {r : Loop} {A B : World} {row : Option Nat} (h : Bk d r A) (hg : A.grownBy B row) (hr : ∀ k, row = some k → ∃ o : Obj, A.heap[k]? = some o ∧ o.isWalk = true) : Bk d r B :=
  ⟨(grownBy_keeps hg hr h.here rfl).trans h.here, (grownBy_keeps hg hr h.col rfl).trans h.col⟩
theorem Bk.kept {d : Nat} {r : Loop} {A B : World} (h : Bk d r A) (hk : KeepsFrom d A B) : Bk d r B := ⟨hk.same _ _ (Nat.le_succ d) h.here rfl, hk.same _ _ (Nat.le_refl d) h.col rfl⟩
theorem Bk.put {d : Nat} {r : Loop} {A : World} (h : Bk d r A) (r' : Loop) : Bk d r' (A.putObj (d + 1) (.loop r')) := ⟨World.putObj_heap_same h.lt, (World.putObj_heap_other (by omega)).trans h.col⟩
theorem own_put {β : Type} {d : Nat} {I : β → World → Prop} (hI : OwnFrom d I) {s : β} {r : Loop} {A : World} (h : Bk d r A) (r' : Loop) (hs : I s A) : I s (A.putObj (d + 1) (.loop r')) := hI.putObj _ hs (Nat.le_succ d) h.here rfl
/-- What a caller's invariant and the record together abide. -/
theorem abides_bk {β : Type} {d e : Nat} (hde : d ≤ e) {I : β → World → Prop} (hI : OwnFrom d I) (r : Loop) : AbidesFrom e fun s W => I s W ∧ Bk d r W := fun s A B row h hg hr =>
  ⟨hI s A B row h.1 hg fun k hk => by
    obtain ⟨h1, o, h2, h3⟩ := hr k hk
    exact ⟨Nat.le_trans hde h1, o, h2, Obj.not_cells_of_walk h3⟩, h.2.grown hg fun k hk => (hr k hk).2⟩

variable {F : Fence} {n : Nat} {P : Program}
theorem range_told {g : Operand} {ps : Array Tmp} {assign body : Code} {Q : Exit → Act → World → Prop} {a : Act} {w : World} (hro : F.round = none) (hn : 1 ≤ n) {gf : Nat} {lb : Array Value} (hg : a.eval g = .func (.func gf) #[] lb) (hF : F.fn gf)
    (en : ∀ args W, (callFunc gf args).run P W = .ok (.enter gf args) W) {encs : α → Array Value} {Rel : α → World → Prop} {Kp : World → World → Prop} {S Sp : List α → Prop} (hT : Told F (n - 1) P gf lb encs Rel Kp S Sp w)
    (hKt : ∀ {A B C : World}, Kp A B → Kp B C → Kp A C) (hKb : ∀ (W : World) (k : Nat) (o o' : Obj), w.heap.size ≤ k → W.heap[k]? = some o → o.isCells = false → o.isWalk = false → Kp W (W.putObj k o')) (hps : ∀ x, (encs x).size = ps.size)
    (hR : OwnFrom w.heap.size Rel) (I X : List α → World → Prop) (hI : OwnFrom w.heap.size I) (hX : OwnFrom w.heap.size X) (h0 : I [] w) (act : α → Act)
    (hassign : ∀ (l : Nat) (x : α) (W : World) (K : Act → World → Prop), K (act x) W → assign.wpIn (F.inRound l) (n - 1 - 1) P (Exit.then K fun _ _ _ => False) { tmps := (ps.zip (encs x)).foldl (fun t (p, v) => t.setIfInBounds p v) a.tmps, defers := [] } W)
    (hbody : ∀ (l : Nat) (pre : List α) (x : α) (W : World), I pre W → Rel x W → Sp (pre ++ [x]) → body.wpIn (F.inRound l) (n - 1 - 1) P (told w.heap.size Kp I X (pre ++ [x]) W) (act x) W)
    (hdone : ∀ (D : Nat) (xs : List α) (W : World), w.heap.size ≤ D → S xs → I xs W → W.heap[D]? = some (.deferred (some [])) → Q .normal { a with defers := { target := .collected D, args := #[] } :: a.defers } W)
    (hstop : ∀ (D : Nat) (pre : List α) (W : World), w.heap.size ≤ D → Sp pre → X pre W → W.heap[D]? = some (.deferred (some [])) → Code.ret.wpIn F n P Q { a with defers := { target := .collected D, args := #[] } :: a.defers } W) :
    (Code.rangeFunc g ps assign body).wpIn F n P Q a w := by
  refine wpIn_rangeFunc fun fn hfn => ?_
  rw [hro]
  let d := w.heap.size
  let re : LoopState → Option Code → Loop := fun st jump => { state := st, pending := jump, fn := fn, tmps := a.tmps, params := ps, assign := assign, body := body, defers := d }
  let w1 : World := w.alloc (.deferred (some []))
  let w2 : World := w1.alloc (.loop (re .ready none))
  have s1 : w1.heap.size = d + 1 := World.size_alloc ..
  have s2 : w2.heap.size = d + 1 + 1 := by rw [← s1]; exact World.size_alloc ..
  have hb : Below d w w2 := ((Below.refl d w).alloc (Nat.le_refl _) _).alloc (by rw [s1]; exact Nat.le_succ d) _
  have k2 : Bk d (re .ready none) w2 := by
    have h1 : w2.heap[w1.heap.size]? = some (.loop (re .ready none)) := World.alloc_heap_new w1 _
    have h2 : w1.heap[d]? = some (.deferred (some [])) := World.alloc_heap_new w _
    rw [s1] at h1
    exact ⟨h1, (Below.heap_alloc _ _ _ (by rw [s1]; exact Nat.lt_succ_self d)).trans h2⟩
  have i2 : I [] w2 := hI.alloc _ (hI.alloc _ h0)
  refine ⟨d + 1, _, w2, ⟨.fn (.func gf) lb, #[.func (.yield (d + 1)) #[] #[]]⟩, w2, gf, #[.func (.yield (d + 1)) #[] #[]] ++ lb, w2, run_enterLoop_outer fn a.tmps ps assign body, by simp only [resolve, hg]; simp [go_sem], fun f h => ?_, by simp [invoke, go_sem, en], fun _ => hn, ?_⟩
  · simp only [Target.leads, Option.some.injEq] at h
    exact h ▸ hF
  refine (hT (d + 1) (fun xs W => I xs W ∧ Bk d (re .ready none) W) (fun xs W => X xs W ∧ Bk d (re .done (some .ret)) W) w2 hb (abides_bk (by omega) hI _) (abides_bk (by omega) hX _) ⟨i2, k2⟩ ?_).mono ?_
  · intro pre x A hA hx hp
    obtain ⟨hi, kA⟩ := hA
    refine ⟨fn, _, assign, body, run_yield kA.here (hps x), roundIn_of_wpIn hfn (hassign _ x A _ ?_)⟩
    have kB : Bk d (re .busy none) _ := kA.put (re .busy none)
    have pA : Kp A (A.putObj (d + 1) (.loop (re .busy none))) := hKb A _ _ _ (Nat.le_succ d) kA.here rfl rfl
    refine ⟨_, run_beginRound kA.here rfl, wpIn_mono (hbody _ pre x _ (own_put hI kA _ hi) (own_put hR kA _ hx) hp) fun e a3 C hC => ?_⟩
    cases e with
    | normal =>
      obtain ⟨c1, c2, c3⟩ := hC
      have kC := kB.kept c1
      exact ⟨_, _, run_endRound none kC.here, .inl ⟨rfl, ⟨own_put hI kC _ c3, kC.put (re .ready none)⟩, hKt pA (hKt c2 (hKb _ _ _ _ (Nat.le_succ d) kC.here rfl rfl))⟩⟩
    | ret =>
      obtain ⟨c1, c3⟩ := hC
      have kC := kB.kept c1
      exact ⟨_, _, run_endRound (some .ret) kC.here, .inr ⟨rfl, own_put hX kC _ c3, kC.put (re .done (some .ret))⟩⟩
    | exit _ => exact hC.elim
    | goto _ => exact hC.elim
    | panic _ => exact hC.elim
    | outgrown => exact hC.elim
  · intro e B hB
    obtain ⟨⟨v, rfl⟩, h⟩ := hB
    rcases h with ⟨xs, hs, hi, kB⟩ | ⟨pre, hs, hx, kB⟩
    · exact ⟨none, _, run_endLoop kB.here (by intro h; cases h), hdone d xs _ (Nat.le_refl d) hs (own_put hI kB _ hi) (kB.put _).col⟩
    · exact ⟨some .ret, _, run_endLoop kB.here (by intro h; cases h), hstop d pre _ (Nat.le_refl d) hs (own_put hX kB _ hx) (kB.put _).col⟩
end
end Go.Proofs.Ytdamijicombmkaa.L15
