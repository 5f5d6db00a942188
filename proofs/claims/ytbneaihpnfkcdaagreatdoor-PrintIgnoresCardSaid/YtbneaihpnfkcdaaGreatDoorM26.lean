/- How long the text of a program that was read may be. It speaks of no program; condition: the text that it was read of has no more than 400 line feeds and 20000 bytes. -/
/- What the law's Long returns: 1 or 0, and what 0 says of the text. Condition: the tables read as the program's text lays them. -/
import Derived.Test.YtbneaihpnfkcdaaGreatDoorM25
import Derived.Lib.Bytealg
import Derived.Test.YtbneaihpnfkcdaaGreatDoorM21
import Derived.Test.YtbneaihpnfkcdaaGreatDoorShelr

section
namespace Go.Proofs.YtbneaihpnfkcdaaGreatDoor.L11
open L10 (Stm Pg Rd foldL rdL foldI itL It)

def sz1 : List ByteArray → Nat
  | [] => 0
  | t :: r => t.size + sz1 r
theorem tx_sum : ∀ (f : Nat) (l : List UInt8), sz1 ((L8.tx f l).1.map L8.mkB) ≤ l.length
  | 0, l => by rw [L8.tx]; exact Nat.zero_le _
  | f + 1, [] => by rw [L8.tx]; exact Nat.zero_le _
  | f + 1, c :: r => by
    rw [L8.tx]
    split
    · exact Nat.zero_le _
    split
    · have := tx_sum f r
      rw [List.length_cons]; omega
    split
    · have h1 := tx_sum f ((c :: r).drop (L2.wn (c :: r)))
      have h2 := L2.wn_le (c :: r)
      rw [List.length_drop] at h1
      simp only [List.map_cons, sz1, L8.mkB_size, List.length_take]
      omega
    split
    · have h1 := tx_sum f r
      simp only [List.map_cons, sz1, L8.mkB_size, List.length_cons, List.length_nil]
      omega
    · exact Nat.zero_le _
theorem txB_sum (s : ByteArray) : sz1 (L9.txB s) ≤ s.size := by
  rw [L9.txB_of, (L8.txts_tx s).1]
  have := tx_sum s.size s.data.toList
  rw [L8.size_list] at this
  exact this
theorem lab_w : ∀ (ts acc : List ByteArray), lw (L9.lab acc ts).2.1 ≤ lw acc + sz1 ts
  | [], acc => by rw [L9.lab]; exact Nat.le_add_right _ _
  | [a], acc => by rw [L9.lab]; exact Nat.le_add_right _ _
  | a :: b :: r, acc => by
    rw [L9.lab]
    split
    · rename_i hc
      split
      · have h := lab_w r (acc ++ [a])
        have e : b.size = 1 := by rw [hc.2]; rfl
        rw [lw_app, lw, lw] at h
        rw [sz1, sz1]
        omega
      · exact Nat.le_add_right _ _
    · exact Nat.le_add_right _ _
def iw : List It → Nat
  | [] => 0
  | .lb x :: r => (x.size + 1) + iw r
  | .mp _ :: r => iw r
  | .cd .. :: r => iw r
def ic : List It → Nat
  | [] => 0
  | .lb _ :: r => ic r
  | .mp _ :: r => 1 + ic r
  | .cd .. :: r => 1 + ic r
theorem iw_lb : ∀ l : List ByteArray, iw (l.map .lb) = lw l ∧ ic (l.map .lb) = 0
  | [] => ⟨rfl, rfl⟩
  | t :: r => by
    obtain ⟨h1, h2⟩ := iw_lb r
    exact ⟨by rw [List.map_cons, iw, lw, h1], by rw [List.map_cons, ic, h2]⟩
theorem iw_app : ∀ (l m : List It), iw (l ++ m) = iw l + iw m ∧ ic (l ++ m) = ic l + ic m
  | [], m => by simp [iw, ic]
  | .lb x :: r, m => by
    obtain ⟨h1, h2⟩ := iw_app r m
    refine ⟨?_, ?_⟩
    · rw [List.cons_append, iw, iw, h1]; omega
    · rw [List.cons_append, ic, ic, h2]
  | .mp x :: r, m => by
    obtain ⟨h1, h2⟩ := iw_app r m
    refine ⟨?_, ?_⟩
    · rw [List.cons_append, iw, iw, h1]
    · rw [List.cons_append, ic, ic, h2]; omega
  | .cd x y z :: r, m => by
    obtain ⟨h1, h2⟩ := iw_app r m
    refine ⟨?_, ?_⟩
    · rw [List.cons_append, iw, iw, h1]
    · rw [List.cons_append, ic, ic, h2]; omega
theorem itI_w (t : ByteArray) (q : List ByteArray) : iw [(L10.itI t q).1] = 0 ∧ ic [(L10.itI t q).1] = 1 := by
  unfold L10.itI
  split
  · exact ⟨rfl, rfl⟩
  · exact ⟨rfl, rfl⟩
theorem itL_w (s : ByteArray) : iw (itL s).1 ≤ s.size ∧ ic (itL s).1 ≤ 1 := by
  unfold L10.itL
  split
  · exact ⟨Nat.zero_le _, Nat.zero_le _⟩
  unfold L10.itV
  have hl := lab_w (L9.txB s) []
  have hs := txB_sum s
  have e0 : lw [] = 0 := rfl
  obtain ⟨h1, h2⟩ := iw_lb (L9.lab [] (L9.txB s)).2.1
  split
  · exact ⟨Nat.zero_le _, Nat.zero_le _⟩
  split
  · exact ⟨by rw [h1]; omega, by rw [h2]; omega⟩
  · rename_i t q _
    split
    · exact ⟨Nat.zero_le _, Nat.zero_le _⟩
    split
    · exact ⟨Nat.zero_le _, Nat.zero_le _⟩
    · obtain ⟨k1, k2⟩ := itI_w t q
      obtain ⟨a1, a2⟩ := iw_app ((L9.lab [] (L9.txB s)).2.1.map .lb) [(L10.itI t q).1]
      refine ⟨?_, ?_⟩
      · show iw (_ ++ _) ≤ _
        rw [a1, k1, h1]; omega
      · show ic (_ ++ _) ≤ _
        rw [a2, k2, h2]; omega
theorem foldI_w : ∀ (l : List It) (s : Rd), sw (foldI s l).1.stmts + lw (foldI s l).1.labs ≤ sw s.stmts + lw s.labs + iw l ∧ (foldI s l).1.maps.length + (foldI s l).1.stmts.length ≤ s.maps.length + s.stmts.length + ic l
  | [], s => ⟨Nat.le_refl _, Nat.le_refl _⟩
  | .lb x :: r, s => by
    rw [foldI]
    obtain ⟨h1, h2⟩ := foldI_w r (s.lab x)
    have e : lw (s.lab x).labs = lw s.labs + (x.size + 1) := by show lw (s.labs ++ [x]) = _; rw [lw_app, lw, lw]
    rw [e] at h1
    refine ⟨?_, ?_⟩
    · rw [iw]
      have : sw (s.lab x).stmts = sw s.stmts := rfl
      omega
    · rw [ic]; exact h2
  | .mp d :: r, s => by
    rw [foldI]
    split
    · refine ⟨?_, ?_⟩
      · show sw s.stmts + lw s.labs ≤ _; omega
      · show s.maps.length + s.stmts.length ≤ _; omega
    · obtain ⟨h1, h2⟩ := foldI_w r (s.map d)
      have e : (s.map d).maps.length = s.maps.length + 1 := by show (s.maps ++ [d]).length = _; simp
      rw [e] at h2
      refine ⟨?_, ?_⟩
      · rw [iw]; exact h1
      · rw [ic]
        have : (s.map d).stmts = s.stmts := rfl
        rw [this] at h2
        omega
  | .cd x tg mp :: r, s => by
    rw [foldI]
    obtain ⟨h1, h2⟩ := foldI_w r (s.cod x tg mp)
    have e1 : sw (s.cod x tg mp).stmts = sw s.stmts + lw s.labs := by show sw (s.stmts ++ [_]) = _; rw [sw_snoc]
    have e2 : lw (s.cod x tg mp).labs = 0 := rfl
    have e3 : (s.cod x tg mp).stmts.length = s.stmts.length + 1 := by show (s.stmts ++ [_]).length = _; simp
    have e4 : (s.cod x tg mp).maps = s.maps := rfl
    rw [e1, e2] at h1
    rw [e3, e4] at h2
    refine ⟨?_, ?_⟩
    · rw [iw]; omega
    · rw [ic]; omega
theorem foldL_w : ∀ (l : List ByteArray) (s : Rd), sw (foldL s l).1.stmts + lw (foldL s l).1.labs ≤ sw s.stmts + lw s.labs + sz1 l ∧ (foldL s l).1.maps.length + (foldL s l).1.stmts.length ≤ s.maps.length + s.stmts.length + l.length
  | [], s => ⟨Nat.le_refl _, Nat.le_refl _⟩
  | t :: r, s => by
    have hr : sw (rdL s t).1.stmts + lw (rdL s t).1.labs ≤ sw s.stmts + lw s.labs + t.size ∧ (rdL s t).1.maps.length + (rdL s t).1.stmts.length ≤ s.maps.length + s.stmts.length + 1 := by
      unfold L10.rdL
      split
      · refine ⟨?_, ?_⟩
        · show sw s.stmts + lw s.labs ≤ _; omega
        · show s.maps.length + s.stmts.length ≤ _; omega
      · obtain ⟨h1, h2⟩ := foldI_w (itL t).1 ({ s with line := s.line + 1 } : Rd)
        obtain ⟨k1, k2⟩ := itL_w t
        have e1 : sw ({ s with line := s.line + 1 } : Rd).stmts = sw s.stmts := rfl
        have e2 : lw ({ s with line := s.line + 1 } : Rd).labs = lw s.labs := rfl
        have e3 : ({ s with line := s.line + 1 } : Rd).maps.length = s.maps.length := rfl
        have e4 : ({ s with line := s.line + 1 } : Rd).stmts.length = s.stmts.length := rfl
        rw [e1, e2] at h1
        rw [e3, e4] at h2
        exact ⟨by omega, by omega⟩
    rw [foldL, sz1, List.length_cons]
    split
    · exact ⟨by omega, by omega⟩
    · obtain ⟨h1, h2⟩ := foldL_w r (rdL s t).1
      exact ⟨by omega, by omega⟩
theorem sz1_szs : ∀ l : List ByteArray, sz1 l ≤ L10.szs l
  | [] => Nat.le_refl _
  | t :: r => by have := sz1_szs r; rw [sz1, L10.szs]; omega
theorem lsx_cnt : ∀ (l a : List UInt8), (L8.lsx a l).length ≤ Lib.countByte l 10 + 1
  | [], a => by
    rw [L8.lsx]
    split
    · exact Nat.zero_le _
    · exact Nat.le_refl _
  | c :: r, a => by
    have h1 := lsx_cnt r []
    have h2 := lsx_cnt r (a ++ [c])
    unfold Lib.countByte at h1 h2 ⊢
    rw [L8.lsx]
    by_cases h : c = 10
    · subst h
      rw [if_pos (by decide), List.length_cons, List.count_cons_self]
      omega
    · rw [if_neg (by simpa using h), List.count_cons_of_ne (by simpa using h)]
      exact h2
theorem lns_cnt (t : ByteArray) : (L8.lns t).length ≤ Lib.countByte t.data.toList 10 + 1 := by
  rw [L8.lns_lsx, List.length_map]
  exact lsx_cnt _ _
theorem read_size {t : ByteArray} {p : Pg} {l : List Int} {k er : Int} (ht : t.size ≤ 20000) (hn : Lib.countByte t.data.toList 10 ≤ 400) (h : L10.paV t = (p, l, k, er)) (he : er = 0) :
    (L10.brV p).2.2 = 0 ∧ L10.Fits p ∧ L10.Sml p ∧ (pgT p).size ≤ 99990 ∧ Room p := by
  have hO := L10.foldL_ok (L8.lns t) Rd.z 0 Rd.Ok.z
  have hsz := L10.lns_szs t
  obtain ⟨w1, w2⟩ := foldL_w (L8.lns t) Rd.z
  have hs1 := sz1_szs (L8.lns t)
  have hct := lns_cnt t
  unfold L10.paV at h
  generalize foldL Rd.z (L8.lns t) = q at h hO w1 w2
  subst he
  unfold L10.paF at h
  split at h
  · rename_i h1
    exact absurd (by simpa using congrArg (fun r : Pg × List Int × Int × Int => r.2.2.2) h) h1
  split at h
  · exact absurd (congrArg (fun r : Pg × List Int × Int × Int => r.2.2.2) h) (by simp)
  split at h
  · rename_i h1
    exact absurd (by simpa using congrArg (fun r : Pg × List Int × Int × Int => r.2.2.2) h) h1
  · rename_i h1
    have h1 : (L10.brV ⟨q.1.maps, q.1.stmts⟩).2.2 = 0 := by simpa using h1
    obtain rfl : (⟨q.1.maps, q.1.stmts⟩ : Pg) = p := by
      simp only [Prod.mk.injEq] at h
      exact h.1
    have hf := hO.fits (by omega)
    have hsm : L10.Sml ⟨q.1.maps, q.1.stmts⟩ := ⟨hf.maps, hf.stmts, fun s hs => by
      obtain ⟨i, hi, rfl⟩ := List.mem_iff_getElem.1 hs
      exact hf.lab_le i hi⟩
    have hp := pgT_size h1
    have e1 : sw Rd.z.stmts + lw Rd.z.labs = 0 := rfl
    have e2 : Rd.z.maps.length + Rd.z.stmts.length = 0 := rfl
    dsimp only at hp
    have hsize : (pgT ⟨q.1.maps, q.1.stmts⟩).size ≤ 99990 := by omega
    have hl := lnT_pgT ⟨q.1.maps, q.1.stmts⟩
    exact ⟨h1, hf, hsm, hsize, hsm.maps, hsm.stmts, hsm.labs, by omega, by omega⟩
end Go.Proofs.YtbneaihpnfkcdaaGreatDoor.L11
end

section
namespace Go.Proofs.YtbneaihpnfkcdaaGreatDoor.L11
open Go.RowKit
attribute [local go_sem] Oper.semAt_some

set_option maxHeartbeats 1000000 in
theorem long11 (t : ByteArray) (ht : t.size ≤ maxLen) : ∃ v : Int, (v = 1 ∨ (v = 0 ∧ t.size ≤ 20000 ∧ Lib.countByte t.data.toList 10 ≤ 400)) ∧ ∀ w, Calls Tryz.prog 15 #[.string t] w fun e w' => e = .returned (.int .i64 v) ∧ w = w' := by
  have HC := Lib.hid (fun W => Tryz.strings_Count_one t 10 W)
  unfold maxLen at ht
  obtain ⟨n, hn⟩ : ∃ n, Lib.countByte t.data.toList 10 = n := ⟨_, rfl⟩
  rw [hn] at HC ⊢
  clear hn
  by_cases h : 20000 < t.size
  · refine ⟨1, .inl rfl, fun w => ?_⟩
    go_enter Tryz.func15, Tryz.ntmps15
    go_wp2
    go_ret
    exact ⟨rfl, rfl⟩
  · have h2 : t.size ≤ 20000 := by omega
    by_cases h3 : 400 < n
    · refine ⟨1, .inl rfl, fun w => ?_⟩
      go_enter Tryz.func15, Tryz.ntmps15
      go_wp2_with (go_at_call 34; ((with_reducible refine (HC.out _).mono ?_); rintro e w' ⟨rfl, rfl⟩))
      go_ret
      exact ⟨rfl, rfl⟩
    · refine ⟨0, .inr ⟨rfl, h2, by omega⟩, fun w => ?_⟩
      go_enter Tryz.func15, Tryz.ntmps15
      go_wp2_with (go_at_call 34; ((with_reducible refine (HC.out _).mono ?_); rintro e w' ⟨rfl, rfl⟩))
      go_ret
      exact ⟨rfl, rfl⟩
end Go.Proofs.YtbneaihpnfkcdaaGreatDoor.L11
end
