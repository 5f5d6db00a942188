/- What the reference's All returns, for up to 100000 bytes: what the program's does. No condition but that the bytes are known. -/
import Derived.Test.YthebdblncafijaaDoorLaw
import Derived.Test.YthebdblncafijaaDoorRdecn
namespace Go.Proofs.YthebdblncafijaaDoor
open Go.RowKit L3 L1 L4

theorem rdc_is (v : Value) (l : List UInt8) (x : Ix) (n er : Int) (w : World) (hv : BsAt w v l) (hd : decF l = (x, n, er)) :
    Calls Tryd.prog 15 #[v] w fun e w' => e = .returned (.tuple #[.agg #[.int .i64 x.op, .bool x.reg, .int .i64 x.dst, .int .i64 x.src, .int .i64 x.off, .int .i64 x.imm], .int .i64 n, .int .i64 er]) ∧ Below w.heap.size w w' := by
  have := rdec_any v l w hv
  rw [hd] at this
  exact this

theorem rall_none (a : Option Addr) (cap fu : Nat) (w : World) : Calls Tryd.prog 18 #[.slice a 0 cap] w fun e w' => AllP w (rds fu 0 []) e w' := by
  go_enter Tryd.func18, Tryd.ntmps18
  go_wp2
  refine wp_loop_rounds 1 ?_
  rw [rounds_succ]
  go_wp2
  refine bodyPost_ret (v := .tuple #[.slice none 0 0, .int .i64 0, .int .i64 0]) (by simp [results, Tryd.results18, go_sem]) rfl ⟨.inr ⟨?_, _, rfl, ?_⟩, Below.refl _ _⟩
  · rw [rds_nil]; intro x hx; cases hx
  · rw [rds_nil]; exact World.ownsRow_nil _ _ _ _

set_option maxHeartbeats 4000000 in
set_option maxRecDepth 100000 in
theorem rall_some (k o n cap : Nat) (l : List UInt8) (fu : Nat) (hfu : n ≤ fu) (w : World) (hn : l.length = n) (hm : n ≤ 100000) (hc : n ≤ cap) (hcm : cap ≤ maxLen) (hB : Bytes w k o l) :
    Calls Tryd.prog 18 #[.slice (some ⟨k, o, none⟩) n cap] w fun e w' => AllP w (rds fu 0 l) e w' := by
  obtain ⟨i0, hi, hz0, hz1, hz2⟩ := info_parts Tryd.info23
  have HB := Lib.hid hB
  have HN := Lib.hid hn
  have HC := Lib.hid hcm
  clear hB hn hcm
  go_enter Tryd.func18, Tryd.ntmps18
  go_wp2
  go_loopw [5, 6] (fun b a wr => ∃ (pre : List Rdg) (s fu' m : Nat), a = .int .i64 (s : Int) ∧ 8 * s ≤ n ∧ m ≤ s ∧ wr.ownsRow w.heap.size 23 6 b m (insC pre) ∧ Hid (pre.length = m) ∧ Hid (rds fu 0 l = pre ++ rds fu' s (l.drop (8 * s))) ∧ n ≤ 8 * s + fu' ∧ Hid (∀ x ∈ pre, x.e = 0) ∧ Below w.heap.size w wr) (fun _ a _ => n - 8 * (intOf a).toNat)
  case atStart => exact ⟨[], 0, fu, 0, rfl, by omega, by omega, World.ownsRow_nil _ _ _ _, Lib.hid rfl, Lib.hid (by simp), by omega, Lib.hid (by simp), Below.refl _ _⟩
  case round =>
    obtain ⟨pre, s, fu', m, rfl, hs8, hms, hown, hP, hR, hf', hZ, hBw⟩ := hrel
    by_cases hlt : 8 * s < n
    · have hlt' : 8 * (s : Int) < (n : Int) := by omega
      have hsl := sl_from k o n cap (8 * s) (by omega) hc
      have e1 : ((8 * s : Nat) : Int) = 8 * (s : Int) := by omega
      rw [e1] at hsl
      have hlen : (l.drop (8 * s)).length = n - 8 * s := by rw [List.length_drop, HN.out]
      have hbs : BsAt wr (.slice (some ⟨k, if cap = 8 * s then o else o + 8 * s, none⟩) (n - 8 * s) (cap - 8 * s)) (l.drop (8 * s)) := by
        refine ⟨_, _, by rw [hlen], by rw [hlen]; omega, by have := HC.out; omega, .inr ⟨k, o + 8 * s, by rw [if_neg (by omega)], fun j hj => ?_⟩⟩
        rw [hlen] at hj
        have := (HB.out.up hBw) (8 * s + j) (by rw [HN.out]; omega)
        rw [List.getElem_drop, Nat.add_assoc]
        exact this
      have hne : l.drop (8 * s) ≠ [] := by
        intro h
        rw [h] at hlen
        simp at hlen
        omega
      obtain ⟨fu1, rfl⟩ : ∃ q, fu' = q + 1 := ⟨fu' - 1, by omega⟩
      obtain ⟨⟨x, sl, er⟩, hd⟩ : ∃ d, decF (l.drop (8 * s)) = d := ⟨_, rfl⟩
      generalize (if cap = 8 * s then o else o + 8 * s) = o2 at hsl hbs
      have HD := Lib.hid (rdc_is _ _ x sl er wr hbs hd)
      have hsz := hBw.size
      by_cases he : er = 0
      · subst he
        obtain ⟨s', hs', q1, q2, q8⟩ := decF_ok _ (by rw [hd])
        rw [hd] at hs'
        obtain rfl : sl = (s' : Int) := hs'
        rw [hlen] at q8
        have hR2 : rds fu 0 l = (pre ++ [⟨s, x, 0⟩]) ++ rds fu1 (s + s') (l.drop (8 * (s + s'))) := by
          rw [hR.out, rds_go fu1 s s' _ hne (by rw [hd]) (by rw [hd]), hd, List.drop_drop, ← Nat.mul_add]
          simp
        have HR2 := Lib.hid hR2
        clear hR2 hd hne hlen hbs hR
        go_upto_region 5 with (go_at_call 15; ((with_reducible refine (HD.out).mono ?_); rintro e w1 ⟨rfl, hb1⟩))
        have hx := heap_alloc_last w1 (.cells x.cs 23)
        have b1 := bch hb1 (bnew w1 (.cells x.cs 23))
        have B1 := bch hBw b1
        have hown1 := own_below hown b1
        obtain ⟨g, hg⟩ : ∃ g, g = w1.heap.size := ⟨_, rfl⟩
        rw [← hg] at hx ⊢
        generalize w1.alloc (.cells _ 23) = W1 at hx b1 B1 hown1 ⊢
        clear hg hb1
        obtain ⟨x0, x1, x2, x3, x4, x5⟩ := cells6 hx
        have hs1 := B1.size
        go_wp2_with (at_builtin; refine wpList_append_own _ rfl _ _ 40 rfl w.heap.size 23 i0 (.agg #[.int .i64 0, .bool false, .int .i64 0, .int .i64 0, .int .i64 0, .int .i64 0]) 6 48 Tryd.underlying40 hi hz0 hz1 hz2 rfl (by decide) _ m _ rfl (hown1.alloc _) ⟨W1.heap.size, 0, none⟩ 1 1 x.cs.toList rfl rfl (World.news_of_block (cs := x.cs) (t := 23) (fr := (0, 0)) (heap_alloc_last W1 _)) (by simp [Value.oneCell']) (by unfold maxLen; omega) (by omega) (by simp; omega) ?_; intro v' w3 hown3 hgrow3 _)
        go_roundw
        case rel =>
          refine ⟨pre ++ [⟨s, x, 0⟩], s + s', fu1, m + 1, by go_num, by omega, by omega, ?_, Lib.hid ?_, HR2, by omega, Lib.hid ?_, ?_⟩
          · rw [insC_snoc]; exact hown3
          · rw [List.length_append, hP.out]; rfl
          · intro y hy
            rcases List.mem_append.1 hy with h | h
            · exact hZ.out y h
            · rw [List.mem_singleton.1 h]
          · exact (B1.alloc hs1 _).grown hgrow3 (by simp; omega) (own_base hown1)
        case measure => simp [intOf]; omega
      · have hen : (er != 0) = true := by simpa using he
        have hR2 : rds fu 0 l = pre ++ [⟨s, x, er⟩] := by
          rw [hR.out, rds_bad fu1 s _ hne (by rw [hd]; exact he), hd]
        have HR2 := Lib.hid hR2
        have HE := Lib.hid he
        clear hR2 hd hne hlen hbs hR he
        go_wp2_with (go_at_call 15; ((with_reducible refine (HD.out).mono ?_); rintro e w1 ⟨rfl, hb1⟩))
        refine bodyPost_ret (v := .tuple #[.slice none 0 0, .int .i64 (s : Int), .int .i64 er]) (by simp [results, Tryd.results18, go_sem]) rfl ⟨.inl ⟨?_, ?_⟩, bch hBw (bch hb1 (bnew w1 _))⟩
        · rw [HR2.out, la_snoc]; exact HE.out
        · rw [HR2.out, la_snoc]
    · have hge : ¬ 8 * (s : Int) < (n : Int) := by omega
      have hR2 : rds fu 0 l = pre := by
        rw [hR.out, List.drop_eq_nil_of_le (by rw [HN.out]; omega), rds_nil, List.append_nil]
      have HR2 := Lib.hid hR2
      clear hR2 hR
      obtain ⟨va, vc, rfl⟩ := owns_slice hown
      go_wp2
      refine bodyPost_ret (v := .tuple #[.slice va m vc, .int .i64 0, .int .i64 0]) (by simp [results, Tryd.results18, go_sem]) rfl ⟨.inr ⟨?_, _, rfl, ?_⟩, hBw⟩
      · rw [HR2.out]; exact hZ.out
      · rw [HR2.out, hP.out]; exact hown
theorem rall_at (v : Value) (l : List UInt8) (fu : Nat) (hfu : l.length ≤ fu) (hl : l.length ≤ 100000) (w : World) (hv : BsAt w v l) :
    Calls Tryd.prog 18 #[v] w fun e w' => AllP w (rds fu 0 l) e w' := by
  obtain ⟨a, cap, rfl, h1, h2, h3⟩ := hv
  rcases h3 with rfl | ⟨k, o, rfl, h⟩
  · exact rall_none a cap fu w
  · exact rall_some k o _ cap l fu hfu w rfl hl h1 h2 h
end Go.Proofs.YthebdblncafijaaDoor
