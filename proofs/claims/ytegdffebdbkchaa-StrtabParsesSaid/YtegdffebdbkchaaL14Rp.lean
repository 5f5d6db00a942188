/- What the reference's Parse returns: the texts whose table the bytes are, or that there are none. Condition: memory holds the bytes (no more than 100000). -/
import Derived.Test.YtegdffebdbkchaaL14Rb
namespace Go.Proofs.Ytegdffebdbkchaa.L14
open Go.RowKit
attribute [local go_sem] Oper.semAt_some

/-- What the reference's Parse leaves. -/
def RpP (l : List UInt8) (e : Ending) (w' : World) : Prop :=
  (prV l = none ∧ e = .returned (.tuple #[.slice none 0 0, .bool false])) ∨ ∃ ts a c, prV l = some ts ∧ e = .returned (.tuple #[.slice a ts.length c, .bool true]) ∧ Rw eT w' (.slice a ts.length c) ts
theorem rgE_gtx (l : List UInt8) (p : Nat) : rgE l (p : Int) = match gtx l p with
    | none => .returned (.tuple #[.string ⟨#[]⟩, .bool false])
    | some t => .returned (.tuple #[.string (mkB t), .bool true]) := by
  unfold rgE gtI
  rw [if_pos (by omega), Int.toNat_natCast]
  cases gtx l p <;> rfl

set_option maxHeartbeats 4000000 in
set_option maxRecDepth 100000 in
theorem rparse_at (v : Value) (l : List UInt8) (w : World) (h : Rw eB w v l) (hl : l.length ≤ 100000) :
    Calls Try.prog 17 #[v] w fun e w' => RpP l e w' ∧ Below w.heap.size w w' := by
  obtain ⟨ii, hi, hz0, hz1, hz2⟩ := info_parts infoText
  obtain ⟨n, hn⟩ : ∃ n, l.length = n := ⟨_, rfl⟩
  obtain ⟨a, c, rfl, hc1, -, hc⟩ := h.form hn
  have HG := Lib.hid (fun (p : Nat) (W : World) (hb : Below w.heap.size w W) => rget_at _ l (p : Int) W (by omega) (h.below hb))
  rw [hn] at hl
  have HN := Lib.hid hn
  by_cases h0 : n = 0
  · subst h0
    have hnil : l = [] := List.eq_nil_of_length_eq_zero hn
    have HR := Lib.hid (show prV l = none by rw [hnil]; rfl)
    clear h hn hc hnil HG
    go_enter Try.func17, Try.ntmps17
    go_wp2
    refine bodyPost_ret (v := .tuple #[.slice none 0 0, .bool false]) (by simp [results, Try.results17, go_sem]) rfl ⟨.inl ⟨HR.out, rfl⟩, Below.refl _ _⟩
  obtain ⟨b, o, rfl, hb, hcc⟩ := hc (by omega)
  obtain ⟨d, r, rfl⟩ : ∃ d r, l = d :: r := by
    cases l with
    | nil => simp at hn; omega
    | cons d r => exact ⟨d, r, rfl⟩
  have hx := hcc 0 (by rw [hn]; omega)
  replace hx : w.cell? ⟨b, o, none⟩ = some (.int .u8 (d.toNat : Int)) := hx
  have hne0 : ((n : Int) == 0) = false := by rw [beq_eq_false_iff_ne]; omega
  have hpos : (0 : Int) < (n : Int) := by omega
  by_cases hd : d = 0
  · subst hd
    replace hx : w.cell? ⟨b, o, none⟩ = some (.int .u8 0) := hx
    have HP : Hid (prV (0 :: r) = pr [] r) := Lib.hid (by show (if (0 : UInt8) = 0 then pr [] r else none) = _; rw [if_pos rfl])
    clear h hn hc hcc
    go_enter Try.func17, Try.ntmps17
    go_wp2
    go_loopw [4, 5, 6, 7] (fun v at' _ _ wr => ∃ (pre : List (List UInt8)) (p m : Nat), at' = .int .i64 (p : Int) ∧ 1 ≤ p ∧ p ≤ n ∧ m ≤ p ∧ wr.ownsRow w.heap.size 9 1 v m (pre.map eT) ∧ Hid (pre.length = m) ∧ Hid (pr [] r = (pr [] ((0 :: r).drop p)).map (pre ++ ·)) ∧ Below w.heap.size w wr) (fun _ at' _ _ _ => n - (intOf at').toNat)
    case atStart => exact ⟨[], 1, 0, rfl, Nat.le_refl _, by omega, by omega, World.ownsRow_nil _ _ _ _, Lib.hid rfl, Lib.hid (by simp), Below.refl _ _⟩
    case round =>
      obtain ⟨pre, p, m, rfl, hp1, hpn, hm, hown, hPL, hPR, hBw⟩ := hrel
      have hsz := hBw.size
      by_cases hlt : p < n
      · have hlt' : (p : Int) < (n : Int) := by omega
        have HGp := Lib.hid (HG.out p wr hBw)
        have hR := hPR.out
        have hlne : (0 :: r).drop p ≠ [] := by
          intro e
          have := congrArg List.length e
          rw [List.length_drop, HN.out] at this
          simp at this; omega
        rw [rgE_gtx] at HGp
        unfold gtx at HGp
        cases hf : fz ((0 :: r).drop p) with
        | none =>
          have hpr := pr_none ((0 :: r).drop p) [] hf (by simpa using hlne)
          rw [hpr] at hR
          have HR := Lib.hid (show prV (0 :: r) = none by rw [HP.out, hR]; rfl)
          rw [hf] at HGp
          simp only [Option.map_none] at HGp
          clear hpr hR hlne hf hPR
          go_wp2_with (go_at_call 20; ((with_reducible refine (HGp.out).mono ?_); rintro e w1 ⟨rfl, rfl⟩))
          refine bodyPost_ret (v := .tuple #[.slice none 0 0, .bool false]) (by simp [results, Try.results17, go_sem]) rfl ⟨.inl ⟨HR.out, rfl⟩, hBw⟩
        | some i =>
          have hpr := pr_some ((0 :: r).drop p) i [] hf
          rw [List.nil_append] at hpr
          obtain ⟨h1, h2, h3⟩ := fz_some hf
          rw [List.length_drop, HN.out] at h1
          have htl : (((0 :: r).drop p).take i).length = i := by rw [List.length_take, List.length_drop, HN.out]; omega
          rw [hf] at HGp
          simp only [Option.map_some] at HGp
          have hTs := mkB_size (((0 :: r).drop p).take i)
          rw [htl] at hTs
          by_cases hi0 : i = 0
          · subst hi0
            rw [List.take_zero, if_pos rfl] at hpr
            rw [hpr] at hR
            have HR := Lib.hid (show prV (0 :: r) = none by rw [HP.out, hR]; rfl)
            have em : mkB (((0 :: r).drop p).take 0) = ⟨#[]⟩ := by rw [List.take_zero]; rfl
            rw [em] at HGp
            clear hpr hR hlne hf hPR h1 h2 h3 htl hTs em
            go_wp2_with (go_at_call 20; ((with_reducible refine (HGp.out).mono ?_); rintro e w1 ⟨rfl, rfl⟩))
            refine bodyPost_ret (v := .tuple #[.slice none 0 0, .bool false]) (by simp [results, Try.results17, go_sem]) rfl ⟨.inl ⟨HR.out, rfl⟩, hBw⟩
          · have hnn : ¬ ((0 :: r).drop p).take i = [] := fun e => by
              have := congrArg List.length e
              rw [htl] at this
              exact hi0 this
            rw [if_neg hnn] at hpr
            rw [hpr, Option.map_map, List.drop_drop] at hR
            obtain ⟨t, htt⟩ : ∃ t, ((0 :: r).drop p).take i = t := ⟨_, rfl⟩
            rw [htt] at hR HGp hTs htl
            have hR2 : pr [] r = (pr [] ((0 :: r).drop (p + (i + 1)))).map ((pre ++ [t]) ++ ·) := by
              rw [hR]
              congr 1
              funext us
              simp
            have HR2 := Lib.hid hR2
            have hcells : pre.map eT ++ [.string (mkB t)] = (pre ++ [t]).map eT := by simp [eT]
            obtain ⟨T, hT⟩ : ∃ T, mkB t = T := ⟨_, rfl⟩
            rw [hT] at HGp hTs hcells
            have HCL := Lib.hid hcells
            have hte : T.toList.isEmpty = false := by
              rw [Lib.toList_data, ← hT, mkB_list]
              cases t with
              | nil => simp at htl; omega
              | cons _ _ => rfl
            clear hpr hR hlne hf hPR h2 h3 htl htt hnn hR2 hcells hT
            go_wp2_with (first
              | (go_at_call 20; ((with_reducible refine (HGp.out).mono ?_); rintro e w1 ⟨rfl, rfl⟩))
              | (at_builtin; refine wpList_append_own _ rfl _ _ 22 rfl w.heap.size 9 ii (.string ⟨#[]⟩) 1 16 Try.underlying22 hi hz0 hz1 hz2 rfl (by decide) _ m _ rfl (hown.alloc _) ⟨wr.heap.size, 0, none⟩ 1 1 [.string T] rfl rfl (World.news_of_block (cs := #[.string T]) (t := 9) (fr := (0, 0)) (heap_alloc_last wr _)) (by simp [Value.oneCell']) (by unfold maxLen; omega) (by omega) (by simp; omega) ?_; intro v' w3 hown3 hgrow3 _))
            go_roundw
            case rel =>
              rw [HCL.out] at hown3
              exact ⟨pre ++ [_], p + (i + 1), m + 1, by go_num, by omega, by omega, by omega, hown3, Lib.hid (by rw [List.length_append, hPL.out]; rfl), HR2, (hBw.alloc hsz _).grown hgrow3 (by simp; omega) (own_base hown)⟩
            case measure => simp [intOf]; omega
      · obtain rfl : p = n := by omega
        obtain ⟨va, vc, rfl⟩ := owns_slice hown
        have hz0' : (0 :: r).drop p = [] := List.drop_eq_nil_of_le (by rw [HN.out]; exact Nat.le_refl _)
        have hR := hPR.out
        rw [hz0'] at hR
        have hR : pr [] r = some pre := by rw [hR]; simp [pr]
        have hpl := hPL.out
        have HW : Hid (Rw eT wr (.slice va pre.length vc) pre) := Lib.hid (by rw [← hpl] at hown; rw [hpl] at hown ⊢; subst hpl; exact Rw.own hown)
        have HR := Lib.hid hR
        clear hz0' hR hpl hPR
        go_wp2
        refine bodyPost_ret (v := .tuple #[.slice va m vc, .bool true]) (by simp [results, Try.results17, go_sem]) rfl ⟨.inr ⟨pre, va, vc, by rw [HP.out, HR.out], by rw [hPL.out], HW.out⟩, hBw⟩
  · have hnd : ((d.toNat : Int) == 0) = false := byte_ne (d := 0) hd
    have HR := Lib.hid (show prV (d :: r) = none by show (if d = 0 then pr [] r else none) = none; rw [if_neg hd])
    obtain ⟨x, hx2⟩ : ∃ x : Int, (d.toNat : Int) = x := ⟨_, rfl⟩
    rw [hx2] at hx hnd
    clear h hn hc hcc HG hd hx2
    go_enter Try.func17, Try.ntmps17
    go_wp2
    refine bodyPost_ret (v := .tuple #[.slice none 0 0, .bool false]) (by simp [results, Try.results17, go_sem]) rfl ⟨.inl ⟨HR.out, rfl⟩, Below.refl _ _⟩
end Go.Proofs.Ytegdffebdbkchaa.L14
