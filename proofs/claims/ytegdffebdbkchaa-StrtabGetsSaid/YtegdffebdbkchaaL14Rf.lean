/- What the reference's Right, Build and Parse return, and the law's 'few'. Conditions: memory holds the texts (no more than 100000, of no more than 1000000 bytes in all, where they are put into a table) and the bytes (no more than 1000000). -/
import Derived.Test.YtegdffebdbkchaaL14Gt
import Derived.Deep.WholeRow
import Derived.Maps.AppendAt
import Derived.Deep.AppendLies
import Derived.Lib.AppendStr
import Derived.Laws.OwnMore
namespace Go.Proofs.Ytegdffebdbkchaa.L14
open Go.RowKit
attribute [local go_sem] Oper.semAt_some

set_option maxHeartbeats 2000000 in
set_option maxRecDepth 100000 in
theorem right_at (t : List UInt8) (T : ByteArray) (hT : T = mkB t) (ht : t.length ≤ 9223372036854775807) (b : Bool) (hb : rt t = b) (w : World) :
    Calls Try.prog 12 #[.string T] w fun e w' => e = .returned (.bool b) ∧ w = w' := by
  obtain ⟨n, hn⟩ : ∃ n, t.length = n := ⟨_, rfl⟩
  have hs : T.size = n := by rw [hT, mkB_size, hn]
  rw [hn] at ht
  have HN := Lib.hid hn
  have HB : Hid (rt t = b) := Lib.hid hb
  have HT := Lib.hid hT
  clear hT hn hb
  go_enter Try.func12, Try.ntmps12
  go_wp2
  go_loop [3] (fun i => ∃ k : Nat, k ≤ n ∧ i = .int .i64 (k : Int) ∧ Hid (fz t = (fz (t.drop k)).map (· + k))) (fun i => n - (intOf i).toNat)
  case atStart => exact ⟨0, Nat.zero_le _, rfl, Lib.hid (by simp)⟩
  case round =>
    obtain ⟨k, hk, rfl, hF⟩ := hrel
    by_cases hlt : k < n
    · have hkl : k < t.length := by rw [HN.out]; exact hlt
      have hkT : k < T.size := by omega
      have hd : t.drop k = t[k] :: t.drop (k + 1) := List.drop_eq_getElem_cons hkl
      have hix : ∀ w, (Instr.index 9 (.string T) (.int .i64 (k : Int))).run Try.prog w = .ok (.int .u8 (t[k].toNat : Int)) w := fun w => by
        rw [run_index_string w 9 T .i64 k Try.underlying9, dif_pos (by omega)]
        have e : T[k] = t[k] := by
          have h1 : T.data.toList = t := by rw [HT.out, mkB_list]
          have h2 : T[k] = T.data.toList[k]'(by rw [h1]; exact hkl) := by simp [ByteArray.getElem_eq_getElem_data]
          rw [h2]; simp [h1]
        simp [e]
      have hF1 := hF.out
      rw [hd] at hF1
      have hlt' : (k : Int) < (T.size : Int) := by omega
      by_cases hz : t[k] = 0
      · rw [hz, fz_cons0] at hF1
        have HB2 : Hid (b = false) := Lib.hid (by rw [← HB.out, rt, hF1]; simp)
        rw [hz] at hix
        have e0 : ((0 : UInt8).toNat : Int) = 0 := rfl
        rw [e0] at hix
        clear hF1 hF hd hz
        go_wp2
        go_ret
        rw [HB2.out]
        exact ⟨rfl, rfl⟩
      · rw [fz_consN hz, Option.map_map] at hF1
        have hne : ((t[k].toNat : Int) == 0) = false := byte_ne (d := 0) hz
        have hF2 : fz t = (fz (t.drop (k + 1))).map (· + (k + 1)) := by
          rw [hF1]
          congr 1
          funext i
          show i + 1 + k = _
          omega
        have HF := Lib.hid hF2
        obtain ⟨d, hd2⟩ : ∃ d : Int, (t[k].toNat : Int) = d := ⟨_, rfl⟩
        rw [hd2] at hix hne
        clear hF1 hF hd hz hF2 hd2
        go_wp2
        go_round
        case rel => exact ⟨k + 1, by omega, by go_num, HF⟩
        case measure => simp [intOf]; omega
    · obtain rfl : k = n := by omega
      have hF1 := hF.out
      have hz0 : t.drop k = [] := List.drop_eq_nil_of_le (by rw [HN.out]; exact Nat.le_refl _)
      rw [hz0] at hF1
      have hF2 : fz t = none := hF1
      have hb2 : decide (0 < k) = b := by
        rw [← HB.out, rt, hF2, ← HN.out]
        cases t <;> simp
      clear hF hF1 hz0 hF2
      cases b
      · have h1 : ¬ (0 : Int) < (T.size : Int) := by have := of_decide_eq_false hb2; omega
        go_wp2
        go_ret
        exact ⟨congrArg Ending.returned (congrArg Value.bool (by simp)), rfl⟩
      · have h1 : (0 : Int) < (T.size : Int) := by have := of_decide_eq_true hb2; omega
        go_wp2
        go_ret
        exact ⟨congrArg Ending.returned (congrArg Value.bool (by simp)), rfl⟩

/-- How many bytes the texts have in all. -/
def tot (l : List (List UInt8)) : Nat := (l.map List.length).sum
theorem tot_le : ∀ (l : List (List UInt8)) (k : Nat), tot (l.take k) ≤ tot l
  | [], k => by simp [tot]
  | x :: r, 0 => by simp [tot]
  | x :: r, k + 1 => by
    have := tot_le r k
    simp only [tot, List.take_succ_cons, List.map_cons, List.sum_cons] at this ⊢
    omega
theorem tot_step (l : List (List UInt8)) (k : Nat) (h : k < l.length) : tot (l.take (k + 1)) = tot (l.take k) + l[k].length := by
  unfold tot
  rw [List.take_add_one, List.getElem?_eq_getElem h, List.map_append, List.sum_append]
  simp [-List.map_take]
theorem bd_len : ∀ l : List (List UInt8), (bd l).length = tot l + l.length
  | [] => rfl
  | x :: r => by
    rw [bd_cons]
    have := bd_len r
    simp only [tot, List.map_cons, List.sum_cons, List.length_append, List.length_cons] at this ⊢
    omega
theorem tb_len (l : List (List UInt8)) : (tb l).length = 1 + tot l + l.length := by
  unfold tb
  rw [List.length_cons, bd_len]; omega

set_option maxHeartbeats 2000000 in
set_option maxRecDepth 100000 in
theorem few_at (v : Value) (l : List (List UInt8)) (w : World) (h : Rw eT w v l) (hl2 : l.length ≤ 8796093022208) (hm : ∀ t ∈ l, t.length ≤ 140737488351232) (b : Bool) (hb : b = true ↔ tot l ≤ 3000 ∧ l.length ≤ 300) :
    Calls Try.prog 9 #[v] w fun e w' => e = .returned (.bool b) ∧ w = w' := by
  obtain ⟨n, hn⟩ : ∃ n, l.length = n := ⟨_, rfl⟩
  obtain ⟨a, c, rfl, -, -, hc⟩ := h.form hn
  rw [hn] at hl2 hb
  have HN := Lib.hid hn
  have HC := Lib.hid hc
  have HB := Lib.hid hb
  have HM := Lib.hid hm
  clear hn hc h hb hm
  go_enter Try.func9, Try.ntmps9
  go_wp2
  go_loop [3, 5, 8] (fun s _ i => ∃ k : Nat, k ≤ n ∧ i = .int .i64 (k : Int) ∧ s = .int .i64 (tot (l.take k) : Int) ∧ tot (l.take k) ≤ 3000) (fun _ _ i => n - (intOf i).toNat)
  case atStart => exact ⟨0, Nat.zero_le _, rfl, by simp [tot], by simp [tot]⟩
  case round =>
    obtain ⟨k, hk, rfl, rfl, h3⟩ := hrel
    by_cases hlt : k < n
    · have hkl : k < l.length := by rw [HN.out]; exact hlt
      obtain ⟨bb, o, rfl, hbb, hcc⟩ := HC.out (by omega)
      have hx := hcc k hkl
      unfold eT at hx
      have hsz := mkB_size l[k]
      have hm1 := HM.out _ (List.getElem_mem hkl)
      have hst := tot_step l k hkl
      have hto := tot_le l (k + 1)
      obtain ⟨T, hT⟩ : ∃ T, mkB l[k] = T := ⟨_, rfl⟩
      rw [hT] at hx hsz
      rw [← hsz] at hst hm1
      obtain ⟨s, hs⟩ : ∃ s, tot (l.take k) = s := ⟨_, rfl⟩
      obtain ⟨s2, hs2⟩ : ∃ s2, tot (l.take (k + 1)) = s2 := ⟨_, rfl⟩
      rw [hs] at h3 hst ⊢
      rw [hs2] at hst hto
      have HS2 := Lib.hid hs2
      have HST := Lib.hid hst
      have hlt' : (k : Int) < (n : Int) := by omega
      by_cases hbig : 3000 < s2
      · have HB2 : Hid (b = false) := Lib.hid (by
          cases b with
          | false => rfl
          | true => have := (HB.out.1 rfl).1; omega)
        have hgt : (3000 : Int) < (s : Int) + (T.size : Int) := by omega
        clear hcc hsz hst hto hT hs hs2
        go_wp2
        go_ret
        rw [HB2.out]
        exact ⟨rfl, rfl⟩
      · have hgt : ¬ (3000 : Int) < (s : Int) + (T.size : Int) := by omega
        clear hcc hsz hst hto hT hs hs2
        go_wp2
        go_round
        case rel => exact ⟨k + 1, by omega, by go_num, by rw [HS2.out, HST.out]; go_num, by rw [HS2.out]; omega⟩
        case measure => simp [intOf]; omega
    · obtain rfl : k = n := by omega
      have hb2 : b = decide (k ≤ 300) := by
        have e : l.take k = l := List.take_of_length_le (by rw [HN.out]; exact Nat.le_refl _)
        rw [e] at h3
        rw [Bool.eq_iff_iff, HB.out, decide_eq_true_eq]
        exact ⟨fun h => h.2, fun h => ⟨h3, h⟩⟩
      by_cases h300 : k ≤ 300
      · have h1 : (k : Int) ≤ 300 := by omega
        rw [decide_eq_true h300] at hb2
        subst hb2
        go_wp2
        go_ret
        exact ⟨congrArg Ending.returned (congrArg Value.bool (by simp)), rfl⟩
      · have h1 : ¬ (k : Int) ≤ 300 := by omega
        rw [decide_eq_false h300] at hb2
        subst hb2
        go_wp2
        go_ret
        exact ⟨congrArg Ending.returned (congrArg Value.bool (by simp)), rfl⟩
end Go.Proofs.Ytegdffebdbkchaa.L14
