/- What Decode returns, for all bytes, in one contract. Condition: the table of widths reads as laid. -/
import Derived.Test.YthebdblncafijaaDoorDecr
namespace Go.Proofs.YthebdblncafijaaDoor
open Go.RowKit L3 L1 L4

/-- An instruction. -/
structure Ix where
  op : Int
  reg : Bool
  dst : Int
  src : Int
  off : Int
  imm : Int
def Ix.z : Ix := ⟨0, false, 0, 0, 0, 0⟩
abbrev Ix.cs (x : Ix) : Array Value := #[.int .i64 x.op, .bool x.reg, .int .i64 x.dst, .int .i64 x.src, .int .i64 x.off, .int .i64 x.imm]

/-- A byte of a list. -/
def bt' (l : List UInt8) (i : Nat) : UInt8 := l.getD i 0
def offL (l : List UInt8) : Int := sx 16 (((bt' l 2).toNat : Int) * 1 + ((bt' l 3).toNat : Int) * 256)
def immL (l : List UInt8) : Int := sx 32 (((bt' l 4).toNat : Int) * 1 + ((bt' l 5).toNat : Int) * 256 + ((bt' l 6).toNat : Int) * 65536 + ((bt' l 7).toNat : Int) * 16777216)
def hiL (l : List UInt8) : Int := sx 32 (((bt' l 12).toNat : Int) * 1 + ((bt' l 13).toNat : Int) * 256 + ((bt' l 14).toNat : Int) * 65536 + ((bt' l 15).toNat : Int) * 16777216)
def idL (l : List UInt8) : Int × Bool × Bool := idF ((bt' l 0).toNat : Int) (((bt' l 1).toNat : Int) / 16) (offL l) (immL l) 86 0
def fL (l : List UInt8) : Int := frm (ix (idL l).1)
def ivL (l : List UInt8) : Int := if uI (fL l) (idL l).2.1 then immL l else 0
/-- What Decode reads. -/
def rdL (l : List UInt8) : Ix :=
  ⟨(idL l).1, (idL l).2.1, if uD (fL l) then ((bt' l 1).toNat : Int) % 16 else 0, if uS (fL l) (idL l).2.1 then ((bt' l 1).toNat : Int) / 16 else 0, if uO (fL l) then offL l else 0,
    if slo (fL l) = 2 then bits .or .i64 (wrap64 (ivL l % 4294967296)) (hiL l * 4294967296) else ivL l⟩
def Ix.chk (f : Int) (x : Ix) : Int := chkF f x.reg x.dst x.src x.off x.imm
def Ix.enc (j : Nat) (f : Int) (x : Ix) : List UInt8 := encL j f x.reg x.dst x.src x.off x.imm
/-- What Decode comes to. -/
def decF (l : List UInt8) : Ix × Int × Int :=
  if l.length < 8 then (.z, 0, 17)
  else if (idL l).2.2 = false then (.z, 0, 6)
  else if slo (fL l) = 2 ∧ l.length < 16 then (.z, 0, 17)
  else if 11 ≤ ((bt' l 1).toNat : Int) % 16 ∨ 11 ≤ ((bt' l 1).toNat : Int) / 16 then (.z, 0, 5)
  else if (rdL l).chk (fL l) = 0 ∧ l.take ((rdL l).enc (ix (idL l).1) (fL l)).length = (rdL l).enc (ix (idL l).1) (fL l) then (rdL l, slo (fL l), 0)
  else (.z, 0, 12)

/-- v is a slice of the bytes l. -/
def BsAt (w : World) (v : Value) (l : List UInt8) : Prop :=
  ∃ a cap, v = .slice a l.length cap ∧ l.length ≤ cap ∧ cap ≤ maxLen ∧ (l = [] ∨ ∃ k o, a = some ⟨k, o, none⟩ ∧ Bytes w k o l)
theorem BsAt.below {w w' : World} {v : Value} {l : List UInt8} (h : BsAt w v l) (hb : Below w.heap.size w w') : BsAt w' v l := by
  obtain ⟨a, cap, rfl, h1, h2, h3⟩ := h
  refine ⟨a, cap, rfl, h1, h2, ?_⟩
  rcases h3 with h3 | ⟨k, o, rfl, h3⟩
  · exact .inl h3
  · exact .inr ⟨k, o, rfl, h3.up hb⟩

theorem Bytes.get {w : World} {k o : Nat} {l : List UInt8} (h : Bytes w k o l) (i : Nat) (hi : i < l.length) : w.cell? ⟨k, o + i, none⟩ = some (.int .u8 ((bt' l i).toNat : Int)) := by
  rw [h i hi, bt', List.getD, List.getElem?_eq_getElem hi]
  rfl
theorem Bytes.eight {w : World} {k o : Nat} {l : List UInt8} (h : Bytes w k o l) (hi : 8 ≤ l.length) : Eight w k o (bt' l 0) (bt' l 1) (bt' l 2) (bt' l 3) (bt' l 4) (bt' l 5) (bt' l 6) (bt' l 7) :=
  ⟨h.get 0 (by omega), h.get 1 (by omega), h.get 2 (by omega), h.get 3 (by omega), h.get 4 (by omega), h.get 5 (by omega), h.get 6 (by omega), h.get 7 (by omega)⟩

set_option maxRecDepth 100000 in
theorem dec_short (a : Option Addr) (n cap : Nat) (w : World) (hn : n < 8) : Calls Tryd.prog 14 #[.slice a n cap] w fun e w' => e = .returned (.tuple #[.agg Ix.z.cs, .int .i64 0, .int .i64 17]) ∧ Below w.heap.size w w' := by
  have n8 : (n : Int) < 8 := by omega
  have S := DecS.start w #[.int .i64 0, .bool false, .int .i64 0, .int .i64 0, .int .i64 0, .int .i64 0]
  go_enter Tryd.func14, Tryd.ntmps14
  go_wp2_with (first | (refine wpList_store_row rfl _ _ _ rfl w.heap.size #[.int .i64 0, .bool false, .int .i64 0, .int .i64 0, .int .i64 0, .int .i64 0] rfl rfl 23 _ S.hg (by kernel_rfl) rfl (ins_one _ _ _ _ _ _) ?_; replace S := S.set #[.int .i64 0, .bool false, .int .i64 0, .int .i64 0, .int .i64 0, .int .i64 0]; obtain ⟨x0, x1, x2, x3, x4, x5⟩ := cells6 S.hg))
  exact bodyPost_ret (v := .tuple #[.agg #[.int .i64 0, .bool false, .int .i64 0, .int .i64 0, .int .i64 0, .int .i64 0], .int .i64 0, .int .i64 17]) (by simp [results, Tryd.results14, go_sem, x0, x1, x2, x3, x4, x5]) rfl ⟨rfl, S.hb⟩

theorem id_ok (code src off imm : Int) : ∀ (n k : Nat) (op : Int) (r : Bool), idF code src off imm n k = (op, r, true) → ∃ j, k ≤ j ∧ j < k + n ∧ op = (j : Int) ∧ hitK code src off imm j = true ∧ r = regK code j
  | 0, k, op, r, h => by simp [idF] at h
  | n + 1, k, op, r, h => by
    unfold idF at h
    split at h
    · rename_i hh
      simp only [Prod.mk.injEq, and_true] at h
      exact ⟨k, Nat.le_refl _, by omega, h.1.symm, hh, h.2.symm⟩
    · obtain ⟨j, h1, h2, h3⟩ := id_ok code src off imm n (k + 1) op r h
      exact ⟨j, by omega, by omega, h3⟩

theorem sx32_b (x : Int) : -2147483648 ≤ sx 32 x ∧ sx 32 x ≤ 2147483647 := by
  unfold sx
  simp
  omega

theorem or_hi (a b : Int) (ha : 0 ≤ a) (ha2 : a < 4294967296) (hb0 : -2147483648 ≤ b) (hb1 : b ≤ 2147483647) : bits .or .i64 a (b * 4294967296) = a + b * 4294967296 := by
  show IntKind.i64.wrap (((BitVec.ofInt 64 a ||| BitVec.ofInt 64 (b * 4294967296)).toNat : Nat) : Int) = _
  rw [BitVec.toNat_or, BitVec.toNat_ofInt, BitVec.toNat_ofInt]
  obtain ⟨A, hA⟩ : ∃ A : Nat, (a % ((2 ^ 64 : Nat) : Int)).toNat = A := ⟨_, rfl⟩
  obtain ⟨Q, hQ⟩ : ∃ Q : Nat, (b % 4294967296).toNat = Q := ⟨_, rfl⟩
  have e : (b * 4294967296 % ((2 ^ 64 : Nat) : Int)).toNat = 2 ^ 32 * Q := by
    have : ((2 ^ 64 : Nat) : Int) = 18446744073709551616 := rfl
    rw [this]
    omega
  have hA' : A = a.toNat := by
    have : ((2 ^ 64 : Nat) : Int) = 18446744073709551616 := rfl
    rw [this] at hA
    omega
  rw [hA, e, Nat.or_comm, ← Nat.two_pow_add_eq_or_of_lt (by omega) Q]
  rw [IntKind.wrap_i64]
  omega

theorem vb (a b : Int) (h0 : 0 ≤ a) (h1 : a < 4294967296) (h2 : -2147483648 ≤ b) (h3 : b ≤ 2147483647) : -9223372036854775808 ≤ a + b * 4294967296 ∧ a + b * 4294967296 ≤ 9223372036854775807 := by omega
theorem take_beq (a b : List UInt8) (h : a = b) : (a == b) = true := by rw [h]; simp
theorem take_bne (a b : List UInt8) (h : a ≠ b) : (a == b) = false := by simpa using h

theorem slo_of {f : Int} (h : IsF f) : slo f = 0 ∨ slo f = 1 ∨ slo f = 2 := by
  rcases h with rfl | rfl | rfl | rfl | rfl | rfl | rfl | rfl | rfl | rfl | rfl | rfl | rfl <;> decide

set_option maxHeartbeats 1000000 in
theorem decode_any (v : Value) (l : List UInt8) (w : World) (hw : Wid w) (hv : BsAt w v l) :
    Calls Tryd.prog 14 #[v] w fun e w' => e = .returned (.tuple #[.agg (decF l).1.cs, .int .i64 (decF l).2.1, .int .i64 (decF l).2.2]) ∧ Below w.heap.size w w' := by
  obtain ⟨a, cap, rfl, hc, hm, hb⟩ := hv
  unfold maxLen at hm
  unfold decF
  by_cases h8 : l.length < 8
  · rw [if_pos h8]
    exact dec_short a l.length cap w h8
  rw [if_neg h8]
  obtain ⟨k, o, rfl, hB⟩ : ∃ k o, a = some ⟨k, o, none⟩ ∧ Bytes w k o l := by
    rcases hb with rfl | h
    · simp at h8
    · exact h
  have hE := hB.eight (by omega)
  obtain ⟨⟨op, r, ok⟩, hid⟩ : ∃ i, idL l = i := ⟨_, rfl⟩
  have hfL : fL l = frm (ix op) := by unfold fL; rw [hid]
  obtain ⟨f, hf⟩ : ∃ f, frm (ix op) = f := ⟨_, rfl⟩
  rw [hf] at hfL
  have hid' : idF ((bt' l 0).toNat : Int) (((bt' l 1).toNat : Int) / 16) (offL l) (immL l) 86 0 = (op, r, ok) := hid
  simp only [hid]
  cases ok
  · simp only [if_true]
    exact dec_op k o l.length cap (bt' l 0) (bt' l 1) (bt' l 2) (bt' l 3) (bt' l 4) (bt' l 5) (bt' l 6) (bt' l 7) (offL l) (immL l) w hw hE (by omega) hc (by omega) rfl rfl op r false hid' rfl
  simp only [Bool.true_eq_false, if_false]
  rw [hfL]
  have hs := slo_of (hf ▸ frm_isF op : IsF f)
  obtain ⟨j, -, hj, hop, -, -⟩ := id_ok _ _ _ _ _ _ _ _ hid'
  have hj' : ix op < 86 := by rw [hop, ix_nat (by omega)]; omega
  have hs12 : slo f = 1 ∨ slo f = 2 := by
    have := (tab4 _ hj').1
    rwa [← frm_fm hj', hf] at this
  have hiv : (if uI f r then immL l else 0) = ivL l := by unfold ivL; rw [hfL, hid]
  obtain ⟨D, hd⟩ : ∃ D, (if uD f then ((bt' l 1).toNat : Int) % 16 else 0) = D := ⟨_, rfl⟩
  obtain ⟨S, hs'⟩ : ∃ S, (if uS f r then ((bt' l 1).toNat : Int) / 16 else 0) = S := ⟨_, rfl⟩
  obtain ⟨O, ho⟩ : ∃ O, (if uO f then offL l else 0) = O := ⟨_, rfl⟩
  have hivb : -2147483648 ≤ ivL l ∧ ivL l ≤ 2147483647 := by
    rw [← hiv]
    split
    · exact sx32_b _
    · omega
  rcases hs12 with hs1 | hs2
  · rw [if_neg (by omega)]
    by_cases hreg : 11 ≤ ((bt' l 1).toNat : Int) % 16 ∨ 11 ≤ ((bt' l 1).toNat : Int) / 16
    · rw [if_pos hreg]
      exact dec_reg1 k o l.length cap (bt' l 0) (bt' l 1) (bt' l 2) (bt' l 3) (bt' l 4) (bt' l 5) (bt' l 6) (bt' l 7) (offL l) (immL l) w hw hE (by omega) hc (by omega) rfl rfl op r true hid' rfl f hf hs1 hreg
    rw [if_neg hreg]
    have hrd : rdL l = ⟨op, r, D, S, O, ivL l⟩ := by
      unfold rdL
      rw [hid, hfL, ← hd, ← hs', ← ho]
      simp [hs1]
    have hchk : (rdL l).chk f = chkF f r D S O (ivL l) := by rw [hrd]; rfl
    have henc : (rdL l).enc (ix op) f = encL (ix op) f r D S O (ivL l) := by rw [hrd]; rfl
    have hcs : (rdL l).cs = insA op r D S O (ivL l) := by rw [hrd]
    obtain ⟨x, hx⟩ : ∃ x, rdL l = x := ⟨_, rfl⟩
    rw [hx] at hchk henc hcs ⊢
    clear hrd hx
    by_cases h0 : x.chk f = 0
    · have hO := (chk_ok _ _ _ _ _ _).1 (hchk.symm.trans h0)
      have hlen : (x.enc (ix op) f).length = 8 := by rw [henc, encL_length]; simp [hs1]
      by_cases hp : l.take (x.enc (ix op) f).length = x.enc (ix op) f
      · rw [if_pos ⟨h0, hp⟩, hcs, hs1]
        exact dec_yes1 k o l.length cap (bt' l 0) (bt' l 1) (bt' l 2) (bt' l 3) (bt' l 4) (bt' l 5) (bt' l 6) (bt' l 7) (offL l) (immL l) w hw hE (by omega) hc (by omega) rfl rfl op r true hid' rfl f hf hs1 (by omega) (by omega) D S O (ivL l) hd hs' ho hiv l (x.enc (ix op) f) _ rfl hB hO (by omega) (by omega) henc.symm rfl (by omega) (take_beq _ _ hp)
      · rw [if_neg (fun h => hp h.2)]
        exact dec_no1 k o l.length cap (bt' l 0) (bt' l 1) (bt' l 2) (bt' l 3) (bt' l 4) (bt' l 5) (bt' l 6) (bt' l 7) (offL l) (immL l) w hw hE (by omega) hc (by omega) rfl rfl op r true hid' rfl f hf hs1 (by omega) (by omega) D S O (ivL l) hd hs' ho hiv l (x.enc (ix op) f) _ rfl hB hO (by omega) (by omega) henc.symm rfl (by omega) (take_bne _ _ hp)
    · rw [if_neg (fun h => h0 h.1)]
      exact dec_bad1 k o l.length cap (bt' l 0) (bt' l 1) (bt' l 2) (bt' l 3) (bt' l 4) (bt' l 5) (bt' l 6) (bt' l 7) (offL l) (immL l) w hw hE (by omega) hc (by omega) rfl rfl op r true hid' rfl f hf hs1 (by omega) (by omega) D S O (ivL l) hd hs' ho hiv _ hchk.symm (by simpa using h0)
  · have hhi := sx32_b (((bt' l 12).toNat : Int) * 1 + ((bt' l 13).toNat : Int) * 256 + ((bt' l 14).toNat : Int) * 65536 + ((bt' l 15).toNat : Int) * 16777216)
    have hor : bits .or .i64 (wrap64 (ivL l % 4294967296)) (hiL l * 4294967296) = ivL l % 4294967296 + hiL l * 4294967296 := by
      rw [show wrap64 (ivL l % 4294967296) = ivL l % 4294967296 by unfold wrap64; omega]
      exact or_hi _ _ (by omega) (by omega) hhi.1 hhi.2
    have hhi' : -2147483648 ≤ hiL l ∧ hiL l ≤ 2147483647 := hhi
    by_cases h16 : l.length < 16
    · rw [if_pos ⟨hs2, h16⟩]
      exact dec_short2 k o l.length cap (bt' l 0) (bt' l 1) (bt' l 2) (bt' l 3) (bt' l 4) (bt' l 5) (bt' l 6) (bt' l 7) (offL l) (immL l) w hw hE (by omega) hc (by omega) rfl rfl op r true hid' rfl f hf hs2 h16
    rw [if_neg (fun h => h16 h.2)]
    by_cases hreg : 11 ≤ ((bt' l 1).toNat : Int) % 16 ∨ 11 ≤ ((bt' l 1).toNat : Int) / 16
    · rw [if_pos hreg]
      exact dec_reg2 k o l.length cap (bt' l 0) (bt' l 1) (bt' l 2) (bt' l 3) (bt' l 4) (bt' l 5) (bt' l 6) (bt' l 7) (offL l) (immL l) w hw hE (by omega) hc (by omega) rfl rfl op r true hid' rfl f hf hs2 (by omega) hreg
    rw [if_neg hreg]
    obtain ⟨V, hV⟩ : ∃ V, bits .or .i64 (wrap64 (ivL l % 4294967296)) (hiL l * 4294967296) = V := ⟨_, rfl⟩
    have hVb : -9223372036854775808 ≤ V ∧ V ≤ 9223372036854775807 := by rw [← hV, hor]; exact vb _ _ (Int.emod_nonneg _ (by decide)) (Int.emod_lt_of_pos _ (by decide)) hhi'.1 hhi'.2
    have hrd : rdL l = ⟨op, r, D, S, O, V⟩ := by
      unfold rdL
      rw [hid, hfL, ← hd, ← hs', ← ho, ← hV]
      simp [hs2]
    have hchk : (rdL l).chk f = chkF f r D S O V := by rw [hrd]; rfl
    have henc : (rdL l).enc (ix op) f = encL (ix op) f r D S O V := by rw [hrd]; rfl
    have hcs : (rdL l).cs = insA op r D S O V := by rw [hrd]
    obtain ⟨x, hx⟩ : ∃ x, rdL l = x := ⟨_, rfl⟩
    rw [hx] at hchk henc hcs ⊢
    clear hrd hx
    by_cases h0 : x.chk f = 0
    · have hO := (chk_ok _ _ _ _ _ _).1 (hchk.symm.trans h0)
      have hlen : (x.enc (ix op) f).length = 16 := by rw [henc, encL_length]; simp [hs2]
      by_cases hp : l.take (x.enc (ix op) f).length = x.enc (ix op) f
      · rw [if_pos ⟨h0, hp⟩, hcs, hs2]
        exact dec_yes2 k o l.length cap (bt' l 0) (bt' l 1) (bt' l 2) (bt' l 3) (bt' l 4) (bt' l 5) (bt' l 6) (bt' l 7) (offL l) (immL l) w hw hE (by omega) hc (by omega) rfl rfl op r true hid' rfl f hf hs2 (by omega) (by omega) (by omega) D S O (ivL l) hd hs' ho hiv (bt' l 12) (bt' l 13) (bt' l 14) (bt' l 15) (hB.get 12 (by omega)) (hB.get 13 (by omega)) (hB.get 14 (by omega)) (hB.get 15 (by omega)) (hiL l) V rfl hV hhi.1 hhi.2 l (x.enc (ix op) f) _ rfl hB hO hVb.1 hVb.2 henc.symm rfl (by omega) (take_beq _ _ hp)
      · rw [if_neg (fun h => hp h.2)]
        exact dec_no2 k o l.length cap (bt' l 0) (bt' l 1) (bt' l 2) (bt' l 3) (bt' l 4) (bt' l 5) (bt' l 6) (bt' l 7) (offL l) (immL l) w hw hE (by omega) hc (by omega) rfl rfl op r true hid' rfl f hf hs2 (by omega) (by omega) (by omega) D S O (ivL l) hd hs' ho hiv (bt' l 12) (bt' l 13) (bt' l 14) (bt' l 15) (hB.get 12 (by omega)) (hB.get 13 (by omega)) (hB.get 14 (by omega)) (hB.get 15 (by omega)) (hiL l) V rfl hV hhi.1 hhi.2 l (x.enc (ix op) f) _ rfl hB hO hVb.1 hVb.2 henc.symm rfl (by omega) (take_bne _ _ hp)
    · rw [if_neg (fun h => h0 h.1)]
      exact dec_bad2 k o l.length cap (bt' l 0) (bt' l 1) (bt' l 2) (bt' l 3) (bt' l 4) (bt' l 5) (bt' l 6) (bt' l 7) (offL l) (immL l) w hw hE (by omega) hc (by omega) rfl rfl op r true hid' rfl f hf hs2 (by omega) (by omega) (by omega) D S O (ivL l) hd hs' ho hiv (bt' l 12) (bt' l 13) (bt' l 14) (bt' l 15) (hB.get 12 (by omega)) (hB.get 13 (by omega)) (hB.get 14 (by omega)) (hB.get 15 (by omega)) (hiL l) V rfl hV hhi.1 hhi.2 _ hchk.symm (by simpa using h0)
end Go.Proofs.YthebdblncafijaaDoor
