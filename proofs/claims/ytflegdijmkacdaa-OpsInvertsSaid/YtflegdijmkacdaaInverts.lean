/- OpsInverts: for all numbers and both kinds of operands, the law 'Identify inverts Code with the fixed fields, and the names of the operations are different words that are no names of registers' returns true, and its arguments read as before. No condition. -/
import Derived.Test.YtflegdijmkacdaaRid
import Derived.Test.YtflegdijmkacdaaLaw
namespace Go.Proofs.Ytflegdijmkacdaa
open Go.ChangeShapes Go.WideShapes Go.ChangeAt Go.RowKit

theorem vd_nm : ∀ k, k < 86 → L2.vd (nm k) = true := by decide +kernel

theorem byte_rem (n : Int) (hn : (Lit.int .u8 n).wf = true) : ∃ k : Nat, k < 86 ∧ (wrap64 n).tmod 86 = (k : Int) := by
  have h := bounds_u8 hn
  have e : wrap64 n = n := by unfold wrap64; omega
  rw [e, Int.tmod_eq_emod_of_nonneg h.1]
  exact ⟨(n % 86).toNat, by omega, by omega⟩

set_option maxHeartbeats 4000000 in
set_option maxRecDepth 100000 in
theorem inverts_walk (n : Int) (hn : (Lit.int .u8 n).wf = true) (m : Int) (hm : (Lit.int .u8 m).wf = true) (reg : Bool) (w : World) :
    Calls Try.prog 8 #[.int .u8 n, .int .u8 m, .bool reg] w fun e w' => e = .returned (.bool true) ∧ Below w.heap.size w w' := by
  obtain ⟨k, hk, ek⟩ := byte_rem n hn
  obtain ⟨j, hj, ej⟩ := byte_rem m hm
  clear hn hm
  obtain ⟨s, hs⟩ : ∃ s, nm k = s := ⟨_, rfl⟩
  obtain ⟨t, ht⟩ : ∃ t, nm j = t := ⟨_, rfl⟩
  obtain ⟨v, hv⟩ : ∃ v, cdV k reg = v := ⟨_, rfl⟩
  obtain ⟨ok, hok⟩ : ∃ ok, cdB k reg = ok := ⟨_, rfl⟩
  obtain ⟨r, hr⟩ : ∃ r, sr k = r := ⟨_, rfl⟩
  obtain ⟨o, ho⟩ : ∃ o, of k = o := ⟨_, rfl⟩
  obtain ⟨i, hi⟩ : ∃ i, im k = i := ⟨_, rfl⟩
  obtain ⟨⟨b, bw, bi⟩, hR⟩ : ∃ R, idF v r o i 86 0 = R := ⟨_, rfl⟩
  have hinv : ok = true → b = k ∧ bw = reg ∧ bi = true := by
    intro e
    have h := id_inv k hk reg (hok.trans e)
    rw [hv, hr, ho, hi, hR] at h
    simpa using h
  have HV : Hid (cdV (ix (k : Int)) reg = v) := Lib.hid (by rw [ix_nat hk]; exact hv)
  have HB : Hid (cdB (ix (k : Int)) reg = ok) := Lib.hid (by rw [ix_nat hk]; exact hok)
  have H1 : Hid (sr (ix (k : Int)) = r) := Lib.hid (by rw [ix_nat hk]; exact hr)
  have H2 : Hid (of (ix (k : Int)) = o) := Lib.hid (by rw [ix_nat hk]; exact ho)
  have H3 : Hid (im (ix (k : Int)) = i) := Lib.hid (by rw [ix_nat hk]; exact hi)
  have HR := Lib.hid hR
  have HS : Hid (nm (ix (k : Int)) = s) := Lib.hid (by rw [ix_nat hk]; exact hs)
  have HT : Hid (nm (ix (j : Int)) = t) := Lib.hid (by rw [ix_nat hj]; exact ht)
  have HF1 : Hid ((fnd s 86).1 = (k : Int)) := Lib.hid (by rw [← hs, fnd_nm k hk])
  have HF2 : Hid ((fnd s 86).2 = true) := Lib.hid (by rw [← hs, fnd_nm k hk])
  have HW : Hid (L2.vd s = true) := Lib.hid (by rw [← hs]; exact vd_nm k hk)
  have hsz : s.size ≤ maxLen := by rw [← hs]; exact nm_size k
  have hsi : s.size ≤ 9223372036854775807 := by unfold maxLen at hsz; omega
  have hst : (s.toList == t.toList) = ((k : Int) == (j : Int)) := by
    by_cases e : k = j
    · subst e
      rw [hs] at ht
      rw [ht, beq_self_eq_true, beq_self_eq_true]
    · have h1 : ¬ s = t := by
        intro e2
        exact e (nm_inj k hk j hj (by rw [hs, ht, e2]))
      rw [L2.txt_ne h1, eq_comm, beq_eq_false_iff_ne]
      omega
  obtain ⟨q, hq⟩ : ∃ q, ((k : Int) == (j : Int)) = q := ⟨_, rfl⟩
  rw [hq] at hst
  clear hs ht hv hok hr ho hi hR hk hj
  cases ok
  · clear hinv
    go_enter Try.func8, Try.ntmps8
    go_wp2_with (first
    | (go_at_call 9; ((with_reducible refine (alive_any _).mono ?_); rintro e wa ⟨rfl, hba⟩))
    | (go_at_call 17; ((with_reducible refine (code_at _ _ _ _ _ HV.out HB.out).mono ?_); rintro e w1 ⟨rfl, hb1⟩))
    | (go_at_call 19; ((with_reducible refine (fixed_at _ _ _ _ _ H1.out H2.out H3.out).mono ?_); rintro e w2 ⟨rfl, hb2⟩))
    | (go_at_call 21; ((with_reducible refine (ident_at _ _ _ _ _ _ _ _ HR.out).mono ?_); rintro e w3 ⟨rfl, hb3⟩))
    | (go_at_call 16; ((with_reducible refine (find_at s hsz _ _ _ HF1.out HF2.out).mono ?_); rintro e w5 ⟨rfl, hb5⟩))
    | (go_at_call 23; ((with_reducible refine (L2.rvalid_at s true _ hsi HW.out).mono ?_); rintro e w' ⟨rfl, rfl⟩))
    | (go_at_call 10; ((with_reducible refine (name_at _ _ _ HS.out).mono ?_); rintro e wn ⟨rfl, hbn⟩; replace hbn := Lib.hid hbn))
    | (go_at_call 10; ((with_reducible refine (name_at _ _ _ HT.out).mono ?_); rintro e wt ⟨rfl, hbt⟩)))
    rename_i u1 k1 u2 k2
    go_ret
    exact ⟨rfl, bch (bch (bch (bch (bch (bch (bch (bch hb1 hb2) hb3) k1.out) hb5) hba) k2.out) hbn.out) hbt⟩
  · obtain ⟨rfl, rfl, rfl⟩ := hinv rfl
    go_enter Try.func8, Try.ntmps8
    go_wp2_with (first
    | (go_at_call 9; ((with_reducible refine (alive_any _).mono ?_); rintro e wa ⟨rfl, hba⟩))
    | (go_at_call 17; ((with_reducible refine (code_at _ _ _ _ _ HV.out HB.out).mono ?_); rintro e w1 ⟨rfl, hb1⟩))
    | (go_at_call 19; ((with_reducible refine (fixed_at _ _ _ _ _ H1.out H2.out H3.out).mono ?_); rintro e w2 ⟨rfl, hb2⟩))
    | (go_at_call 21; ((with_reducible refine (ident_at _ _ _ _ _ _ _ _ HR.out).mono ?_); rintro e w3 ⟨rfl, hb3⟩))
    | (go_at_call 16; ((with_reducible refine (find_at s hsz _ _ _ HF1.out HF2.out).mono ?_); rintro e w5 ⟨rfl, hb5⟩))
    | (go_at_call 23; ((with_reducible refine (L2.rvalid_at s true _ hsi HW.out).mono ?_); rintro e w' ⟨rfl, rfl⟩))
    | (go_at_call 10; ((with_reducible refine (name_at _ _ _ HS.out).mono ?_); rintro e wn ⟨rfl, hbn⟩; replace hbn := Lib.hid hbn))
    | (go_at_call 10; ((with_reducible refine (name_at _ _ _ HT.out).mono ?_); rintro e wt ⟨rfl, hbt⟩)))
    rename_i u1 k1 u2 k2
    go_ret
    exact ⟨rfl, bch (bch (bch (bch (bch (bch (bch (bch hb1 hb2) hb3) k1.out) hb5) hba) k2.out) hbn.out) hbt⟩

set_option maxRecDepth 100000 in
theorem inverts_lifted (os : Os) (started : os.Started) (H : Type) (enc : TypeId × Value → H) :
    ReturnsInHanded {} Try.checked os 8 .any (Rows.opsInvertsSpec.pre6 enc Try.prog Try.f8 Rows.opsInvertsRow.domain false) (Rows.opsInvertsSpec.post enc Try.prog Try.f8 false true false false) := by
  refine returnsInHanded_of_change (C := Try.checked) own started (by kernel_rfl) Try.func8
    (ChangeSpec.witness6 (enc := enc) (C := Try.checked) false ⟨#[], #[.int .u8 0, .int .u8 0, .bool false], []⟩ 8 (by kernel_rfl) (by kernel_rfl) (by kernel_rfl) (by kernel_rfl)) ?_
  intro W base args ds gs before hval0 hW _ _
  have hval : ∀ (j : Nat) t v, Try.f8.params[j]? = some t → args[j]? = some v → Value.okWide Try.prog W .any base t v := hval0
  have hW' := hW
  obtain ⟨p, q, hA0, hV, rfl, hfz, hnd⟩ := hW
  have hA : DataW.TrodAll enc Try.prog W 0 (fun _ => true) true Try.f8.params.toList args.toList ds p := hA0
  rw [Try.params8] at hA hval
  obtain ⟨v0, vs0, d0, ds0, p0, q0, hargs, rfl, rfl, h0, r0⟩ := trodAll_cons hA
  obtain ⟨v1, vs1, d1, ds1, p1, q1, rfl, rfl, rfl, h1, r1⟩ := trodAll_cons r0
  obtain ⟨v2, vs2, d2, ds2, p2, q2, rfl, rfl, rfl, h2, r2⟩ := trodAll_cons r1
  obtain ⟨rfl, rfl, rfl⟩ := trodAll_nil r2
  obtain rfl : args = #[v0, v1, v2] := by cases args; simp_all
  obtain ⟨rfl, rfl⟩ := trodVars_none hV
  obtain ⟨a0, rfl, rfl, rfl, w0⟩ := open_int Try.underlying5 (hval 0 5 v0 rfl rfl) h0
  obtain ⟨a1, rfl, rfl, rfl, w1⟩ := open_int Try.underlying5 (hval 1 5 v1 rfl rfl) h1
  obtain ⟨a2, rfl, rfl, rfl⟩ := open_bool Try.underlying4 (hval 2 4 v2 rfl rfl) h2
  clear hA0 hval0
  simp only [List.append_nil] at hW'
  refine (inverts_walk a0 w0 a1 w1 a2 W).mono fun e W' ⟨he, hg⟩ => ?_
  subst he
  exact ⟨_, rfl, law_post hW' rfl rfl Try.underlying4 rfl (fun sp _ => (trodAll_cons_mk (shut_int Try.underlying5 w0) (trodAll_cons_mk (shut_int Try.underlying5 w1) (trodAll_cons_mk (shut_bool Try.underlying4 a2) trodAll_mk0)))) hg⟩

theorem inverts_said : Rows.OpsInvertsSaid :=
  OpenClaim.holds_of_wide 8 Try.f8 rfl rfl rfl rfl rfl rfl rfl ⟨rfl, rfl, rfl, rfl, rfl⟩ rfl rfl rfl rfl rfl (by kernel_rfl) Try.func8 (by kernel_rfl)
    (of_decide_eq_true (by kernel_rfl)) (by unfold Func.isWrapper; first | (rw [if_pos (by decide +kernel)]; kernel_rfl) | (rw [if_neg (by decide +kernel)]; exact ⟨rfl, rfl⟩))
    (fun os started H enc _ => inverts_lifted os started H enc)
#print axioms inverts_said
end Go.Proofs.Ytflegdijmkacdaa
