/- ProgLabels' walk: Labels has the index of the statement with a label. Condition: the tables read as the program's text lays them, memory holds the program. -/
import Derived.Test.YtakblmonbeflmaaGreatDoorL10Opw
import Derived.Test.YtakblmonbeflmaaGreatDoorL10Alv
import Derived.Test.YtakblmonbeflmaaGreatDoorL10Few
import Derived.Test.YtakblmonbeflmaaGreatDoorL10Lb
import Derived.Test.YtakblmonbeflmaaGreatDoorShels
section
namespace Go.Proofs.YtakblmonbeflmaaGreatDoor.L10
open Go.ChangeShapes Go.WideShapes Go.ChangeAt Go.RowKit Go.Deep

/-- The room of each statement's labels holds them. -/
def LabCap (W : World) (s : Value) : Prop := ∀ b o n c, s = .slice (some ⟨b, o, none⟩) n c → ∀ j, j < n → ∀ a m k, W.cell? ⟨b, o + j * 9, none⟩ = some (.slice a m k) → m ≤ k
section
variable {H : Type} {enc : TypeId × Value → H} {W : World} {base : Nat} {sp : Nat → Bool} {held : Bool}
theorem cap_texts {fuel : Nat} {x : DataW H × List MemPlace} {a : Option Addr} {m k : Nat} (h : DataW.trod enc Tryz.prog W base sp held fuel 39 [.slice a m k] = some x) : m ≤ k := by
  rcases open_strings Tryz.underlying39 Tryz.underlying9 cT h with ⟨hcs, -⟩ | ⟨a, len, cap, ss, hcs, -, hl, -⟩
  · simp only [List.cons.injEq, Value.slice.injEq, and_true] at hcs
    omega
  · simp only [List.cons.injEq, Value.slice.injEq, and_true] at hcs
    omega
set_option maxRecDepth 100000 in
theorem cap_stm {fuel : Nat} {cs : List Value} {x : DataW H × List MemPlace} (h : DataW.trod enc Tryz.prog W base sp held fuel 41 cs = some x) (a : Option Addr) (m k : Nat) (hc : cs[0]? = some (.slice a m k)) : m ≤ k := by
  obtain ⟨xs, n, _, hx, hcl, hlen, hg⟩ := DataW.trod_struct Tryz.underlying41 h
  rw [cS] at hcl
  match cs, hcl, xs, hlen with
  | [c0, c1, c2, c3, c4, c5, c6, c7, c8], _, [y0, y1, y2, y3], _ =>
    have g0 : DataW.trod enc Tryz.prog W base sp held n 39 [c0] = some y0 := by simpa [cTs] using hg 0 _ rfl
    simp only [List.getElem?_cons_zero, Option.some.injEq] at hc
    subst hc
    exact cap_texts g0
theorem cap_stms {fuel : Nat} {v : Value} {x : DataW H × List MemPlace} (h : DataW.trod enc Tryz.prog W base sp held fuel 23 [v] = some x) : LabCap W v := by
  intro b o n0 c hv j hj a m k hcell
  subst hv
  rcases open_slice Tryz.underlying23 h with ⟨hcs, -⟩ | ⟨a', len, cap, mm, n, D, Pl, hcs, -, hl, -, hmm, hx, hi⟩
  · simp at hcs
  · simp only [List.cons.injEq, Value.slice.injEq, Option.some.injEq, and_true] at hcs
    obtain ⟨rfl, rfl, rfl⟩ := hcs
    rw [cS] at hi
    obtain ⟨cs', hc, ht⟩ := hi j (by split at hmm <;> omega)
    obtain ⟨_, hcl, hat⟩ := World.cells?_some hc
    have h0 := hat 0 (by omega)
    rw [Go.Deep.add_add, Nat.add_zero, add_plain, hcell] at h0
    exact cap_stm ht a m k h0.symm
set_option maxRecDepth 100000 in
/-- A program by value. -/
theorem cap_pg {m s : Value} {d : DataW H} {ps : List MemPlace} (hd : DataW.Trod enc Tryz.prog W base sp held 25 (.agg #[m, s]) d ps) : LabCap W s := by
  obtain ⟨fuel, hf⟩ := hd
  obtain ⟨xs, n, _, hx, _, hlen, hg⟩ := DataW.trod_struct Tryz.underlying25 hf
  match xs, hlen with
  | [y0, y1], _ =>
    have g1 : DataW.trod enc Tryz.prog W base sp held n 23 [s] = some y1 := by simpa [Value.cells, cSs] using hg 1 _ rfl
    exact cap_stms g1
end
end Go.Proofs.YtakblmonbeflmaaGreatDoor.L10
end
namespace Go.Proofs.YtakblmonbeflmaaGreatDoor.L10
open Go.RowKit Go.Maps
attribute [local go_sem] Oper.semAt_some

theorem clI_len (l : List Stm) (k : Nat) (labs : List ByteArray) : ∀ j, (clI l k labs j).length ≤ j
  | 0 => by simp [clI]
  | j + 1 => by
    have := clI_len l k labs j
    rw [clI, List.length_append]
    split
    · split <;> simp <;> omega
    · simp; omega
theorem clO_len (l : List Stm) (h : ∀ s ∈ l, s.labs.length ≤ 100000) : ∀ k, (clO l k).length ≤ k * 100000
  | 0 => by simp [clO]
  | k + 1 => by
    have h1 := clO_len l h k
    have h2 := clI_len l k (labsAt l k) (labsAt l k).length
    have h3 : (labsAt l k).length ≤ 100000 := by
      by_cases hk : k < l.length
      · rw [labsAt_get l k hk]; exact h _ (List.getElem_mem hk)
      · rw [labsAt, List.getElem?_eq_none (by omega)]; simp
    rw [clO, List.length_append]
    omega
theorem clI_step (l : List Stm) (k : Nat) (labs : List ByteArray) (j : Nat) (h : j < labs.length) : (clI l k labs (j + 1)).length = (clI l k labs j).length + (if ctB l k labs j labs[j] then 1 else 0) := by
  rw [clI, List.getElem?_eq_getElem h, List.length_append]
  simp only
  split <;> rfl
theorem keepL {w W W' : World} {g n k : Nat} {L : List (ByteArray × Nat)} {cs : Array Value} {t : TypeId} (h : Below w.heap.size w W ∧ MapAt W g n L ∧ W.heap[k]? = some (.cells cs t)) (hb : Below W.heap.size W W') :
    Below w.heap.size w W' ∧ MapAt W' g n L ∧ W'.heap[k]? = some (.cells cs t) := ⟨L2.bch h.1 hb, h.2.1.below hb, L8.row_up h.2.2 hb⟩
theorem contains_on (l : List ByteArray) (x : ByteArray) : Lib.containsS l x = L2.on l x := by
  rw [Bool.eq_iff_iff, Lib.containsS_iff, L2.on_mem]
theorem txroom_le {l : List ByteArray} (h : TxRoom l) : ∀ t ∈ l, t.size ≤ maxLen := fun t ht => Nat.le_trans (h.2 t ht) (by decide)
set_option maxHeartbeats 8000000 in
set_option maxRecDepth 100000 in
theorem labels_walk (vm vs : Value) (p : Pg) (x : ByteArray) (w : World) (hT : L1.Wid w ∧ L2.Regs w) (h3 : 3 ≤ w.heap.size) (hp : PgAt w vm vs p) (hr : ∀ s ∈ p.stmts, TxRoom s.labs) (hxs : x.size ≤ maxLen) (hcap : LabCap w vs) :
    Calls Tryz.prog 6 #[.agg #[vm, vs], .string x] w fun e w' => e = .returned (.bool true) ∧ Below w.heap.size w w' := by
  obtain ⟨f1, hf1, F1⟩ := few_ex vm vs p w hp hr
  have tb : ∀ W, Below w.heap.size w W → L1.Wid W ∧ L2.Regs W := fun W hb => ⟨L4.wid_below hT.1 hb, hT.2.below hb⟩
  have HA := Lib.hid (fun W hb => alive10 W (tb W hb) (Nat.le_trans h3 hb.size))
  have HP := Lib.hid hp
  have HR := Lib.hid hr
  have HXS := Lib.hid hxs
  obtain ⟨n1, hn1⟩ : ∃ n, p.maps.length = n := ⟨_, rfl⟩
  obtain ⟨n2, hn2⟩ : ∃ n, p.stmts.length = n := ⟨_, rfl⟩
  obtain ⟨a1, c1, rfl, -⟩ := df_form hn1 hp.1
  obtain ⟨a2, c2, rfl, hc⟩ := sm_form hn2 hp.2
  have HC := Lib.hid hc
  have HN := Lib.hid hn2
  have HCP := Lib.hid hcap
  have HB := Lib.hid (L8.bnew w (.cells #[.slice a1 n1 c1, .slice a2 n2 c2] 25))
  have K0 := Lib.hid (heap_alloc_last w (.cells #[.slice a1 n1 c1, .slice a2 n2 c2] 25))
  have HF1 := Lib.hid F1
  have HM := Lib.hid hf1
  clear tb hT F1 hp hr hn1 hn2 hc hf1 hxs hcap
  cases f1
  · go_enter Tryz.func6, Tryz.ntmps6
    go_wp2_with (first | (go_at_call 8; ((with_reducible refine (HF1.out _ HB.out).mono ?_); rintro e w1 ⟨rfl, b1⟩)) | (go_at_call 9; ((with_reducible refine (HA.out _ (L2.bch HB.out b1)).mono ?_); rintro e w2 ⟨rfl, b2⟩)))
    go_ret
    exact ⟨rfl, L2.bch (L2.bch HB.out b1) b2⟩
  · have hs := sml_few (HM.out rfl)
    have hm2 := (HM.out rfl).2.1
    rw [HN.out] at hm2
    have HL := Lib.hid (fun W (hb : Below w.heap.size w W) (y : ByteArray) => rlabel_at (.slice a1 n1 c1) (.slice a2 n2 c2) p y W (HP.out.below hb) hs)
    have HG := Lib.hid (fun W (hb : Below w.heap.size w W) => labels_at (.slice a1 n1 c1) (.slice a2 n2 c2) p W (HP.out.below hb) hs (fun s h => txroom_le (HR.out s h)))
    have HSM := Lib.hid hs
    have hkey := key_of HXS.out
    obtain ⟨r, hr⟩ : ∃ r, lbK p.stmts x p.stmts.length = r := ⟨_, rfl⟩
    have hMa := Mp_at p.stmts x p.stmts.length (Nat.le_refl _)
    rw [List.take_length, hr] at hMa
    have HV := Lib.hid hMa
    have HSZ := Lib.hid (size_cl p.stmts)
    have HRR := Lib.hid hr
    clear hs hr hMa
    go_enter Tryz.func6, Tryz.ntmps6
    go_upto_region 3 with (first | (go_at_call 8; ((with_reducible refine (HF1.out _ HB.out).mono ?_); rintro e w1 ⟨rfl, b1⟩)))
    obtain ⟨x0, x1⟩ := cells2p (L8.row_up K0.out b1)
    go_upto_region 4 with (first | (go_at_call 15; ((with_reducible refine (HG.out _ (L2.bch HB.out b1)).mono ?_); rintro e w2 ⟨g, n, rfl, hown, b2⟩)))
    have HLX := Lib.hid (fun W hb => HRR.out ▸ HL.out W hb x)
    have B2 := Lib.hid (L2.bch (L2.bch HB.out b1) b2)
    have K2 := Lib.hid (L8.row_up (L8.row_up K0.out b1) b2)
    clear x0 x1
    obtain ⟨x0, x1⟩ := cells2p K2.out
    have HO := Lib.hid hown
    go_upto_region 5 with (first | (at_lookup; refine wpList_lookup_own_ok_int _ rfl _ _ 42 rfl 9 3 .i64 L2.law9 Tryz.underlying42 Tryz.underlying3 (zeroI _) g n _ rfl hown _ _ rfl hkey ?_; intro c hat _; rw [HV.out.1]))
    have HAT := Lib.hid (fun h => (HV.out.2 h _).symm.trans hat)
    clear hat hown hkey
    go_upto_region 6 with (first | (go_at_call 16; ((with_reducible refine (HLX.out _ B2.out).mono ?_); rintro e w3 ⟨rfl, b3⟩)))
    have B3 := Lib.hid (L2.bch B2.out b3)
    have K3 := Lib.hid (L8.row_up K2.out b3)
    have hI := Lib.hid (show Below w.heap.size w w3 ∧ MapAt w3 g n (prs 0 p.stmts) ∧ w3.heap[w.heap.size]? = some (.cells #[.slice a1 n1 c1, .slice a2 n2 c2] 25) from ⟨B3.out, HO.out.below b3, K3.out⟩)
    clear x0 x1
    obtain ⟨x0, x1⟩ := cells2p K3.out
    clear HO B2 K2 b1 b2 b3 K3 B3 HLX
    go_wp2
    go_loopw [9, 10, 11, 12, 31] (fun nv _ _ _ i wr => ∃ k : Nat, k ≤ n2 ∧ i = .int .i64 (k : Int) ∧ nv = .int .i64 ((clO p.stmts k).length : Int) ∧ Hid (Below w.heap.size w wr ∧ MapAt wr g n (prs 0 p.stmts) ∧ wr.heap[w.heap.size]? = some (.cells #[.slice a1 n1 c1, .slice a2 n2 c2] 25))) (fun _ _ _ _ i _ => n2 - (intOf i).toNat)
    case atStart => exact ⟨0, Nat.zero_le _, rfl, rfl, hI⟩
    case round =>
      obtain ⟨k, hk, rfl, rfl, hI⟩ := hrel
      clear x0 x1
      obtain ⟨x0, x1⟩ := cells2p hI.out.2.2
      have hlt1 := World.block_lt_of_cell? _ _ x1
      simp only at hlt1
      by_cases hlt : k < n2
      · have hkl : k < p.stmts.length := by rw [HN.out]; exact hlt
        obtain ⟨b, o, rfl, hbl, hc⟩ := HC.out (by omega)
        obtain ⟨lv, hst, hx⟩ := hc k hkl
        have hX0 := hx 0 _ rfl
        rw [Nat.add_zero] at hX0
        have HX0 := Lib.hid hX0
        have y0 := (hI.out.1.cell (by exact hbl)).trans hX0
        have hw1 := World.block_lt_of_cell? _ _ y0
        simp only at hw1
        have hll := HSM.out.labs _ (List.getElem_mem hkl)
        have hOl := clO_len p.stmts HSM.out.labs k
        have HLA0 := Lib.hid (labsAt_get p.stmts k hkl)
        obtain ⟨s, hs⟩ : ∃ s, p.stmts[k] = s := ⟨_, rfl⟩
        rw [hs] at hst hll HLA0
        obtain ⟨ln, hln⟩ : ∃ ln, s.labs.length = ln := ⟨_, rfl⟩
        obtain ⟨la, lc, rfl, hla⟩ := st_form hln hst
        rw [hln] at hll
        have HLA := Lib.hid hla
        have hlc : ln ≤ lc := HCP.out b o n2 c2 rfl k hlt _ _ _ HX0.out
        have HLN := Lib.hid hln
        have HIL := Lib.hid (clI_len p.stmts k s.labs)
        obtain ⟨M, hM⟩ : ∃ M, (clO p.stmts k).length = M := ⟨_, rfl⟩
        rw [hM] at hOl ⊢
        have HMM := Lib.hid hM
        have HJ : Hid (((M : Int) = ((M + (clI p.stmts k s.labs 0).length : Nat) : Int))) := Lib.hid (by simp [clI])
        clear hx hX0 hc hst hs hla hln hM
        go_wp2
        go_loopw [9, 11, 12, 41] (fun nv _ _ i wr => ∃ j : Nat, j ≤ ln ∧ i = .int .i64 (j : Int) ∧ nv = .int .i64 ((M + (clI p.stmts k s.labs j).length : Nat) : Int) ∧ Hid (Below w.heap.size w wr ∧ MapAt wr g n (prs 0 p.stmts) ∧ wr.heap[w.heap.size]? = some (.cells #[.slice a1 n1 c1, .slice (some ⟨b, o, none⟩) n2 c2] 25))) (fun _ _ _ i _ => ln - (intOf i).toNat)
        case atStart => exact ⟨0, Nat.zero_le _, rfl, by rw [HJ.out], hI⟩
        case round =>
          obtain ⟨j, hj, rfl, rfl, hI2⟩ := hrel
          clear HJ x0 x1 hlt1 y0 hw1 hI
          obtain ⟨x0, x1⟩ := cells2p hI2.out.2.2
          have hlt1 := World.block_lt_of_cell? _ _ x1
          simp only at hlt1
          have y0 := (hI2.out.1.cell (by exact hbl)).trans HX0.out
          have hw1 := World.block_lt_of_cell? _ _ y0
          simp only at hw1
          have hil := HIL.out j
          by_cases hjn : j < ln
          · have hjl : j < s.labs.length := by rw [HLN.out]; exact hjn
            obtain ⟨bb, oo, rfl, hbb, hcc⟩ := HLA.out (by omega)
            have z0 := (hI2.out.1.cell (by exact hbb)).trans (hcc j hjl)
            have hw2 := World.block_lt_of_cell? _ _ z0
            simp only at hw2
            have hst := clI_step p.stmts k s.labs j hjl
            rw [ctB] at hst
            have hcn := fun (W : World) (hb : Below w.heap.size w W) => Tryz.slices_Contains_string bb oo j lc s.labs s.labs[j] W (by omega) (by omega) (fun i hi => by rw [List.getD, List.getElem?_eq_getElem hi]; exact (hb.cell (by exact hbb)).trans (hcc i hi))
            have hlb := fun W (hb : Below w.heap.size w W) => HL.out W hb s.labs[j]
            obtain ⟨y, hy⟩ : ∃ y, s.labs[j] = y := ⟨_, rfl⟩
            rw [hy] at z0 hst hcn hlb
            obtain ⟨v, hv⟩ : ∃ v, lbK p.stmts y p.stmts.length = v := ⟨_, rfl⟩
            obtain ⟨cb, hcb⟩ : ∃ cb, L2.on (s.labs.take j) y = cb := ⟨_, rfl⟩
            simp only [contains_on, hcb] at hcn
            simp only [hv] at hlb
            rw [hv, hcb] at hst
            obtain ⟨q, hq⟩ : ∃ q, (clI p.stmts k s.labs j).length = q := ⟨_, rfl⟩
            rw [hq] at hst hil ⊢
            have HST := Lib.hid hst
            have HCN := Lib.hid hcn
            have HLB := Lib.hid hlb
            have hjc : j ≤ lc := by omega
            have hjL : j < 9223372036854775808 := by omega
            clear hcc hy hv hcb hq hst hcn hlb
            by_cases he : v = (k : Int)
            · subst he
              cases cb
              · go_wp2_with (first
                  | (go_at_call 16; ((with_reducible refine (HLB.out _ hI2.out.1).mono ?_); rintro e w4 ⟨rfl, b4⟩; have hI3 := Lib.hid (keepL hI2.out b4); have u1 := (cells2p hI3.out.2.2).2; have v0 := (hI3.out.1.cell (by exact hbl)).trans HX0.out; have hv1 := World.block_lt_of_cell? _ _ u1; have hv2 := World.block_lt_of_cell? _ _ v0; simp only at hv1 hv2))
                  | (go_at_call 17; ((with_reducible refine (HCN.out _ hI3.out.1).mono ?_); rintro e w5 ⟨rfl, rfl⟩)))
                go_roundw
                case rel => exact ⟨j + 1, by omega, by go_num, by rw [HST.out]; simp; omega, hI3⟩
                case measure => simp [intOf]; omega
              · go_wp2_with (first
                  | (go_at_call 16; ((with_reducible refine (HLB.out _ hI2.out.1).mono ?_); rintro e w4 ⟨rfl, b4⟩; have hI3 := Lib.hid (keepL hI2.out b4); have u1 := (cells2p hI3.out.2.2).2; have v0 := (hI3.out.1.cell (by exact hbl)).trans HX0.out; have hv1 := World.block_lt_of_cell? _ _ u1; have hv2 := World.block_lt_of_cell? _ _ v0; simp only at hv1 hv2))
                  | (go_at_call 17; ((with_reducible refine (HCN.out _ hI3.out.1).mono ?_); rintro e w5 ⟨rfl, rfl⟩)))
                go_roundw
                case rel => exact ⟨j + 1, by omega, by go_num, by rw [HST.out]; simp, hI3⟩
                case measure => simp [intOf]; omega
            · have HE := Lib.hid he
              go_wp2_with (first
                  | (go_at_call 16; ((with_reducible refine (HLB.out _ hI2.out.1).mono ?_); rintro e w4 ⟨rfl, b4⟩; have hI3 := Lib.hid (keepL hI2.out b4); have u1 := (cells2p hI3.out.2.2).2; have v0 := (hI3.out.1.cell (by exact hbl)).trans HX0.out; have hv1 := World.block_lt_of_cell? _ _ u1; have hv2 := World.block_lt_of_cell? _ _ v0; simp only at hv1 hv2)))
              go_roundw
              case rel => exact ⟨j + 1, by omega, by go_num, by rw [HST.out]; simp [HE.out], hI3⟩
              case measure => simp [intOf]; omega
          · obtain rfl : j = ln := by omega
            have HNX : Hid ((clO p.stmts (k + 1)).length = M + (clI p.stmts k s.labs j).length) := Lib.hid (by rw [clO, List.length_append, HMM.out, HLA0.out, HLN.out])
            go_wp2
            go_roundw
            case rel => exact ⟨k + 1, by omega, by go_num, by rw [HNX.out], hI2⟩
            case measure => simp [intOf]; omega
      · obtain rfl : k = n2 := by omega
        have HS2 : Hid (size (Mp (prs 0 p.stmts)) = (clO p.stmts k).length) := Lib.hid (by rw [HSZ.out, HN.out])
        have hOl := clO_len p.stmts HSM.out.labs k
        obtain ⟨M, hM⟩ : ∃ M, (clO p.stmts k).length = M := ⟨_, rfl⟩
        rw [hM] at hOl HS2 ⊢
        clear hM x0 x1 hlt1
        by_cases h0 : 0 ≤ r
        · obtain rfl : r = c := by have h := HAT.out h0; cases h; rfl
          have hd : decide (0 ≤ r) = true := by simpa using h0
          rw [hd]
          clear hd
          go_wp2_with (first
            | (go_at_call 9; ((with_reducible refine (HA.out _ hI.out.1).mono ?_); rintro e w4 ⟨rfl, b4⟩; have hI3 := Lib.hid (keepL hI.out b4); have hlen := hI3.out.2.1.len Tryz.underlying42 ; rw [HS2.out] at hlen))
            | go_in)
          go_ret
          exact ⟨rfl, hI3.out.1⟩
        · have hd : decide (0 ≤ r) = false := by simpa using h0
          rw [hd]
          go_wp2_with (first
            | (go_at_call 9; ((with_reducible refine (HA.out _ hI.out.1).mono ?_); rintro e w4 ⟨rfl, b4⟩; have hI3 := Lib.hid (keepL hI.out b4); have hlen := hI3.out.2.1.len Tryz.underlying42 ; rw [HS2.out] at hlen))
            | go_in)
          go_ret
          exact ⟨rfl, hI3.out.1⟩
end Go.Proofs.YtakblmonbeflmaaGreatDoor.L10
