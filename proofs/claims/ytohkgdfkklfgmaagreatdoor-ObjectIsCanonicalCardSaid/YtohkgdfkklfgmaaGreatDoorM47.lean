/- Lemmas and walks of L15Se, L15Rd, L15Rg, L15Rr: what each theorem states; conditions stand in each theorem. -/
import Derived.Test.YtohkgdfkklfgmaaGreatDoorM46
import Derived.Laws.EntriesVeiled
import Derived.Deep.QuietTactic
import Derived.BigQuiet
section
set_option maxRecDepth 100000
set_option maxHeartbeats 4000000
namespace Go.Proofs.YtohkgdfkklfgmaaGreatDoor.L15
set_option maxRecDepth 100000
open Go.RowKit Go.Shelf L14
attribute [local go_sem] Oper.semAt_some
def cutV (a:Option Addr) (c i m:Nat):Value:=.slice (if c=i then a else a.map (·.add i)) m (c-i)
theorem cut_rw {w:World} {a:Option Addr} {n c:Nat} {b:List UInt8} (h:Rw eB w (.slice a n c) b) (i m:Nat) (hi:i+m≤n):Rw eB w (cutV a c i m) (sub b i m):=(h.drop i (by omega)).take m (by omega)
theorem cut_form (a:Option Addr) (c i m:Nat):∃ a' c',cutV a c i m=.slice a' m c':=⟨_,_,rfl⟩
theorem part_yes (B i m:Nat) (a:Option Addr) (n c:Nat) (w:World) (hB:w.cell? ⟨B,0,none⟩=some (.slice a n c)) (hn:n≤c) (hi:i+m≤n) (hb:n≤1000000) (I M:Int) (hI:I=(i:Int)) (hM:M=(m:Int)) :
  Calls Tryz.prog 73 #[.int .i64 I,.int .i64 M,.pointer (some ⟨B,0,none⟩)] w fun e w'=>e=.returned (.tuple #[cutV a c i m,.bool true])∧w=w':=by
 subst hI hM
 have hs:=fun W=>run_part und8 size8 a n c i (i+m) (by omega) hi hn W
 rw [show i+m-i=m by omega] at hs
 have e1:((i+m:Nat):Int)=(i:Int)+(m:Int):=by omega
 rw [e1] at hs
 unfold cutV
 generalize (if c=i then a else a.map (·.add i))=a2 at hs ⊢
 generalize c-i=c2 at hs ⊢
 have h1:¬ (n:Int)<(i:Int)+(m:Int):=by omega
 go_enter Tryz.func73,Tryz.ntmps73
 go_wp2
 refine bodyPost_ret (v:=.tuple #[.slice a2 m c2,.bool true]) (by simp [results,Tryz.results73,go_sem]) rfl ⟨rfl,rfl⟩
theorem part_no (B i m:Nat) (a:Option Addr) (n c:Nat) (w:World) (hB:w.cell? ⟨B,0,none⟩=some (.slice a n c)) (hi:n<i+m) (_:i≤1000000000000) (_:m≤1000000000000) (I M:Int) (hI:I=(i:Int)) (hM:M=(m:Int)) :
  Calls Tryz.prog 73 #[.int .i64 I,.int .i64 M,.pointer (some ⟨B,0,none⟩)] w fun e w'=>e=.returned (.tuple #[.slice none 0 0,.bool false])∧w=w':=by
 subst hI hM
 have h1:(n:Int)<(i:Int)+(m:Int):=by omega
 go_enter Tryz.func73,Tryz.ntmps73
 go_wp2
 refine bodyPost_ret (v:=.tuple #[.slice none 0 0,.bool false]) (by simp [results,Tryz.results73,go_sem]) rfl ⟨rfl,rfl⟩
def rdB (b:List UInt8):Prop:=16≤b.length∧∀ i,i<nS b→okR b i
def SeP (b:List UInt8) (w:World) (e:Ending) (w':World):Prop :=
 ((¬ rdB b∧e=.returned (.tuple #[.slice none 0 0,.bool false]))∨(rdB b∧∃ a c ps,e=.returned (.tuple #[.slice a (nS b) c,.bool true])∧w'.ownsRow w.heap.size 47 2 (.slice a (nS b) c) (nS b) (fl ps)∧Fits w ps (rdT b (nS b))))∧Below w.heap.size w w'
theorem sections_at (a:Option Addr) (n c:Nat) (b:List UInt8) (w:World) (hv:Rw eB w (.slice a n c) b) (hb:n≤1000000) :
  Calls Tryz.prog 40 #[.slice a n c] w (SeP b w):=by
 obtain⟨hn,hc,-,-⟩:=hv.at
 have hmf:(Instr.makeFunc (.func 73) #[] #[.pointer (some ⟨w.heap.size,0,none⟩)]).run Tryz.prog (w.alloc (.cells #[.slice a n c] 23))=.ok (.func (.func 73) #[] #[.pointer (some ⟨w.heap.size,0,none⟩)]) (w.alloc (.cells #[.slice a n c] 23)):=by rfl
 have hbx:(w.alloc (.cells #[.slice a n c] 23)).cell? ⟨w.heap.size,0,none⟩=some (.slice a n c):=cell_new w _ _
 have bn:=bnew w (.cells #[.slice a n c] 23)
 by_cases h16:16≤n
 ·obtain⟨i0,hi,hz0,hz1,hz2⟩:=info_parts infoSb
  have HP:=Lib.hid (part_yes w.heap.size 0 16 a n c _ hbx hc (by omega) hb 0 16 rfl rfl)
  have hh:=cut_rw hv 0 16 (by omega)
  obtain⟨ha,hc',he⟩:=cut_form a c 0 16
  rw [he] at HP hh
  have hhs:=fun W=>run_part und8 size8 ha 16 hc' 6 8 (by omega) (by omega) hh.at.2.1 W
  have hhg:=cut_rw hh 6 2 (by omega)
  rw [sub_sub b 0 16 6 2 (by omega)] at hhg
  obtain⟨k,hk⟩:∃ k,nS b=k:=⟨_,rfl⟩
  have HG:=Lib.hid (get2_at (cutV ha hc' 6 2) _ k _ (hhg.below bn) (sub_len _ _ _ (by omega)) hk)
  have hkb:k<65536:=by
   rw [← hk]
   have:=va_lt (sub b 6 2)
   rw [sub_len _ _ _ (by omega)] at this
   exact this
  have hhs':∀ W,(Instr.slice 23 (.slice ha 16 hc') (some (.int .i64 6)) (some (.int .i64 8)) none).run Tryz.prog W=.ok (cutV ha hc' 6 2) W:=hhs
  have HV:=Lib.hid hv
  have HN:=Lib.hid hn
  have HK:=Lib.hid hk
  have HBn:=Lib.hid bn
  have HX:=Lib.hid (show Boxed (w.alloc (.cells #[.slice a n c] 23)) w.heap.size 23 (.slice a n c) from Boxed.new w _ _)
  unfold SeP
  rw [hk]
  clear hv hn hh he hhs hhg hk bn hbx
  go_enter Tryz.func40,Tryz.ntmps40
  go_wp2_with (first
   | (go_at_call 73;((with_reducible refine (HP.out).mono ?_);rintro e w1 ⟨rfl,rfl⟩))
   | (go_at_call 74;((with_reducible refine (HG.out).mono ?_);rintro e w1 ⟨rfl,rfl⟩)))
  clear hhs' HP HG
  go_loopw [7,8,9,10,11,23] (fun lv _ _ _ _ q wr=>∃ (i:Nat) (ps:List (Int × Value)),i≤k∧q=.int .i64 (i:Int)∧Below w.heap.size w wr∧wr.ownsRow w.heap.size 47 2 lv i (fl ps)∧Boxed wr w.heap.size 23 (.slice a n c)∧Hid (Fits w ps (rdT b i)∧∀ j,j<i→okR b j)) (fun _ _ _ _ _ q _=>k-(intOf q).toNat)
  case atStart=>exact⟨0,[],Nat.zero_le _,rfl,HBn.out,World.ownsRow_nil _ _ _ _,HX.out,Lib.hid ⟨Fits.nil w,fun j h=>absurd h (by omega)⟩⟩
  case round =>
   clear HX HBn
   obtain⟨i,ps,hi',rfl,hB,hown,hbx,hI⟩:=hrel
   obtain⟨oa,oc,rfl⟩:=owns_slice hown
   have hcb:=hbx.cell
   have hlb:w.heap.size<wr.heap.size:=hbx.lt
   by_cases hlt:i<k
   ·obtain⟨R,hR⟩:∃ R,16+12*i=R:=⟨_,rfl⟩
    have RS:=Lib.hid (fun W=>rowS_at i (R:Int) W (by omega) (by rw [hR]))
    have hRb:R≤1000000:=by omega
    by_cases hA:n<R+12
    ·have HNO:=Lib.hid (show ¬ rdB b from fun h=>by
      have h1:=(h.2 i (by rw [HK.out];exact hlt)).1
      have h2:=HN.out
      omega)
     have HP:=Lib.hid (part_no w.heap.size R 12 a n c wr hcb hA (by omega) (by omega) (R:Int) 12 rfl rfl)
     clear hI hown hR
     go_wp2_with (first
      | (go_at_call 75;((with_reducible refine (RS.out _).mono ?_);rintro e w2 ⟨rfl,rfl⟩))
      | (go_at_call 73;((with_reducible refine (HP.out).mono ?_);rintro e w3 ⟨rfl,rfl⟩)))
     refine bodyPost_ret (v:=.tuple #[.slice none 0 0,.bool false]) (by simp [results,Tryz.results40,go_sem]) rfl ⟨.inl ⟨HNO.out,rfl⟩,hB⟩
    ·have hn2:=HN.out
     have hrw:=cut_rw HV.out R 12 (by omega)
     have HP:=Lib.hid (part_yes w.heap.size R 12 a n c wr hcb hc (by omega) hb (R:Int) 12 rfl rfl)
     obtain⟨ra,rc,he⟩:=cut_form a c R 12
     rw [he] at HP hrw
     have hcl:=hrw.at.2.1
     have hsK:∀ W,(Instr.slice 23 (.slice ra 12 rc) (some (.int .i64 0)) (some (.int .i64 4)) none).run Tryz.prog W=.ok (cutV ra rc 0 4) W:=fun W=>run_part und8 size8 ra 12 rc 0 4 (by omega) (by omega) hcl W
     have hsA:∀ W,(Instr.slice 23 (.slice ra 12 rc) (some (.int .i64 4)) (some (.int .i64 8)) none).run Tryz.prog W=.ok (cutV ra rc 4 4) W:=fun W=>run_part und8 size8 ra 12 rc 4 8 (by omega) (by omega) hcl W
     have hsL:∀ W,(Instr.slice 23 (.slice ra 12 rc) (some (.int .i64 8)) (some (.int .i64 12)) none).run Tryz.prog W=.ok (cutV ra rc 8 4) W:=fun W=>run_part und8 size8 ra 12 rc 8 12 (by omega) (by omega) hcl W
     have r0:=cut_rw hrw 0 4 (by omega)
     have r4:=cut_rw hrw 4 4 (by omega)
     have r8:=cut_rw hrw 8 4 (by omega)
     rw [sub_sub b R 12 0 4 (by omega)] at r0
     rw [sub_sub b R 12 4 4 (by omega)] at r4
     rw [sub_sub b R 12 8 4 (by omega)] at r8
     obtain⟨K,hK⟩:∃ K,kiN b i=K:=⟨_,rfl⟩
     obtain⟨A,hA'⟩:∃ A,atN b i=A:=⟨_,rfl⟩
     obtain⟨L,hL⟩:∃ L,lnN b i=L:=⟨_,rfl⟩
     have G0:=Lib.hid (fun W (h:Below w.heap.size w W)=>get4_at (cutV ra rc 0 4) _ K W (r0.below h) (sub_len _ _ _ (by omega)) (by rw [← hK,kiN,hR,Nat.add_zero]))
     have G4:=Lib.hid (fun W (h:Below w.heap.size w W)=>get4_at (cutV ra rc 4 4) _ A W (r4.below h) (sub_len _ _ _ (by omega)) (by rw [← hA',atN,show 20+12*i=R+4 by omega]))
     have G8:=Lib.hid (fun W (h:Below w.heap.size w W)=>get4_at (cutV ra rc 8 4) _ L W (r8.below h) (sub_len _ _ _ (by omega)) (by rw [← hL,lnN,show 24+12*i=R+8 by omega]))
     obtain⟨v0,hv0⟩:∃ v,cutV ra rc 0 4=v:=⟨_,rfl⟩
     obtain⟨v4,hv4⟩:∃ v,cutV ra rc 4 4=v:=⟨_,rfl⟩
     obtain⟨v8,hv8⟩:∃ v,cutV ra rc 8 4=v:=⟨_,rfl⟩
     rw [hv0] at G0
     rw [hv4] at G4
     rw [hv8] at G8
     simp only [hv0] at hsK
     simp only [hv4] at hsA
     simp only [hv8] at hsL
     clear hv0 hv4 hv8
     have b4:∀ j,j+4≤n→va (sub b j 4)<4294967296:=fun j hj=>by
      have:=va_lt (sub b j 4)
      rw [sub_len _ _ _ (by omega)] at this
      exact this
     have hAb:A<4294967296:=by rw [← hA'];exact b4 _ (by omega)
     have hLb:L<4294967296:=by rw [← hL];exact b4 _ (by omega)
     have hKb:K<4294967296:=by rw [← hK];exact b4 _ (by omega)
     have HBB:=Lib.hid hB
     by_cases hC:n<A+L
     ·have HNO:=Lib.hid (show ¬ rdB b from fun h=>by
       have h1:=(h.2 i (by rw [HK.out];exact hlt)).2
       have h2:=HN.out
       omega)
      have PN:=Lib.hid (fun W (h:W.cell? ⟨w.heap.size,0,none⟩=some (.slice a n c))=>part_no w.heap.size A L a n c W h hC (by omega) (by omega) (A:Int) (L:Int) rfl rfl)
      clear hI hown hR hrw hcl r0 r4 r8 he hn2 hK hA' hL b4 hsK G0
      go_wp2_with (first
       | (go_at_call 75;((with_reducible refine (RS.out _).mono ?_);rintro e w2 ⟨rfl,rfl⟩))
       | (go_at_call 73;((with_reducible refine (HP.out).mono ?_);rintro e w3 ⟨rfl,rfl⟩)))
      go_quiet ((first|(go_at_call 74;first|(with_reducible refine Calls.quiet_of_same ((G4.out _ ?_).mono fun e w' h=>⟨h.1,h.2.symm⟩);exact bdN HBB.out _)|(with_reducible refine Calls.quiet_of_same ((G8.out _ ?_).mono fun e w' h=>⟨h.1,h.2.symm⟩);exact bdN HBB.out _))|(go_at_call 73;exact Calls.quiet_of_same ((PN.out _ (by exact hcb)).mono fun e w' h=>⟨h.1,h.2.symm⟩))))
      go_wp2
      refine bodyPost_ret (v:=.tuple #[.slice none 0 0,.bool false]) (by simp [results,Tryz.results40,go_sem]) rfl ⟨.inl ⟨HNO.out,rfl⟩,bdN hB _⟩
     ·have PY:=Lib.hid (fun W (h:W.cell? ⟨w.heap.size,0,none⟩=some (.slice a n c))=>part_yes w.heap.size A L a n c W h hc (by omega) hb (A:Int) (L:Int) rfl rfl)
      obtain⟨da,dc,hde⟩:=cut_form a c A L
      have hdr:=cut_rw HV.out A L (by omega)
      rw [hde] at hdr PY
      have hfx:=hI.out
      have hrd:rdT b (i+1)=rdT b i++[((K:Int),sub b A L)]:=by rw [rdT_snoc,rd1,hK,hA',hL]
      have hf2:=hfx.1.snoc (k:=(K:Int)) (v:=.slice da L dc) (s:=((K:Int),sub b A L)) rfl hdr
      rw [← hrd] at hf2
      have HF:=Lib.hid (show Fits w (ps++[((K:Int),.slice da L dc)]) (rdT b (i+1))∧∀ j,j<i+1→okR b j from ⟨hf2,fun j hj=>by
       rcases Nat.lt_succ_iff_lt_or_eq.1 hj with h|rfl
       ·exact hfx.2 j h
       ·exact⟨by omega,by rw [hA',hL];omega⟩⟩)
      clear hI hR hrw hcl r0 r4 r8 he hn2 hK hA' hL b4 hde hdr hfx hrd hf2
      go_wp2_with (first
       | (go_at_call 75;((with_reducible refine (RS.out _).mono ?_);rintro e w2 ⟨rfl,rfl⟩))
       | (go_at_call 73;((with_reducible refine (HP.out).mono ?_);rintro e w3 ⟨rfl,rfl⟩)))
      go_quiet ((first|(go_at_call 74;first|(with_reducible refine Calls.quiet_of_same ((G4.out _ ?_).mono fun e w' h=>⟨h.1,h.2.symm⟩);exact bdN HBB.out _)|(with_reducible refine Calls.quiet_of_same ((G8.out _ ?_).mono fun e w' h=>⟨h.1,h.2.symm⟩);exact bdN HBB.out _))|(go_at_call 73;exact Calls.quiet_of_same ((PY.out _ (by exact hcb)).mono fun e w' h=>⟨h.1,h.2.symm⟩))))
      have hown1:(wr.drewN nq).ownsRow w.heap.size 47 2 (.slice oa i oc) i (fl ps):=hown
      have hbx1:Boxed (wr.drewN nq) w.heap.size 23 (.slice a n c):=hbx
      have HB1:=bdN hB nq
      generalize wr.drewN nq=W1 at hown1 hbx1 HB1 ⊢
      have hsz1:=HB1.size
      clear hown hbx hcb hlb hsA hsL G4 G8 PY HP RS
      go_wp2_with (first
       | (go_at_call 74;((with_reducible refine (G0.out _ HB1).mono ?_);rintro e w4 ⟨rfl,rfl⟩))
       | (at_builtin;refine wpList_append_own _ rfl _ _ 43 rfl w.heap.size 47 i0 (.agg #[.int .i64 0,.slice none 0 0]) 2 32 Tryz.underlying43 hi hz0 hz1 hz2 rfl (by decide) _ i _ rfl (hown1.alloc _) ⟨W1.heap.size,0,none⟩ 1 1 [.int .i64 (K:Int),.slice da L dc] rfl rfl (World.news_of_block (cs:=#[.int .i64 (K:Int),.slice da L dc]) (t:=47) (fr:=(0,0)) (heap_alloc_last W1 _)) (by simp [Value.oneCell']) (by unfold maxLen;omega) (by omega) (by simp;omega) ?_;intro v' w5 hown6 hgrow6 _;have B2:=(HB1.alloc hsz1 _).grown hgrow6 (by simp;omega) (own_base hown1);have bx2:=(hbx1.alloc (.cells #[.int .i64 (K:Int),.slice da L dc] 47)).kept hgrow6 (hbx1.not_row (by decide) hown1)))
      go_roundw
      case rel=>exact⟨i+1,ps++[((K:Int),.slice da L dc)],hlt,by go_num,B2,by rw [fl_snoc];exact hown6,bx2,HF⟩
      case measure=>simp [intOf];omega
   ·obtain rfl:i=k:=by omega
    have hfx:=hI.out
    have HO:=Lib.hid (And.intro hown hfx)
    have HB:=Lib.hid hB
    clear hown hfx hI hB
    go_wp2
    refine bodyPost_ret (v:=.tuple #[.slice oa i oc,.bool true]) (by simp [results,Tryz.results40,go_sem]) rfl ⟨.inr ⟨⟨by rw [HN.out];exact h16,fun j hj=>HO.out.2.2 j (by rw [HK.out] at hj;exact hj)⟩,oa,oc,ps,rfl,HO.out.1,HO.out.2.1⟩,HB.out⟩
 ·have hno:¬ rdB b:=fun h=>h16 (by rw [← hn];exact h.1)
  have HP:=Lib.hid (part_no w.heap.size 0 16 a n c _ hbx (by omega) (by omega) (by omega) 0 16 rfl rfl)
  have HNO:=Lib.hid hno
  clear hno hv hn
  go_enter Tryz.func40,Tryz.ntmps40
  go_wp2_with (go_at_call 73;((with_reducible refine (HP.out).mono ?_);rintro e w1 ⟨rfl,rfl⟩))
  refine bodyPost_ret (v:=.tuple #[.slice none 0 0,.bool false]) (by simp [results,Tryz.results40,go_sem]) rfl ⟨.inl ⟨HNO.out,rfl⟩,bn⟩
end Go.Proofs.YtohkgdfkklfgmaaGreatDoor.L15
end
section
set_option maxRecDepth 100000
set_option maxHeartbeats 4000000
namespace Go.Proofs.YtohkgdfkklfgmaaGreatDoor.L15
set_option maxRecDepth 100000
open Go.RowKit Go.Shelf L14
attribute [local go_sem] Oper.semAt_some
def RdP (b:List UInt8) (w:World) (e:Ending) (w':World):Prop :=
 ((¬ rdOk b∧e=.returned (.tuple #[.slice none 0 0,.int .i64 19]))∨(rdOk b∧∃ a c,e=.returned (.tuple #[.slice a (nS b) c,.int .i64 0])∧Ss w' (.slice a (nS b) c) (rdT b (nS b))))∧Below w.heap.size w w'
theorem read_no1 (a:Option Addr) (n c:Nat) (b:List UInt8) (w:World) (hv:Rw eB w (.slice a n c) b) (hb:n≤1000000) (hno:¬ rdB b) :
  Calls Tryz.prog 20 #[.slice a n c] w (RdP b w):=by
 have hB2:Below w.heap.size w ((w.alloc (.cells #[.slice none 0 0] 43)).alloc (.cells #[.int .i64 0] 29)):=bch (bnew _ _) (bnew _ _)
 have HS:=Lib.hid (callsIn_wide (n:=6-1).2 (sections_at a n c b _ (hv.below hB2) hb))
 have hr:¬ rdOk b:=fun h=>hno h.1
 have HR:=Lib.hid hr
 have HNO:=Lib.hid hno
 have b0:=(Boxed.new w 43 (.slice none 0 0)).alloc (.cells #[.int .i64 0] 29)
 have b1:=Boxed.new (w.alloc (.cells #[.slice none 0 0] 43)) 29 (.int .i64 0)
 rw [World.size_alloc] at b1
 have HB2:=Lib.hid hB2
 have HX0:=Lib.hid b0
 have HX1:=Lib.hid b1
 clear hv hr hno hB2 b0 b1
 refine (callsIn_wide (n:=6)).1 ?_
 refine callsIn_of_wp_marks Tryz.func20 rfl trivial ?_ rfl
 simp only [Tryz.ntmps20,List.size_toArray,List.length_cons,List.length_nil,Nat.reduceAdd,Nat.reduceSub,Array.replicate_succ,Array.replicate_zero,List.push_toArray,List.append_toArray,List.nil_append,List.cons_append]
 gi_wp2_with (refine⟨trivial,?_⟩;gi_at_call 40;((with_reducible refine (HS.out).mono ?_);rintro e w1 ⟨h1,b3⟩;obtain⟨-,rfl⟩:=(show _∧_ from h1.elim id (fun h=>absurd h.1 HNO.out))))
 have x0:=(L14.Boxed.below HX0.out b3).alloc (.cells #[.bool false] 4)
 have x1:=(L14.Boxed.below HX1.out b3).alloc (.cells #[.bool false] 4)
 have hb4:=(HB2.out.trans (b3.mono HB2.out.size)).alloc (Nat.le_trans HB2.out.size b3.size) (.cells #[.bool false] 4)
 have c0:=x0.cell
 have c1:=x1.cell
 have f0:=x0.frozen
 have f1:=x1.frozen
 have l0:=x0.lt
 have l1:=x1.lt
 have z1:w.heap.size≤w1.heap.size:=Nat.le_trans HB2.out.size b3.size
 clear HS h1
 refine⟨trivial,?_⟩
 gi_wp2
 refine⟨trivial,?_⟩
 gi_wp2
 have k0:=((x0.set (.slice none 0 0)).other (B':=w.heap.size+1) (by omega) (.int .i64 19)).cell
 have k1:=((x1.other (B':=w.heap.size) (by omega) (.slice none 0 0)).set (.int .i64 19)).cell
 refine⟨.tuple #[.slice none 0 0,.int .i64 19],by simp [results,Tryz.results20,go_sem,k0,k1],.inl ⟨HR.out,rfl⟩,?_⟩
 exact (hb4.setCell (p:=⟨w.heap.size,0,none⟩) (Nat.le_refl _) _).setCell (p:=⟨w.heap.size+1,0,none⟩) (Nat.le_succ _) _
theorem sub_le (b:List UInt8) (i n:Nat):(sub b i n).length≤b.length:=by
 unfold sub
 rw [List.length_take,List.length_drop];omega
theorem rdT_sml (b:List UInt8) (hb:b.length≤1000000):Sml (rdT b (nS b))∧nS b<65536∨¬ rdB b:=by
 by_cases h:rdB b
 ·refine .inl ?_
  have hk:nS b<65536:=by
   have:=va_lt (sub b 6 2)
   rw [sub_len _ _ _ (by have:=h.1;omega)] at this
   exact this
  refine⟨⟨by rw [rdT_len];omega,fun s hs=>?_⟩,hk⟩
  obtain⟨i,hi,rfl⟩:=List.mem_map.1 hs
  exact Nat.le_trans (sub_le _ _ _) hb
 ·exact .inr h
theorem read_no2 (a:Option Addr) (n c:Nat) (b:List UInt8) (w:World) (hv:Rw eB w (.slice a n c) b) (hb:n≤1000000) (hok:rdB b) (hR:chkV (rdT b (nS b))≠0) :
  Calls Tryz.prog 20 #[.slice a n c] w (RdP b w):=by
 have hn:=hv.at.1
 have hB2:Below w.heap.size w ((w.alloc (.cells #[.slice none 0 0] 43)).alloc (.cells #[.int .i64 0] 29)):=bch (bnew _ _) (bnew _ _)
 have HS:=Lib.hid (callsIn_wide (n:=6-1).2 (sections_at a n c b _ (hv.below hB2) hb))
 obtain⟨hsm,hkb⟩:Sml (rdT b (nS b))∧nS b<65536:=(rdT_sml b (by omega)).resolve_right (fun h=>h hok)
 have hr:¬ rdOk b:=fun h=>hR h.2.1
 obtain⟨l,hl⟩:∃ l,rdT b (nS b)=l:=⟨_,rfl⟩
 have hlk:l.length=nS b:=by rw [← hl,rdT_len]
 unfold SeP at HS
 rw [hl] at HS hsm hR
 have HR:=Lib.hid hr
 obtain⟨k,hk⟩:∃ k,nS b=k:=⟨_,rfl⟩
 rw [hk] at HS hlk hkb
 have HO:=Lib.hid hok
 have HLK:=Lib.hid hlk
 have HN:=Lib.hid hn
 obtain⟨R,hRR⟩:∃ R,chkV l=R:=⟨_,rfl⟩
 have HC:=Lib.hid (fun W v (h:Ss W v l)=>callsIn_wide (n:=6-1).2 (check_at v l R W h hsm hRR))
 rw [hRR] at hR
 have hRb:(R != 0)=true:=by simpa using hR
 clear hRR
 have b0:=(Boxed.new w 43 (.slice none 0 0)).alloc (.cells #[.int .i64 0] 29)
 have b1:=Boxed.new (w.alloc (.cells #[.slice none 0 0] 43)) 29 (.int .i64 0)
 rw [World.size_alloc] at b1
 have HB2:=Lib.hid hB2
 have HX0:=Lib.hid b0
 have HX1:=Lib.hid b1
 clear hv hr hok hB2 b0 b1 hl hk hsm hlk hR hn
 refine (callsIn_wide (n:=6)).1 ?_
 refine callsIn_of_wp_marks Tryz.func20 rfl trivial ?_ rfl
 simp only [Tryz.ntmps20,List.size_toArray,List.length_cons,List.length_nil,Nat.reduceAdd,Nat.reduceSub,Array.replicate_succ,Array.replicate_zero,List.push_toArray,List.append_toArray,List.nil_append,List.cons_append]
 gi_wp2_with (first
  | (refine⟨trivial,?_⟩;gi_at_call 40;((with_reducible refine (HS.out).mono ?_);rintro e w1 ⟨h1,b3⟩;obtain⟨-,la,lc,ps,rfl,ho,hf⟩:=h1.resolve_left (fun h=>h.1 HO.out);have hss:=own_ss HLK.out ho (hf.below b3);have hs4:=hss.below (bnew w1 (.cells #[.bool true] 4))))
  | (refine⟨trivial,?_⟩;gi_at_call 41;((with_reducible refine (HC.out _ _ hs4).mono ?_);rintro e w5 ⟨rfl,b5⟩)))
 have x0:=(L14.Boxed.below HX0.out b3).alloc (.cells #[.bool true] 4)
 have x1:=(L14.Boxed.below HX1.out b3).alloc (.cells #[.bool true] 4)
 have hb4:=(HB2.out.trans (b3.mono HB2.out.size)).alloc (Nat.le_trans HB2.out.size b3.size) (.cells #[.bool true] 4)
 have y0:=L14.Boxed.below x0 b5
 have y1:=L14.Boxed.below x1 b5
 have hb5:=hb4.trans (b5.mono hb4.size)
 have c0:=y0.cell
 have c1:=y1.cell
 have f0:=y0.frozen
 have f1:=y1.frozen
 have l0:=y0.lt
 have l1:=y1.lt
 clear HS h1 HC
 refine⟨trivial,?_⟩
 gi_wp2
 have k0:=((y0.set (.slice none 0 0)).other (B':=w.heap.size+1) (by omega) (.int .i64 19)).cell
 have k1:=((y1.other (B':=w.heap.size) (by omega) (.slice none 0 0)).set (.int .i64 19)).cell
 refine⟨.tuple #[.slice none 0 0,.int .i64 19],by simp [results,Tryz.results20,go_sem,k0,k1],.inl ⟨HR.out,rfl⟩,?_⟩
 exact (hb5.setCell (p:=⟨w.heap.size,0,none⟩) (Nat.le_refl _) _).setCell (p:=⟨w.heap.size+1,0,none⟩) (Nat.le_succ _) _
theorem read_no3 (a:Option Addr) (n c:Nat) (b:List UInt8) (w:World) (hv:Rw eB w (.slice a n c) b) (hb:n≤1000000) (hok:rdB b) (hR:chkV (rdT b (nS b))=0) (hsz:szL (rdT b (nS b))≠n) :
  Calls Tryz.prog 20 #[.slice a n c] w (RdP b w):=by
 have hn:=hv.at.1
 have hB2:Below w.heap.size w ((w.alloc (.cells #[.slice none 0 0] 43)).alloc (.cells #[.int .i64 0] 29)):=bch (bnew _ _) (bnew _ _)
 have HS:=Lib.hid (callsIn_wide (n:=6-1).2 (sections_at a n c b _ (hv.below hB2) hb))
 obtain⟨hsm,hkb⟩:Sml (rdT b (nS b))∧nS b<65536:=(rdT_sml b (by omega)).resolve_right (fun h=>h hok)
 have hr:¬ rdOk b:=fun h=>hsz (by rw [← wr_len,h.2.2];exact hn)
 obtain⟨l,hl⟩:∃ l,rdT b (nS b)=l:=⟨_,rfl⟩
 have hlk:l.length=nS b:=by rw [← hl,rdT_len]
 unfold SeP at HS
 rw [hl] at HS hsm hR hsz
 have HR:=Lib.hid hr
 obtain⟨k,hk⟩:∃ k,nS b=k:=⟨_,rfl⟩
 rw [hk] at HS hlk hkb
 have HO:=Lib.hid hok
 have HLK:=Lib.hid hlk
 have HN:=Lib.hid hn
 obtain⟨S,hSS⟩:∃ S,szL l=S:=⟨_,rfl⟩
 have HC:=Lib.hid (fun W v (h:Ss W v l)=>callsIn_wide (n:=6-1).2 (check_at v l 0 W h hsm hR))
 have HZ:=Lib.hid (fun W v (h:Ss W v l)=>callsIn_wide (n:=6-1).2 (size_at v l S W h hsm hSS))
 rw [hSS] at hsz
 have hRb:((S:Int) != (n:Int))=true:=by
  simp only [bne_iff_ne,ne_eq]
  omega
 clear hSS
 have b0:=(Boxed.new w 43 (.slice none 0 0)).alloc (.cells #[.int .i64 0] 29)
 have b1:=Boxed.new (w.alloc (.cells #[.slice none 0 0] 43)) 29 (.int .i64 0)
 rw [World.size_alloc] at b1
 have HB2:=Lib.hid hB2
 have HX0:=Lib.hid b0
 have HX1:=Lib.hid b1
 clear hv hr hok hB2 b0 b1 hl hk hsm hlk hR hn hsz
 refine (callsIn_wide (n:=6)).1 ?_
 refine callsIn_of_wp_marks Tryz.func20 rfl trivial ?_ rfl
 simp only [Tryz.ntmps20,List.size_toArray,List.length_cons,List.length_nil,Nat.reduceAdd,Nat.reduceSub,Array.replicate_succ,Array.replicate_zero,List.push_toArray,List.append_toArray,List.nil_append,List.cons_append]
 gi_wp2_with (first
  | (refine⟨trivial,?_⟩;gi_at_call 40;((with_reducible refine (HS.out).mono ?_);rintro e w1 ⟨h1,b3⟩;obtain⟨-,la,lc,ps,rfl,ho,hf⟩:=h1.resolve_left (fun h=>h.1 HO.out);have hss:=own_ss HLK.out ho (hf.below b3);have hs4:=hss.below (bnew w1 (.cells #[.bool true] 4))))
  | (refine⟨trivial,?_⟩;gi_at_call 41;((with_reducible refine (HC.out _ _ hs4).mono ?_);rintro e w5 ⟨rfl,b5⟩;have hs5:=hs4.below b5))
  | (refine⟨trivial,?_⟩;gi_at_call 31;((with_reducible refine (HZ.out _ _ hs5).mono ?_);rintro e w6 ⟨rfl,b6⟩;have x0:=(L14.Boxed.below HX0.out b3).alloc (.cells #[.bool true] 4);have x1:=(L14.Boxed.below HX1.out b3).alloc (.cells #[.bool true] 4);have hb4:=(HB2.out.trans (b3.mono HB2.out.size)).alloc (Nat.le_trans HB2.out.size b3.size) (.cells #[.bool true] 4);have y0:=L14.Boxed.below (L14.Boxed.below x0 b5) b6;have y1:=L14.Boxed.below (L14.Boxed.below x1 b5) b6;have hb6:=(hb4.trans (b5.mono hb4.size)).trans (b6.mono (Nat.le_trans hb4.size b5.size));have c0:=y0.cell;have c1:=y1.cell;have f0:=y0.frozen;have f1:=y1.frozen;have l0:=y0.lt;have l1:=y1.lt;clear x0 x1 hb4)))
 have k0:=((y0.set (.slice none 0 0)).other (B':=w.heap.size+1) (by omega) (.int .i64 19)).cell
 have k1:=((y1.other (B':=w.heap.size) (by omega) (.slice none 0 0)).set (.int .i64 19)).cell
 refine⟨.tuple #[.slice none 0 0,.int .i64 19],by simp [results,Tryz.results20,go_sem,k0,k1],.inl ⟨HR.out,rfl⟩,?_⟩
 exact (hb6.setCell (p:=⟨w.heap.size,0,none⟩) (Nat.le_refl _) _).setCell (p:=⟨w.heap.size+1,0,none⟩) (Nat.le_succ _) _
end Go.Proofs.YtohkgdfkklfgmaaGreatDoor.L15
end
section
set_option maxRecDepth 100000
set_option maxHeartbeats 8000000
namespace Go.Proofs.YtohkgdfkklfgmaaGreatDoor.L15
set_option maxRecDepth 100000
open Go.RowKit Go.Shelf L14
attribute [local go_sem] Oper.semAt_some
def Rx (g:Nat) (W:World) (v:Value) (d:List UInt8):Prop:=Rw eB W v d∧(0<d.length→v.ownBlock≠some g)
def Sg (W:World) (g:Nat) (l:List Sc):Prop :=
 ∃ cur,W.heap[g]?=some (Obj.cells cur 47 (0,0))∧∀ j (h:j<l.length),cur[j*2]?=some (.int .i64 l[j].1)∧∃ dv,cur[j*2+1]?=some dv∧Rx g W dv l[j].2
theorem Rx.below {g:Nat} {W W':World} {v:Value} {d:List UInt8} (h:Rx g W v d) (hb:Below W.heap.size W W'):Rx g W' v d:=⟨h.1.below hb,h.2⟩
theorem Rx.set {g i:Nat} {W:World} {v u:Value} {d:List UInt8} (h:Rx g W v d):Rx g (W.setCell ⟨g,i,none⟩ u) v d:=by
 refine⟨?_,h.2⟩
 obtain⟨a,c,rfl,h1,h2,h3⟩:=h.1
 refine⟨a,c,rfl,h1,h2,fun hp=>?_⟩
 obtain⟨b,o,rfl,hb,hc⟩:=h3 hp
 have hne:b≠g:=fun e=>h.2 hp (by simp [Value.ownBlock,e])
 refine⟨b,o,rfl,by rw [World.size_setCell];exact hb,fun j hj=>?_⟩
 rw [← hc j hj]
 unfold World.cell?
 simp only [Below.heap_setCell W ⟨g,i,none⟩ u b hne]
theorem Sg.below {W W':World} {g:Nat} {l:List Sc} (h:Sg W g l) (hb:Below W.heap.size W W'):Sg W' g l:=by
 obtain⟨cur,hg,hc⟩:=h
 refine⟨cur,(hb.block g (lt_of_block hg)).trans hg,fun j hj=>?_⟩
 obtain⟨h1,dv,h2,h3⟩:=hc j hj
 exact⟨h1,dv,h2,h3.below hb⟩
theorem Sg.set {W:World} {g i:Nat} {l:List Sc} {cv:Value} (h:Sg W g l) (hi:i<l.length) (hc:Rx g W cv l[i].2):Sg (W.setCell ⟨g,i*2+1,none⟩ cv) g l:=by
 obtain⟨cur,hg,hcs⟩:=h
 refine⟨_,cells_set hg,fun j hj=>?_⟩
 obtain⟨h1,dv,h2,h3⟩:=hcs j hj
 refine⟨?_,?_⟩
 ·rw [Array.getElem?_setIfInBounds_ne (by omega)]
  exact h1
 ·by_cases e:j=i
  ·subst e
   refine⟨cv,?_,hc.set⟩
   have hlt:j*2+1<cur.size:=by
    rcases Nat.lt_or_ge (j*2+1) cur.size with h|h
    ·exact h
    ·rw [Array.getElem?_eq_none h] at h2;cases h2
   rw [Array.getElem?_setIfInBounds_self_of_lt hlt]
  ·refine⟨dv,?_,h3.set⟩
   rw [Array.getElem?_setIfInBounds_ne (by omega)]
   exact h2
theorem Sg.ss {W:World} {g k c:Nat} {l:List Sc} (h:Sg W g l) (hk:l.length=k) (hc:k≤c):Ss W (.slice (some ⟨g,0,none⟩) k c) l:=by
 obtain⟨cur,hg,hcs⟩:=h
 refine⟨_,c,by rw [hk],by omega,fun e=>(by cases e),fun _=>⟨g,0,rfl,lt_of_block hg,fun j hj=>?_⟩⟩
 obtain⟨h1,dv,h2,h3⟩:=hcs j hj
 rw [Nat.zero_add]
 refine⟨?_,dv,?_,h3.1⟩
 ·unfold World.cell?
  simp only [hg]
  exact h1
 ·unfold World.cell?
  simp only [hg]
  exact h2
theorem own_sg {w W:World} {g k c:Nat} {ps:List (Int × Value)} {l:List Sc} (_:l.length=k) (h:W.ownsRow w.heap.size 47 2 (.slice (some ⟨g,0,none⟩) k c) k (fl ps)) (hf:Fits w ps l) (hb:Below w.heap.size w W):Sg W g l∧w.heap.size≤g:=by
 rcases h.2 with ⟨h0,-⟩|⟨g',cap,cur,he,hbg,hh,-,-,hcs,htk⟩
 ·cases h0
 ·cases he
  refine⟨⟨cur,hh,fun j hj=>?_⟩,hbg⟩
  have hj2:j<ps.length:=by rw [hf.1];exact hj
  obtain⟨q1,q2⟩:=fl_get ps j hj2
  obtain⟨p1,p2⟩:=hf.2 j hj2 hj
  have key:∀ i u,(fl ps)[i]?=some u→cur[i]?=some u:=fun i u hu=>by
   rw [← htk,List.getElem?_take] at hu
   split at hu
   ·simpa using hu
   ·cases hu
  refine⟨by rw [key _ _ q1,p1],ps[j].2,key _ _ q2,p2.below hb,fun hp e=>?_⟩
  obtain⟨a,c',hv,-,-,h3⟩:=p2
  obtain⟨b,o,ha,hlt,-⟩:=h3 hp
  rw [hv,ha] at e
  simp [Value.ownBlock] at e
  omega
def ReG (w:World) (b:List UInt8) (n:Nat) (pre:List Pa) (v:Value):Prop :=
 (byt pre).flatten <+: b∧∃ a c,v=.slice a (n-(byt pre).flatten.length) c∧Rw eB w v (b.drop (byt pre).flatten.length)
def RgI (w w1:World) (b:List UInt8) (n B5 B6:Nat) (pre:List Pa) (W:World):Prop :=
 Boxed W B5 4 (.bool true)∧(∃ v,Boxed W B6 23 v∧ReG w b n pre v)∧Below w1.heap.size w1 W
def RgX (w:World) (b:List UInt8) (pre:List Pa) (W:World):Prop :=
 (Boxed W w.heap.size 43 (.slice none 0 0)∧Boxed W (w.heap.size+1) 29 (.int .i64 19))∧(¬ (byt pre).flatten <+: b)∧Below w.heap.size w W
theorem boxE_own {β:Type} (B:Nat) (t:TypeId) (G:β→Value→Prop):Own (fun s W=>∃ v,Boxed W B t v∧G s v):=by
 rintro s X Y row ⟨v,hv,hG⟩ hg hrow
 exact⟨v,boxed_own (β:=Unit) B t (fun _=>v) () X Y row hv hg hrow,hG⟩
theorem rgI_own (w w1:World) (b:List UInt8) (n B5 B6 d:Nat) (hd:w1.heap.size≤d):OwnFrom d (RgI w w1 b n B5 B6) :=
 OwnFrom.and (Own.from (boxed_own _ _ _) _) (OwnFrom.and (Own.from (boxE_own _ _ _) _) (ownFrom_below (Nat.le_refl _) hd))
theorem rgX_own (w:World) (b:List UInt8) (d:Nat) (hd:w.heap.size≤d):OwnFrom d (RgX w b) :=
 OwnFrom.and (OwnFrom.and (Own.from (boxed_own _ _ _) _) (Own.from (boxed_own _ _ _) _)) (OwnFrom.and (ownFrom_pure _ _) (ownFrom_below (Nat.le_refl _) hd))
theorem KP.set {n:Nat} {A:World} {B:Nat} {t:TypeId} {u:Value} (hx:Boxed A B t u) (h1:t≠43) (h2:t≠133) (hn:n≤B) (v:Value):KP n A (A.setCell ⟨B,0,none⟩ v):=by
 refine⟨(Below.refl n A).setCell (p:=⟨B,0,none⟩) hn v,fun k cs fr h=>?_,fun k cs fr h=>?_⟩
 all_goals
  rw [Below.heap_setCell _ _ _ _ ?_]
  ·exact h
  ·show k≠B
   rintro rfl
   rw [show A.heap[k]?=_ from hx] at h
   cases h
   first|exact h1 rfl|exact h2 rfl
theorem pre_app {p d b:List UInt8} (h:p <+: b):p++d <+: b↔d <+: b.drop p.length:=by
 obtain⟨r,rfl⟩:=h
 rw [List.drop_left,List.prefix_append_right_inj]
theorem box_cell {W:World} {B i:Nat} {t:TypeId} {u x:Value} (h:Boxed W B t u) (hc:W.cell? ⟨B,i,none⟩=some x):i=0∧x=u:=by
 unfold World.cell? at hc
 simp only [show W.heap[B]?=_ from h] at hc
 cases i with
 | zero=>exact⟨rfl,by simpa using hc.symm⟩
 | succ i=>simp at hc
theorem cell_setc {W:World} {b B i:Nat} (v:Value) (h:b≠B):(W.setCell ⟨B,0,none⟩ v).cell? ⟨b,i,none⟩=W.cell? ⟨b,i,none⟩:=by
 unfold World.cell?
 simp only [Below.heap_setCell W ⟨B,0,none⟩ v b h]
theorem rw_box {W:World} {B:Nat} {t:TypeId} {u v:Value} {d:List UInt8} (h:Rw eB W v d) (hx:Boxed W B t u) (hu:∀ c,u≠.int .u8 c) (x:Value):Rw eB (W.setCell ⟨B,0,none⟩ x) v d:=by
 obtain⟨a,c,rfl,h1,h2,h3⟩:=h
 refine⟨a,c,rfl,h1,h2,fun hp=>?_⟩
 obtain⟨b,o,rfl,hb,hc⟩:=h3 hp
 have hne:b≠B:=by
  rintro rfl
  exact hu _ (box_cell hx (hc 0 hp)).2.symm
 exact⟨b,o,rfl,by rw [World.size_setCell];exact hb,fun j hj=>(cell_setc x hne).trans (hc j hj)⟩
theorem ss_box {W:World} {B:Nat} {t:TypeId} {u v:Value} {l:List Sc} (h:Ss W v l) (hx:Boxed W B t u) (hu:∀ c,u≠.int .u8 c) (x:Value):Ss (W.setCell ⟨B,0,none⟩ x) v l:=by
 obtain⟨a,c,rfl,h1,h2,h3⟩:=h
 refine⟨a,c,rfl,h1,h2,fun hp=>?_⟩
 obtain⟨b,o,rfl,hb,hc⟩:=h3 hp
 have hne:b≠B:=by
  rintro rfl
  obtain⟨-,dv,h4,-⟩:=hc 0 hp
  have:=(box_cell hx h4).1
  omega
 refine⟨b,o,rfl,by rw [World.size_setCell];exact hb,fun j hj=>?_⟩
 obtain⟨h4,dv,h5,h6⟩:=hc j hj
 exact⟨(cell_setc x hne).trans h4,dv,(cell_setc x hne).trans h5,rw_box h6 hx hu x⟩
theorem ss_put {W:World} {D:Nat} {v:Value} {l:List Sc} {o o':Obj} (h:Ss W v l) (hd:W.heap[D]?=some o) (ho:o.isCells=false):Ss (W.putObj D o') v l:=by
 have key:∀ b i x,W.cell? ⟨b,i,none⟩=some x→(W.putObj D o').cell? ⟨b,i,none⟩=some x:=fun b i x hc=>by
  have hne:b≠D:=by
   rintro rfl
   unfold World.cell? at hc
   rw [hd] at hc
   cases o <;> simp_all [Obj.isCells]
  unfold World.cell?
  rw [World.putObj_heap_other hne]
  exact hc
 obtain⟨a,c,rfl,h1,h2,h3⟩:=h
 refine⟨a,c,rfl,h1,h2,fun hp=>?_⟩
 obtain⟨b,o2,rfl,hb,hc⟩:=h3 hp
 refine⟨b,o2,rfl,by rw [World.putObj_size];exact hb,fun j hj=>?_⟩
 obtain⟨h4,dv,h5,h6⟩:=hc j hj
 refine⟨key _ _ _ h4,dv,key _ _ _ h5,?_⟩
 obtain⟨a',c',hv,q1,q2,q3⟩:=h6
 refine⟨a',c',hv,q1,q2,fun hp'=>?_⟩
 obtain⟨b',o3,e,hb',hc'⟩:=q3 hp'
 exact⟨b',o3,e,by rw [World.putObj_size];exact hb',fun i hi=>key _ _ _ (hc' i hi)⟩
theorem box_setg {W:World} {B g i:Nat} {t t':TypeId} {u v:Value} {cur:Array Value} (h:Boxed W B t v) (hg:W.heap[g]?=some (Obj.cells cur t' (0,0))) (ht:t≠t'):Boxed (W.setCell ⟨g,i,none⟩ u) B t v:=by
 show (W.setCell ⟨g,i,none⟩ u).heap[B]?=_
 rw [Below.heap_setCell _ _ _ _ ?_]
 ·exact h
 ·show B≠g
  rintro rfl
  rw [show W.heap[B]?=_ from h] at hg
  cases hg
  exact ht rfl
theorem read_go (a:Option Addr) (n c:Nat) (b:List UInt8) (w:World) (hv:Rw eB w (.slice a n c) b) (hb:n≤1000000) (hok:rdB b) (hR:chkV (rdT b (nS b))=0) (hsz:szL (rdT b (nS b))=n) :
  Calls Tryz.prog 20 #[.slice a n c] w (RdP b w):=by
 have hn:=hv.at.1
 have hB2:Below w.heap.size w ((w.alloc (.cells #[.slice none 0 0] 43)).alloc (.cells #[.int .i64 0] 29)):=bch (bnew _ _) (bnew _ _)
 have HS:=Lib.hid (callsIn_wide (n:=6-1).2 (sections_at a n c b _ (hv.below hB2) hb))
 obtain⟨hsm,hkb⟩:Sml (rdT b (nS b))∧nS b<65536:=(rdT_sml b (by omega)).resolve_right (fun h=>h hok)
 have hro:rdOk b↔wr (rdT b (nS b))=b:=⟨fun h=>h.2.2,fun h=>⟨hok,hR,h⟩⟩
 unfold RdP
 obtain⟨l,hl⟩:∃ l,rdT b (nS b)=l:=⟨_,rfl⟩
 have hlk:l.length=nS b:=by rw [← hl,rdT_len]
 unfold SeP at HS
 rw [hl] at HS hsm hR hsz hro ⊢
 obtain⟨k,hk⟩:∃ k,nS b=k:=⟨_,rfl⟩
 rw [hk] at HS hlk hkb ⊢
 have HFw:=Lib.hid (fw_of hsm hR)
 have HAs:=Lib.hid (chk0.1 hR).2
 have HRO:=Lib.hid hro
 have HO:=Lib.hid hok
 have HLK:=Lib.hid hlk
 have HN:=Lib.hid hn
 have HSZ:=Lib.hid hsz
 have HV:=Lib.hid hv
 have HC:=Lib.hid (fun W v (h:Ss W v l)=>callsIn_wide (n:=6-1).2 (check_at v l 0 W h hsm hR))
 have HZ:=Lib.hid (fun W v (h:Ss W v l)=>callsIn_wide (n:=6-1).2 (size_at v l n W h hsm hsz))
 have b0:=(Boxed.new w 43 (.slice none 0 0)).alloc (.cells #[.int .i64 0] 29)
 have b1:=Boxed.new (w.alloc (.cells #[.slice none 0 0] 43)) 29 (.int .i64 0)
 rw [World.size_alloc] at b1
 have HB2:=Lib.hid hB2
 have HX0:=Lib.hid b0
 have HX1:=Lib.hid b1
 have HDT:=Lib.hid hsm.d
 clear hv hok hB2 b0 b1 hl hk hsm hlk hR hn hsz hro
 refine (callsIn_wide (n:=6)).1 ?_
 refine callsIn_of_wp_marks Tryz.func20 rfl trivial ?_ rfl
 simp only [Tryz.ntmps20,List.size_toArray,List.length_cons,List.length_nil,Nat.reduceAdd,Nat.reduceSub,Array.replicate_succ,Array.replicate_zero,List.push_toArray,List.append_toArray,List.nil_append,List.cons_append]
 gi_wp2_with (first
  | (refine⟨trivial,?_⟩;gi_at_call 40;((with_reducible refine (HS.out).mono ?_);rintro e w1 ⟨h1,b3⟩;obtain⟨-,la,lc,ps,rfl,ho,hf⟩:=h1.resolve_left (fun h=>h.1 HO.out);have hss:=own_ss HLK.out ho (hf.below b3);have hs4:=hss.below (bnew w1 (.cells #[.bool true] 4))))
  | (refine⟨trivial,?_⟩;gi_at_call 41;((with_reducible refine (HC.out _ _ hs4).mono ?_);rintro e w5 ⟨rfl,b5⟩;have hs5:=hs4.below b5))
  | (refine⟨trivial,?_⟩;gi_at_call 31;((with_reducible refine (HZ.out _ _ hs5).mono ?_);rintro e w6 ⟨rfl,b6⟩))
  | (refine⟨trivial,?_⟩;gi_at_call 42;refine (callsIn_wide.2 (parts_fn _ la k lc rfl _)).mono ?_;rintro e w7 ⟨rfl,rfl⟩))
 have bW1:=HB2.out.trans (b3.mono HB2.out.size)
 have bn1:=bnew w1 (.cells #[.bool true] 4)
 have z5:w1.heap.size≤w5.heap.size:=Nat.le_trans bn1.size b5.size
 have z6:w1.heap.size≤w6.heap.size:=Nat.le_trans z5 b6.size
 have B1W:=(((bn1.trans (b5.mono bn1.size)).trans (b6.mono z5)).alloc z6 (.cells #[.slice a n c] 23)).alloc (Nat.le_trans z6 (by simp)) (.cells #[.slice la k lc] 43)
 have x5:=((L14.Boxed.below (L14.Boxed.below (Boxed.new w1 4 (.bool true)) b5) b6).alloc (.cells #[.slice a n c] 23)).alloc (.cells #[.slice la k lc] 43)
 have x6:=(Boxed.new w6 23 (.slice a n c)).alloc (.cells #[.slice la k lc] 43)
 have x7:=Boxed.new (w6.alloc (.cells #[.slice a n c] 23)) 43 (.slice la k lc)
 rw [World.size_alloc] at x7
 have x0:=L14.Boxed.below HX0.out b3
 have x1:=L14.Boxed.below HX1.out b3
 obtain⟨B6,hB6⟩:∃ B,w6.heap.size=B:=⟨_,rfl⟩
 have hB6l:w1.heap.size<B6:=by
  have:w1.heap.size<w5.heap.size:=Nat.lt_of_lt_of_le (by simp) b5.size
  have:=b6.size
  omega
 rw [hB6] at x6 x7 ⊢
 obtain⟨W0,hW0⟩:∃ W0,(w6.alloc (.cells #[.slice a n c] 23)).alloc (.cells #[.slice la k lc] 43)=W0:=⟨_,rfl⟩
 rw [hW0] at x5 x6 x7 B1W
 simp only [hW0]
 have HW1:=Lib.hid bW1
 have HSS:=Lib.hid hss
 have HOF:=Lib.hid (And.intro ho hf)
 have HB3:=Lib.hid b3
 have HBW:=Lib.hid B1W
 have H7:=Lib.hid x7
 have H0:=Lib.hid x0
 have H1:=Lib.hid x1
 have hl01:w.heap.size+1<w1.heap.size:=x1.lt
 have hn1:=HN.out
 clear HS HC HZ h1 hs4 hs5 hW0 hB6 z5 z6 bn1 b5 b6 bW1 hss ho hf b3 x7 x0 x1
 refine range_told rfl (by omega) (gf:=76) (lb:=#[.pointer (some ⟨B6+1,0,none⟩)]) rfl trivial (enters_of Tryz.func76 (by kernel_rfl) rfl)
  (tells_at _ (by omega) (B6+1) w1.heap.size la k lc l HLK.out HFw.out HAs.out W0 HBW.out.size H7.out (fun A hA=>HSS.out.below (HBW.out.trans hA))) (fun h k=>KP.t h k) (fun W k o o' h1 h2 h3 h4=>KP.p (w:=W0) HBW.out.size W k o o' h1 h2 h3 h4) (fun _=>rfl)
  (relP_own _) (RgI w w1 b n w1.heap.size B6) (RgX w b) (rgI_own w w1 b n w1.heap.size B6 _ HBW.out.size) (rgX_own w b _ (Nat.le_trans HW1.out.size HBW.out.size)) ⟨x5,⟨_,x6,by simp [byt],a,c,by simp [byt],by simpa [byt] using HV.out⟩,B1W⟩
  (fun x=>{ tmps:=#[.slice a n c,undef,.pointer (some ⟨w.heap.size,0,none⟩),.pointer (some ⟨w.heap.size+1,0,none⟩),.slice la k lc,.pointer (some ⟨w1.heap.size,0,none⟩),.pointer (some ⟨B6,0,none⟩),x.1,undef,undef,.tuple #[.slice la k lc,.bool true],.slice a n c,.tuple #[.slice la k lc,.bool true],.slice la k lc,.bool true,.bool true,.bool false,.bool false,.slice la k lc,.int .i64 0,.bool false,.bool false,.bool false,.slice la k lc,.int .i64 (n:Int),.slice a n c,.int .i64 (n:Int),.bool false,.bool false,.slice a n c,.slice la k lc,.func (.func 76) #[] #[.pointer (some ⟨B6+1,0,none⟩)],x.1,undef,undef,undef,undef,undef,undef,undef,undef,undef,undef,undef,undef,undef,undef,undef,undef,undef,undef,undef,undef,undef,undef,undef,undef],defers:=[] })
  ?assign ?body ?done ?stop
 case assign =>
  intro lp x W K hK
  obtain⟨xv,xd⟩:=x
  gi_wp2
  exact hK
 case body =>
  rintro lp pre ⟨xv,xd⟩ W ⟨c5,⟨v6,c6,hpf,ra,rc,rfl,hrr⟩,hBw⟩ hx hp
  have hx':Rw eB W xv xd:=hx
  obtain⟨pa,pc,rfl,-⟩:=id hx'
  have hpl:=pre_len hp
  have hfl:(byt (pre++[((.slice pa xd.length pc,xd):Pa)])).flatten=(byt pre).flatten++xd:=by simp [byt]
  rw [hfl,HSZ.out,List.length_append] at hpl
  have hbw:=HW1.out.trans (hBw.mono HW1.out.size)
  have hrW:=hrr.below hbw
  have hap:=pre_app (d:=xd) hpf
  have c0:Boxed W w.heap.size 43 (.slice none 0 0):=(hBw.block _ (H0.out.lt)).trans H0.out
  have c1:Boxed W (w.heap.size+1) 29 (.int .i64 0):=(hBw.block _ (H1.out.lt)).trans H1.out
  obtain⟨m,hm⟩:∃ m,(byt pre).flatten.length=m:=⟨_,rfl⟩
  rw [hm] at hrW c6 hap hpl
  have hdl:(b.drop m).length=n-m:=by rw [List.length_drop,HN.out]
  have f5:=c5.frozen
  have f6:=c6.frozen
  have d5:=c5.cell
  have d6:=c6.cell
  have l5:=c5.lt
  have l6:=c6.lt
  have hne5:¬ w1.heap.size=B6:=by omega
  have hne6:¬ B6=w1.heap.size:=by omega
  have C5:=Lib.hid c5
  have C6:=Lib.hid c6
  have HBW2:=Lib.hid hBw
  have HBw3:=Lib.hid hbw
  have HFL:=Lib.hid hfl
  have HPF:=Lib.hid hpf
  have HM:=Lib.hid hm
  obtain⟨q,hq⟩:∃ q,xd.length=q:=⟨_,rfl⟩
  have HQ:=Lib.hid hq
  rw [hq] at hpl
  by_cases hd:xd <+: b.drop m
  ·have HCP:=Lib.hid (callsIn_wide (n:=3).2 (cutp_yes ra (n-m) rc q _ (b.drop m) xd W (by omega) (by omega) hrW hx' hd hq))
   have HP2:=Lib.hid (hap.2 hd)
   have hdr:=drop_rw (n:=n-m) (c:=rc) (by rw [hm] at hrr;exact hrr) q (by omega)
   rw [List.drop_drop] at hdr
   obtain⟨a',c',hdv⟩:=drop_form ra (n-m) rc q
   rw [hdv] at HCP hdr
   have HDR:=Lib.hid hdr
   simp only [hq]
   rw [hq] at HFL HCP
   clear hx hx' hp hfl hrr hrW hap hpf hdl hd hbw hBw hm hq hdr hdv c5 c6 c0 c1
   gi_wp2_with (refine⟨trivial,?_⟩;(refine (CallsIn.inRound lp (HCP.out)).mono ?_;rintro e w4 ⟨rfl,rfl⟩))
   have e:=HFL.out
   have k5:=(C5.out.other hne5 (.slice a' (n-m-q) c')).set (.bool true)
   have k6:=(C6.out.set (.slice a' (n-m-q) c')).other hne6 (.bool true)
   have kp:=(KP.set C6.out (by decide) (by decide) (Nat.le_of_lt hB6l) (.slice a' (n-m-q) c')).t (KP.set (C5.out.other hne5 (.slice a' (n-m-q) c')) (by decide) (by decide) (Nat.le_refl _) (.bool true))
   refine⟨((KeepsOthers.setCell _ _ _).trans (KeepsOthers.setCell _ _ _)).from _,kp,k5,⟨_,k6,by rw [e];exact HP2.out,a',c',?_,?_⟩,HBW2.out.trans kp.b⟩
   ·rw [e,List.length_append,HM.out,HQ.out,Nat.sub_sub]
   ·rw [e,List.length_append,HM.out,HQ.out]
    exact HDR.out
  ·have HCP:=Lib.hid (callsIn_wide (n:=3).2 (cutp_no ra (n-m) rc _ (b.drop m) xd W (by omega) (by omega) hrW hx' hd))
   have HP2:=Lib.hid (show ¬ ((byt pre).flatten++xd <+: b) from fun h=>hd (hap.1 h))
   simp only [hq]
   rw [hq] at HFL HCP
   have f0:=c0.frozen
   have f1:=c1.frozen
   have d0:=c0.cell
   have d1:=c1.cell
   have l0:=c0.lt
   have l1:=c1.lt
   have hq1:¬ w.heap.size=B6:=by omega
   have hq2:¬ w.heap.size+1=B6:=by omega
   have hq3:¬ w.heap.size=w1.heap.size:=by omega
   have hq4:¬ w.heap.size+1=w1.heap.size:=by omega
   have hr1:¬ B6=w.heap.size:=by omega
   have hr2:¬ B6=w.heap.size+1:=by omega
   have hr3:¬ w1.heap.size=w.heap.size:=by omega
   have hr4:¬ w1.heap.size=w.heap.size+1:=by omega
   have C0:=Lib.hid c0
   have C1:=Lib.hid c1
   clear hx hx' hp hfl hrr hrW hap hpf hdl hd hbw hBw hm hq c5 c6 c0 c1
   gi_wp2_with (refine⟨trivial,?_⟩;(refine (CallsIn.inRound lp (HCP.out)).mono ?_;rintro e w4 ⟨rfl,rfl⟩))
   have e:=HFL.out
   have k0:=(((C0.out.other hq1 (.slice ra (n-m) rc)).other hq3 (.bool false)).set (.slice none 0 0)).other (B':=w.heap.size+1) (by omega) (.int .i64 19)
   have k1:=(((C1.out.other hq2 (.slice ra (n-m) rc)).other hq4 (.bool false)).other (B':=w.heap.size) (by omega) (.slice none 0 0)).set (.int .i64 19)
   refine⟨((((KeepsOthers.setCell _ _ _).trans (KeepsOthers.setCell _ _ _)).trans (KeepsOthers.setCell _ _ _)).trans (KeepsOthers.setCell _ _ _)).from _,⟨k0,k1⟩,by rw [e];exact HP2.out,?_⟩
   exact (((HBw3.out.setCell (p:=⟨B6,0,none⟩) (by show w.heap.size≤B6;omega) _).setCell (p:=⟨w1.heap.size,0,none⟩) (by show w.heap.size≤w1.heap.size;omega) _).setCell (p:=⟨w.heap.size,0,none⟩) (Nat.le_refl _) _).setCell (p:=⟨w.heap.size+1,0,none⟩) (Nat.le_succ _) _
 case done =>
  rintro D xs W hD hS ⟨c5,⟨v6,c6,hpf,-⟩,hBw⟩ hK
  have hbw:=HW1.out.trans (hBw.mono HW1.out.size)
  have c0:Boxed W w.heap.size 43 (.slice none 0 0):=(hBw.block _ (H0.out.lt)).trans H0.out
  have c1:Boxed W (w.heap.size+1) 29 (.int .i64 0):=(hBw.block _ (H1.out.lt)).trans H1.out
  have hwr:wr l=b:=by
   rw [hS,prt_wr] at hpf
   exact hpf.eq_of_length (by rw [wr_len,HSZ.out,HN.out])
  have HOK:=Lib.hid (HRO.out.2 hwr)
  have hssW:=HSS.out.below hBw
  obtain⟨g,hg⟩:∃ g,0<k→la=some ⟨g,0,none⟩∧k≤lc∧w.heap.size≤g∧Sg W g l:=by
   rcases HOF.out.1.2 with ⟨-,h0⟩|⟨g,cap,cur,he,-,-,hle,-⟩
   ·exact⟨0,fun h=>by omega⟩
   ·cases he
    obtain⟨q1,q2⟩:=own_sg HLK.out HOF.out.1 HOF.out.2 HB3.out
    exact⟨g,fun _=>⟨rfl,hle,Nat.le_trans HB2.out.size q2,q1.below hBw⟩⟩
  have hz:w.heap.size≤W0.heap.size:=Nat.le_trans HW1.out.size HBW.out.size
  have H8:=Lib.hid (show (Boxed W w.heap.size 43 (.slice none 0 0)∧Boxed W (w.heap.size+1) 29 (.int .i64 0))∧W.heap[D]?=some (.deferred (some []))∧Below w.heap.size w W∧Ss W (.slice la k lc) l∧(0<k→la=some ⟨g,0,none⟩∧k≤lc∧w.heap.size≤g∧Sg W g l) from ⟨⟨c0,c1⟩,hK,hbw,hssW,hg⟩)
  clear c5 c6 hpf hBw hK hbw c0 c1 hwr hssW hg hS
  gi_wp2
  gi_loopw [8,9,43] (fun _ _ q wr=>∃ j:Nat,j≤k∧q=.int .i64 (j:Int)∧Hid ((Boxed wr w.heap.size 43 (.slice none 0 0)∧Boxed wr (w.heap.size+1) 29 (.int .i64 0))∧wr.heap[D]?=some (.deferred (some []))∧Below w.heap.size w wr∧Ss wr (.slice la k lc) l∧(0<k→la=some ⟨g,0,none⟩∧k≤lc∧w.heap.size≤g∧Sg wr g l))) (fun _ _ q _=>k-(intOf q).toNat)
  case atStart=>exact⟨0,Nat.zero_le _,rfl,H8⟩
  case round =>
   clear H8
   obtain⟨j,hj,rfl,hI⟩:=hrel
   obtain⟨⟨c0,c1⟩,hK,hbw,hss,hg⟩:=hI.out
   by_cases hlt:j<k
   ·obtain⟨rfl,hkc,hwg,hsg⟩:=hg (by omega)
    have hjl:j<l.length:=by rw [HLK.out];exact hlt
    obtain⟨cur,hgc,hcs⟩:=id hsg
    obtain⟨y0,dv,y1,hrx⟩:=hcs j hjl
    have z0:wr.cell? ⟨g,j*2,none⟩=some (.int .i64 l[j].1):=by
     rw [(cell_in hgc).1];exact y0
    have z1:wr.cell? ⟨g,j*2+1,none⟩=some dv:=by
     rw [(cell_in hgc).1];exact y1
    have f1:wr.frozen? ⟨g,j*2+1,none⟩=false:=(cell_in hgc).2
    have lg:g<wr.heap.size:=lt_of_block hgc
    obtain⟨m,hm⟩:∃ m,l[j].2.length=m:=⟨_,rfl⟩
    obtain⟨da,dc,rfl,-⟩:=hrx.1.form hm
    have hml:=HDT.out _ (List.getElem_mem hjl)
    obtain⟨kk,hkk⟩:∃ kk,l[j].1=kk:=⟨_,rfl⟩
    rw [hkk] at z0
    have bn:=bnew wr (.cells #[.int .i64 kk,.slice da m dc] 47)
    have HCL:=Lib.hid (callsIn_wide (n:=6-1).2 (bclone_at (.slice da m dc) l[j].2 (wr.alloc (.cells #[.int .i64 kk,.slice da m dc] 47)) (by omega) (hrx.1.below bn)))
    have HST:=Lib.hid (And.intro hjl (And.intro hsg (And.intro hbw (And.intro hK (And.intro c0 (And.intro c1 (And.intro hm bn)))))))
    have hwl:=hbw.size
    have z1a:(wr.alloc (.cells #[.int .i64 kk,.slice da m dc] 47)).cell? ⟨g,j*2+1,none⟩=some (.slice da m dc):=(bn.cell (p:=⟨g,j*2+1,none⟩) (by exact lg)).trans z1
    have HGC:=Lib.hid (show (wr.alloc (.cells #[.int .i64 kk,.slice da m dc] 47)).heap[g]?=some (Obj.cells cur 47 (0,0)) from (bn.block g lg).trans hgc)
    clear hcs y0 y1 hrx hm hkk bn hI hg hsg hbw hK c0 c1 hss hgc hml
    gi_wp2_with (refine⟨trivial,?_⟩;gi_at_call 44;((with_reducible refine (HCL.out).mono ?_);rintro e w8 ⟨v',rfl,ho8,b8⟩;obtain⟨na,nc,rfl⟩:=owns_slice ho8;have g8:w8.heap[g]?=some (Obj.cells cur 47 (0,0)):=(b8.block g (by simp;omega)).trans HGC.out;have z8:w8.cell? ⟨g,j*2+1,none⟩=some (.slice da m dc):=(b8.cell (p:=⟨g,j*2+1,none⟩) (by show g<_;simp;omega)).trans z1a;have f8:w8.frozen? ⟨g,j*2+1,none⟩=false:=(cell_in g8).2))
    obtain⟨hjl,hsg,hbw,hK,c0,c1,hm,bn⟩:=HST.out
    have hg8:=(hsg.below bn).below b8
    have hrn:Rx g w8 (.slice na l[j].2.length nc) l[j].2:=⟨Rw.own ho8,fun _ e=>by
     have:=own_base ho8 g e
     simp at this
     omega⟩
    have hs9:=hg8.set hjl hrn
    have hdg:D≠g:=fun e=>by
     rw [e] at hK
     have h1:=(b8.block g (by simp;omega)).trans ((bn.block g lg).trans hK)
     rw [g8] at h1
     cases h1
    have hb8:=(hbw.trans (bn.mono hbw.size)).trans (b8.mono (Nat.le_trans hbw.size bn.size))
    have H9:=Lib.hid (show (Boxed (w8.setCell ⟨g,j*2+1,none⟩ (.slice na l[j].2.length nc)) w.heap.size 43 (.slice none 0 0)∧Boxed (w8.setCell ⟨g,j*2+1,none⟩ (.slice na l[j].2.length nc)) (w.heap.size+1) 29 (.int .i64 0))∧(w8.setCell ⟨g,j*2+1,none⟩ (.slice na l[j].2.length nc)).heap[D]?=some (.deferred (some []))∧Below w.heap.size w (w8.setCell ⟨g,j*2+1,none⟩ (.slice na l[j].2.length nc))∧Ss (w8.setCell ⟨g,j*2+1,none⟩ (.slice na l[j].2.length nc)) (.slice (some ⟨g,0,none⟩) k lc) l∧(0<k→(some ⟨g,0,none⟩:Option Addr)=some ⟨g,0,none⟩∧k≤lc∧w.heap.size≤g∧Sg (w8.setCell ⟨g,j*2+1,none⟩ (.slice na l[j].2.length nc)) g l) from
     ⟨⟨box_setg (L14.Boxed.below (L14.Boxed.below c0 bn) b8) g8 (by decide),box_setg (L14.Boxed.below (L14.Boxed.below c1 bn) b8) g8 (by decide)⟩,
      (Below.heap_setCell _ _ _ _ hdg).trans ((b8.block D (Nat.lt_of_lt_of_le (lt_of_block hK) bn.size)).trans ((bn.block D (lt_of_block hK)).trans hK)),hb8.setCell (p:=⟨g,j*2+1,none⟩) hwg _,hs9.ss HLK.out hkc,fun _=>⟨rfl,hkc,hwg,hs9⟩⟩)
    clear hsg hbw hK c0 c1 hm bn hg8 hrn hs9 hb8 ho8 b8
    go_roundw
    case rel=>exact⟨j+1,hlt,by go_num,Lib.hid ⟨H9.out.1,H9.out.2.1,H9.out.2.2.1,H9.out.2.2.2.1,fun h=>⟨trivial,(H9.out.2.2.2.2 h).2⟩⟩⟩
    case measure=>simp [intOf];omega
   ·obtain rfl:j=k:=by omega
    have HI:=Lib.hid (And.intro hK (And.intro hbw hss))
    have f0:=c0.frozen
    have f1:=c1.frozen
    have d0:=c0.cell
    have d1:=c1.cell
    have l0:=c0.lt
    have l1:=c1.lt
    clear hI hK hbw hss hg
    gi_wp2
    have k0:=(c0.set (.slice la j lc)).other (B':=w.heap.size+1) (by omega) (.int .i64 0)
    have k1:=(c1.other (B':=w.heap.size) (by omega) (.slice la j lc)).set (.int .i64 0)
    have s9:=ss_box (ss_box HI.out.2.2 c0 (fun c e=>by cases e) (.slice la j lc)) (c1.other (B':=w.heap.size) (by omega) (.slice la j lc)) (fun c e=>by cases e) (.int .i64 0)
    have hb9:=(HI.out.2.1.setCell (p:=⟨w.heap.size,0,none⟩) (Nat.le_refl _) (.slice la j lc)).setCell (p:=⟨w.heap.size+1,0,none⟩) (Nat.le_succ _) (.int .i64 0)
    have hK9:=((KeepsOthers.setCell wr ⟨w.heap.size,0,none⟩ (.slice la j lc)).trans (KeepsOthers.setCell _ ⟨w.heap.size+1,0,none⟩ (.int .i64 0))).same D _ HI.out.1 rfl
    generalize (wr.setCell ⟨w.heap.size,0,none⟩ _).setCell ⟨w.heap.size+1,0,none⟩ _=E at k0 k1 s9 hb9 hK9 ⊢
    refine⟨by simp,.inl ⟨_,_,rfl,run_takeDeferred hK9,?_⟩⟩
    have q0:=(box_putObj k0 (.deferred none) hK9 rfl).cell
    have q1:=(box_putObj k1 (.deferred none) hK9 rfl).cell
    exact⟨.tuple #[.slice la j lc,.int .i64 0],by simp [results,Tryz.results20,go_sem,q0,q1],.inr ⟨HOK.out,la,lc,rfl,ss_put s9 hK9 rfl⟩,hb9.trans (belowK_b (w:=W0) hz E D _ _ hD hK9 rfl rfl)⟩
 case stop =>
  rintro D pre W hD hpp ⟨⟨c0,c1⟩,hnp,hbw⟩ hK
  have hz:w.heap.size≤W0.heap.size:=Nat.le_trans HW1.out.size HBW.out.size
  gi_wp2
  refine⟨by simp,.inl ⟨_,_,rfl,run_takeDeferred hK,?_⟩⟩
  have k0:=(box_putObj c0 (.deferred none) hK rfl).cell
  have k1:=(box_putObj c1 (.deferred none) hK rfl).cell
  refine⟨.tuple #[.slice none 0 0,.int .i64 19],by simp [results,Tryz.results20,go_sem,k0,k1],.inl ⟨fun h=>hnp ?_,rfl⟩,hbw.trans (belowK_b (w:=W0) hz W D _ _ hD hK rfl rfl)⟩
  obtain⟨r,hr⟩:=hpp
  rw [← HRO.out.1 h,← prt_wr,← hr,List.flatten_append]
  exact List.prefix_append _ _
theorem read_at (a:Option Addr) (n c:Nat) (b:List UInt8) (w:World) (hv:Rw eB w (.slice a n c) b) (hb:n≤1000000) :
  Calls Tryz.prog 20 #[.slice a n c] w (RdP b w):=by
 by_cases h1:rdB b
 ·by_cases h2:chkV (rdT b (nS b))=0
  ·by_cases h3:szL (rdT b (nS b))=n
   ·exact read_go a n c b w hv hb h1 h2 h3
   ·exact read_no3 a n c b w hv hb h1 h2 h3
  ·exact read_no2 a n c b w hv hb h1 h2
 ·exact read_no1 a n c b w hv hb h1
end Go.Proofs.YtohkgdfkklfgmaaGreatDoor.L15
end
section
set_option maxRecDepth 100000
set_option maxHeartbeats 8000000
namespace Go.Proofs.YtohkgdfkklfgmaaGreatDoor.L15
set_option maxRecDepth 100000
open Go.RowKit Go.Shelf L14
attribute [local go_sem] Oper.semAt_some
theorem rget_is (v:Value) (b:List UInt8) (i n V:Nat) (I M:Int) (w:World) (h:Rw eB w v b) (hn:n≤4) (hl:i+n≤b.length) (hb:b.length≤1000000000) (hV:va (sub b i n)=V) (hI:I=(i:Int)) (hM:M=(n:Int)) :
  Calls Tryz.prog 39 #[v,.int .i64 I,.int .i64 M] w fun e w'=>e=.returned (.int .u64 (V:Int))∧w=w':=by
 subst hI hM
 exact rget_at v b i n V w h hn hl hb hV
def FitO (W:World) (B:Nat) (ps:List (Int × Value)) (l:List Sc):Prop:=ps.length=l.length∧∀ j (h1:j<ps.length) (h2:j<l.length),ps[j].1=l[j].1∧W.ownsRow B 5 1 ps[j].2 l[j].2.length (l[j].2.map eB)
theorem FitO.fits {W:World} {B:Nat} {ps:List (Int × Value)} {l:List Sc} (h:FitO W B ps l):Fits W ps l:=⟨h.1,fun j h1 h2=>⟨(h.2 j h1 h2).1,Rw.own (h.2 j h1 h2).2⟩⟩
theorem FitO.nil (W:World) (B:Nat):FitO W B [] []:=⟨rfl,fun j h=>absurd h (by simp)⟩
theorem FitO.map {W W':World} {B:Nat} {ps:List (Int × Value)} {l:List Sc} (h:FitO W B ps l) (hk:∀ v n xs,W.ownsRow B 5 1 v n xs→W'.ownsRow B 5 1 v n xs):FitO W' B ps l:=⟨h.1,fun j h1 h2=>⟨(h.2 j h1 h2).1,hk _ _ _ (h.2 j h1 h2).2⟩⟩
theorem FitO.snoc {w:World} {B:Nat} {ps:List (Int × Value)} {l:List Sc} {k:Int} {v:Value} {s:Sc} (h:FitO w B ps l) (hk:k=s.1) (hv:w.ownsRow B 5 1 v s.2.length (s.2.map eB)):FitO w B (ps++[(k,v)]) (l++[s]):=by
 refine⟨by rw [List.length_append,List.length_append,h.1];rfl,fun j h1 h2=>?_⟩
 by_cases hj:j<ps.length
 ·have hj2:j<l.length:=by rw [← h.1];exact hj
  rw [List.getElem_append_left hj,List.getElem_append_left hj2]
  exact h.2 j hj hj2
 ·have e1:j=ps.length:=by
   rw [List.length_append] at h1
   simp only [List.length_cons,List.length_nil] at h1
   omega
  subst e1
  have e2:ps.length=l.length:=h.1
  rw [List.getElem_append_right (Nat.le_refl _),List.getElem_append_right (by omega)]
  simp only [Nat.sub_self,e2,List.getElem_cons_zero]
  exact⟨hk,hv⟩
def RrP (b:List UInt8) (w:World) (e:Ending) (w':World):Prop :=
 ((¬ rdOk b∧e=.returned (.tuple #[.slice none 0 0,.bool false]))∨(rdOk b∧∃ a c,e=.returned (.tuple #[.slice a (nS b) c,.bool true])∧Ss w' (.slice a (nS b) c) (rdT b (nS b))))∧Below w.heap.size w w'
theorem rread_no (a:Option Addr) (n c:Nat) (b:List UInt8) (w:World) (hv:Rw eB w (.slice a n c) b) (hb:n≤1000000) (hno:n<16∨(16≤n∧(16<nS b∨n<16+12*nS b))) :
  Calls Tryz.prog 37 #[.slice a n c] w (RrP b w):=by
 have hn:=hv.at.1
 have hr:¬ rdOk b:=fun h=>by
  have h1:=h.1.1
  rcases hno with h2|⟨-,h2|h2⟩
  ·omega
  ·have:=(chk0.1 h.2.1).1.1
   rw [rdT_len] at this
   omega
  ·have h3:=(h.1.2 (nS b-1) (by omega)).1
   omega
 have HR:=Lib.hid hr
 by_cases h16:n<16
 ·have h16':(n:Int)<16:=by omega
  clear hr hno hv hn h16
  go_enter Tryz.func37,Tryz.ntmps37
  go_wp2
  refine bodyPost_ret (v:=.tuple #[.slice none 0 0,.bool false]) (by simp [results,Tryz.results37,go_sem]) rfl ⟨.inl ⟨HR.out,rfl⟩,Below.refl _ _⟩
 ·have h16':¬ (n:Int)<16:=by omega
  obtain⟨k,hk⟩:∃ k,nS b=k:=⟨_,rfl⟩
  have hkb:k<65536:=by
   rw [← hk]
   have:=va_lt (sub b 6 2)
   rw [sub_len _ _ _ (by omega)] at this
   exact this
  have HG:=Lib.hid (rget_is (.slice a n c) b 6 2 k 6 2 w hv (by omega) (by omega) (by omega) hk rfl rfl)
  rw [hk] at hno
  have hwr:IntKind.i64.wrap (k:Int)=(k:Int):=by rw [IntKind.wrap_i64];omega
  by_cases h17:16<k
  ·have h17':(16:Int)<(k:Int):=by omega
   clear hr hno hv hn h16 hk h17
   go_enter Tryz.func37,Tryz.ntmps37
   go_wp2_with (go_at_call 39;((with_reducible refine (HG.out).mono ?_);rintro e w1 ⟨rfl,rfl⟩))
   refine bodyPost_ret (v:=.tuple #[.slice none 0 0,.bool false]) (by simp [results,Tryz.results37,go_sem]) rfl ⟨.inl ⟨HR.out,rfl⟩,Below.refl _ _⟩
  ·have h17':¬ (16:Int)<(k:Int):=by omega
   have h18:(n:Int)<16+12*(k:Int):=by omega
   clear hr hno hv hn h16 hk h17
   go_enter Tryz.func37,Tryz.ntmps37
   go_wp2_with (go_at_call 39;((with_reducible refine (HG.out).mono ?_);rintro e w1 ⟨rfl,rfl⟩))
   refine bodyPost_ret (v:=.tuple #[.slice none 0 0,.bool false]) (by simp [results,Tryz.results37,go_sem]) rfl ⟨.inl ⟨HR.out,rfl⟩,Below.refl _ _⟩
theorem own_far {W W':World} {B e:TypeId} {size n g:Nat} {v:Value} {xs:List Value} (h:W.ownsRow B e size v n xs) (hg:W.grownBy W' (some g)) (hl:∀ k,v.ownBlock=some k→k≠g):W'.ownsRow B e size v n xs:=by
 refine h.kept hg ?_
 cases ho:v.ownBlock with
 | none=>exact .inl rfl
 | some k=>exact .inr fun e=>hl k ho (by simpa using e)
theorem own_apart {W W':World} {B B' eA eB sA sB n m:Nat} {vA vB:Value} {xs ys:List Value} (hA:W.ownsRow B eA sA vA n xs) (hB:W.ownsRow B' eB sB vB m ys) (he:eA≠eB) (hg:W.grownBy W' vB.ownBlock):W'.ownsRow B eA sA vA n xs:=by
 refine hA.kept hg ?_
 cases hv:vA.ownBlock with
 | none=>exact .inl rfl
 | some g =>
  refine .inr fun e=>?_
  obtain⟨c1,h1⟩:=own_ty hA hv
  obtain⟨c2,h2⟩:=own_ty hB e.symm
  rw [h1] at h2
  cases h2
  exact he rfl
theorem rread_yes (a:Option Addr) (n c:Nat) (b:List UInt8) (w:World) (hv:Rw eB w (.slice a n c) b) (hb:n≤1000000) (h16:16≤n) (hkk:nS b≤16∧16+12*nS b≤n) :
  Calls Tryz.prog 37 #[.slice a n c] w (RrP b w):=by
 obtain⟨i0,hi,hz0,hz1,hz2⟩:=info_parts infoSr
 obtain⟨hn,hc,-,-⟩:=hv.at
 obtain⟨k,hk⟩:∃ k,nS b=k:=⟨_,rfl⟩
 rw [hk] at hkk
 obtain⟨hk16,hkn⟩:=hkk
 have HG:=Lib.hid (rget_is (.slice a n c) b 6 2 k 6 2 w hv (by omega) (by omega) (by omega) hk rfl rfl)
 have h16':¬ (n:Int)<16:=by omega
 have h17':¬ (16:Int)<(k:Int):=by omega
 have h18':¬ (n:Int)<16+12*(k:Int):=by omega
 have hwr:IntKind.i64.wrap (k:Int)=(k:Int):=by rw [IntKind.wrap_i64];omega
 unfold RrP
 rw [hk]
 have HV:=Lib.hid hv
 have HN:=Lib.hid hn
 have HK:=Lib.hid hk
 clear hv hn hk
 go_enter Tryz.func37,Tryz.ntmps37
 go_wp2_with (go_at_call 39;((with_reducible refine (HG.out).mono ?_);rintro e w1 ⟨rfl,rfl⟩))
 clear HG
 go_loopw [5,6,7,8,9] (fun lv q _ _ _ wr=>∃ (i:Nat) (ps:List (Int × Value)),i≤k∧q=.int .i64 (i:Int)∧Below w.heap.size w wr∧wr.ownsRow w.heap.size 75 2 lv i (fl ps)∧Hid (FitO wr w.heap.size ps (rdT b i)∧∀ j,j<i→okR b j)) (fun _ q _ _ _ _=>k-(intOf q).toNat)
 case atStart=>exact⟨0,[],Nat.zero_le _,rfl,Below.refl _ _,World.ownsRow_nil _ _ _ _,Lib.hid ⟨FitO.nil _ _,fun j h=>absurd h (by omega)⟩⟩
 case round =>
  obtain⟨i,ps,hi',rfl,hB,hown,hI⟩:=hrel
  obtain⟨oa,oc,rfl⟩:=owns_slice hown
  by_cases hlt:i<k
  ·have hn2:=HN.out
   have hvr:=HV.out.below hB
   obtain⟨K,hK⟩:∃ K,kiN b i=K:=⟨_,rfl⟩
   obtain⟨A,hA⟩:∃ A,atN b i=A:=⟨_,rfl⟩
   obtain⟨L,hL⟩:∃ L,lnN b i=L:=⟨_,rfl⟩
   have b4:∀ j,j+4≤n→va (sub b j 4)<4294967296:=fun j hj=>by
    have:=va_lt (sub b j 4)
    rw [sub_len _ _ _ (by omega)] at this
    exact this
   have hAb:A<4294967296:=by rw [← hA];exact b4 _ (by omega)
   have hLb:L<4294967296:=by rw [← hL];exact b4 _ (by omega)
   have hKb:K<4294967296:=by rw [← hK];exact b4 _ (by omega)
   have G0:=Lib.hid (fun W (h:Below w.heap.size w W)=>rget_is (.slice a n c) b (16+12*i) 4 K (16+12*(i:Int)) 4 W (HV.out.below h) (by omega) (by omega) (by omega) hK (by omega) rfl)
   have G4:=Lib.hid (fun W (h:Below w.heap.size w W)=>rget_is (.slice a n c) b (20+12*i) 4 A (20+12*(i:Int)) 4 W (HV.out.below h) (by omega) (by omega) (by omega) hA (by omega) rfl)
   have G8:=Lib.hid (fun W (h:Below w.heap.size w W)=>rget_is (.slice a n c) b (24+12*i) 4 L (24+12*(i:Int)) 4 W (HV.out.below h) (by omega) (by omega) (by omega) hL (by omega) rfl)
   have wK:IntKind.i64.wrap (K:Int)=(K:Int):=by rw [IntKind.wrap_i64];omega
   have wA:IntKind.i64.wrap (A:Int)=(A:Int):=by rw [IntKind.wrap_i64];omega
   have wL:IntKind.i64.wrap (L:Int)=(L:Int):=by rw [IntKind.wrap_i64];omega
   by_cases hC:n<A+L
   ·have HNO:=Lib.hid (show ¬ rdOk b from fun h=>by
     have h1:=(h.1.2 i (by rw [HK.out];exact hlt)).2
     omega)
    have hC':(n:Int)<(A:Int)+(L:Int):=by omega
    have HBB:=Lib.hid hB
    clear hI hown hvr hK hA hL b4 hn2
    go_wp2_with (first
     | (go_at_call 39;((with_reducible refine (G0.out _ HBB.out).mono ?_);rintro e w1 ⟨rfl,rfl⟩))
     | (go_at_call 39;((with_reducible refine (G4.out _ HBB.out).mono ?_);rintro e w1 ⟨rfl,rfl⟩))
     | (go_at_call 39;((with_reducible refine (G8.out _ HBB.out).mono ?_);rintro e w1 ⟨rfl,rfl⟩)))
    refine bodyPost_ret (v:=.tuple #[.slice none 0 0,.bool false]) (by simp [results,Tryz.results37,go_sem]) rfl ⟨.inl ⟨HNO.out,rfl⟩,HBB.out⟩
   ·have hC':¬ (n:Int)<(A:Int)+(L:Int):=by omega
    have HBB:=Lib.hid hB
    have hdr:=cut_rw hvr A L (by omega)
    have hhs:=fun W=>run_part und8 size8 a n c A (A+L) (by omega) (by omega) hc W
    rw [show A+L-A=L by omega] at hhs
    have e1:((A+L:Nat):Int)=(A:Int)+(L:Int):=by omega
    rw [e1] at hhs
    have hhs':∀ W,(Instr.slice 23 (.slice a n c) (some (.int .i64 (A:Int))) (some (.int .i64 ((A:Int)+(L:Int)))) none).run Tryz.prog W=.ok (cutV a c A L) W:=hhs
    obtain⟨da,dc,hde⟩:=cut_form a c A L
    rw [hde] at hdr
    simp only [hde] at hhs'
    have hrd:rdT b (i+1)=rdT b i++[((K:Int),sub b A L)]:=by rw [rdT_snoc,rd1,hK,hA,hL]
    have HRD:=Lib.hid hrd
    have HOK:=Lib.hid (show okR b i from ⟨by omega,by rw [hA,hL];omega⟩)
    have HDR:=Lib.hid (hdr.below (bnew wr (.cells #[] 5)))
    have hdl:(sub b A L).length=L:=sub_len _ _ _ (by omega)
    have HDL:=Lib.hid hdl
    have hL2:L≤n:=by omega
    have hown1:=hown.alloc (.cells #[] 5)
    have HI:=Lib.hid hI.out
    have hwsz:=hB.size
    clear hI hvr hK hA hL b4 hn2 hdr hhs e1 hde hrd hdl
    go_wp2_with (first
     | (go_at_call 39;((with_reducible refine (G0.out _ HBB.out).mono ?_);rintro e w1 ⟨rfl,rfl⟩))
     | (go_at_call 39;((with_reducible refine (G4.out _ HBB.out).mono ?_);rintro e w1 ⟨rfl,rfl⟩))
     | (go_at_call 39;((with_reducible refine (G8.out _ HBB.out).mono ?_);rintro e w1 ⟨rfl,rfl⟩))
     | (at_builtin;refine wpList_append_rw rfl _ _ rfl w.heap.size _ 0 [] rfl (World.ownsRow_made wr #[] 0 hwsz (Nat.zero_le _) rfl) _ (sub b A L) rfl HDR.out (by have:=HDL.out;omega) (by simp;omega) ?_;intro v' w5 ho5 hg5;rw [Nat.zero_add,HDL.out,List.nil_append] at ho5;obtain⟨na,nc,rfl⟩:=owns_slice ho5;have hg5':(wr.alloc (.cells #[] 5)).grownBy w5 (some wr.heap.size):=hg5;have B5:=(HBB.out.alloc hwsz (.cells #[] 5)).grown hg5' (by simp;omega) (fun q e=>by (cases e;exact hwsz));have hown5:=own_far hown1 hg5' (fun q e=>by (have:=(World.ownsRow.lt hown q e).2;omega));have F5:=HI.out.1.map (fun v n xs h=>own_far (h.alloc (.cells #[] 5)) hg5' (fun q e=>by (have:=(World.ownsRow.lt h q e).2;omega)));have z5:=B5.size)
     | (at_builtin;refine wpList_append_own _ rfl _ _ 76 rfl w.heap.size 75 i0 (.agg #[.int .i64 0,.slice none 0 0]) 2 32 Tryz.underlying76 hi hz0 hz1 hz2 rfl (by decide) _ i _ rfl (hown5.alloc _) ⟨w5.heap.size,0,none⟩ 1 1 [.int .i64 (K:Int),.slice na L nc] rfl rfl (World.news_of_block (cs:=#[.int .i64 (K:Int),.slice na L nc]) (t:=75) (fr:=(0,0)) (heap_alloc_last w5 _)) (by simp [Value.oneCell']) (by unfold maxLen;omega) (by omega) (by simp;omega) ?_;intro v6 w6 hown6 hgrow6 _;have B6:=(B5.alloc z5 _).grown hgrow6 (by simp;omega) (own_base hown5)))
    have hg6:(w5.alloc (.cells #[.int .i64 (K:Int),.slice na L nc] 75)).grownBy w6 (Value.slice oa i oc).ownBlock:=hgrow6
    have hown7:=hown5.alloc (.cells #[.int .i64 (K:Int),.slice na L nc] 75)
    have F6:FitO w6 w.heap.size (ps++[((K:Int),.slice na L nc)]) (rdT b (i+1)):=by
     rw [HRD.out]
     refine FitO.snoc (F5.map fun v n xs h=>own_apart (h.alloc _) hown7 (by decide) hg6) rfl ?_
     have:=own_apart (ho5.alloc (.cells #[.int .i64 (K:Int),.slice na L nc] 75)) hown7 (by decide) hg6
     show w6.ownsRow w.heap.size 5 1 (.slice na L nc) (sub b A L).length _
     rw [HDL.out]
     exact this
    have HF:=Lib.hid (show FitO w6 w.heap.size (ps++[((K:Int),.slice na L nc)]) (rdT b (i+1))∧∀ j,j<i+1→okR b j from ⟨F6,fun j hj=>by
     rcases Nat.lt_succ_iff_lt_or_eq.1 hj with h|rfl
     ·exact HI.out.2 j h
     ·exact HOK.out⟩)
    clear F5 F6 ho5 hg5 hg5' hown5 B5 hown1 hg6 hown7
    go_roundw
    case rel=>exact⟨i+1,ps++[((K:Int),.slice na L nc)],hlt,by go_num,B6,by rw [fl_snoc];exact hown6,HF⟩
    case measure=>simp [intOf];omega
  ·obtain rfl:i=k:=by omega
   have hfo:=hI.out
   have hrd:rdB b:=⟨by rw [HN.out];exact h16,fun j hj=>hfo.2 j (by rw [HK.out] at hj;exact hj)⟩
   obtain⟨l,hl⟩:∃ l,rdT b i=l:=⟨_,rfl⟩
   have hli:l.length=i:=by rw [← hl,rdT_len]
   rw [hl] at hfo
   have hss:=own_ss hli hown hfo.1.fits
   have hro:rdOk b↔chkV l=0∧L15.wr l=b:=⟨fun h=>by
    have:=h.2
    rw [HK.out,hl] at this
    exact this,fun h=>⟨hrd,by rw [HK.out,hl];exact h⟩⟩
   have hsm:Sml l:=by
    have:=((rdT_sml b (by rw [HN.out];exact hb)).resolve_right (fun h=>h hrd)).1
    rw [HK.out,hl] at this
    exact this
   have HL:=Lib.hid hl
   obtain⟨R,hR⟩:∃ R,chkV l=R:=⟨_,rfl⟩
   have HC:=Lib.hid (rcheck_at (.slice oa i oc) l R wr hss hsm hR)
   have HSS:=Lib.hid hss
   have HBw:=Lib.hid hB
   have HRO:=Lib.hid hro
   by_cases h0:R=0
   ·subst h0
    have hf:=fw_of hsm hR
    have ha:=(chk0.1 hR).2
    obtain⟨S,hS⟩:∃ S,szL l=S:=⟨_,rfl⟩
    have hSb:=hf.sz
    rw [hS] at hSb
    have HW:=Lib.hid (fun q=>rwrite_at (.slice oa i oc) l (wr.drewN q) (hss.below (bdN (Below.refl _ _) q)) hf ha S hS)
    have HWL:=Lib.hid (show (L15.wr l).length=S by rw [wr_len,hS])
    have HV2:=Lib.hid (fun W (h:Below w.heap.size w W)=>HV.out.below h)
    by_cases he:L15.wr l=b
    ·have HS:=Lib.hid (fun W v (h:Rw eB W v (L15.wr l)) (h2:Rw eB W (.slice a n c) b)=>rsameB_at v (.slice a n c) (L15.wr l) b true W (by rw [HWL.out];omega) (by rw [HN.out];omega) h h2 (by simpa using he))
     have HOK:=Lib.hid (HRO.out.2 ⟨hR,he⟩)
     clear hown hB hI hfo hrd hl hli hss hro hsm hR hf ha hS he
     go_wp2_with (first
      | (go_at_call 71;((with_reducible refine (HC.out).mono ?_);rintro e w1 ⟨rfl,q,rfl⟩))
      | (go_at_call 34;((with_reducible refine (HW.out _).mono ?_);rintro e w2 ⟨⟨a2,c2,rfl,o2⟩,b2,z2⟩;have B2:=(bdN HBw.out q).trans (b2.mono HBw.out.size);have r2:Rw eB w2 (.slice a2 S c2) (L15.wr l):=(by have e:=HWL.out;subst e;exact Rw.own o2)))
      | (go_at_call 14;((with_reducible refine (HS.out _ _ r2 (HV2.out _ B2)).mono ?_);rintro e w3 ⟨rfl,q3,rfl⟩)))
     refine bodyPost_ret (v:=.tuple #[.slice oa i oc,.bool true]) (by simp [results,Tryz.results37,go_sem]) rfl ⟨.inr ⟨HOK.out,oa,oc,rfl,?_⟩,bdN B2 _⟩
     rw [HL.out]
     exact HSS.out.below (bdN ((bdN (Below.refl _ _) q).trans b2) q3)
    ·have HS:=Lib.hid (fun W v (h:Rw eB W v (L15.wr l)) (h2:Rw eB W (.slice a n c) b)=>rsameB_at v (.slice a n c) (L15.wr l) b false W (by rw [HWL.out];omega) (by rw [HN.out];omega) h h2 (by simpa using he))
     have HNO:=Lib.hid (show ¬ rdOk b from fun h=>he (HRO.out.1 h).2)
     clear hown hB hI hfo hrd hl hli hss hro hsm hR hf ha hS he
     go_wp2_with (first
      | (go_at_call 71;((with_reducible refine (HC.out).mono ?_);rintro e w1 ⟨rfl,q,rfl⟩))
      | (go_at_call 34;((with_reducible refine (HW.out _).mono ?_);rintro e w2 ⟨⟨a2,c2,rfl,o2⟩,b2,z2⟩;have B2:=(bdN HBw.out q).trans (b2.mono HBw.out.size);have r2:Rw eB w2 (.slice a2 S c2) (L15.wr l):=(by have e:=HWL.out;subst e;exact Rw.own o2)))
      | (go_at_call 14;((with_reducible refine (HS.out _ _ r2 (HV2.out _ B2)).mono ?_);rintro e w3 ⟨rfl,q3,rfl⟩)))
     refine bodyPost_ret (v:=.tuple #[.slice none 0 0,.bool false]) (by simp [results,Tryz.results37,go_sem]) rfl ⟨.inl ⟨HNO.out,rfl⟩,bdN B2 _⟩
   ·have HNO:=Lib.hid (show ¬ rdOk b from fun h=>h0 (by rw [← hR];exact (HRO.out.1 h).1))
    have hRb:(R != 0)=true:=by simpa using h0
    clear hown hB hI hfo hrd hl hli hss hro hsm hR h0
    go_wp2_with (go_at_call 71;((with_reducible refine (HC.out).mono ?_);rintro e w1 ⟨rfl,q,rfl⟩))
    refine bodyPost_ret (v:=.tuple #[.slice none 0 0,.bool false]) (by simp [results,Tryz.results37,go_sem]) rfl ⟨.inl ⟨HNO.out,rfl⟩,bdN HBw.out _⟩
theorem rread_at (a:Option Addr) (n c:Nat) (b:List UInt8) (w:World) (hv:Rw eB w (.slice a n c) b) (hb:n≤1000000) :
  Calls Tryz.prog 37 #[.slice a n c] w (RrP b w):=by
 by_cases h1:16≤n
 ·by_cases h2:nS b≤16∧16+12*nS b≤n
  ·exact rread_yes a n c b w hv hb h1 h2
  ·exact rread_no a n c b w hv hb (.inr ⟨h1,by omega⟩)
 ·exact rread_no a n c b w hv hb (.inl (by omega))
end Go.Proofs.YtohkgdfkklfgmaaGreatDoor.L15
end
