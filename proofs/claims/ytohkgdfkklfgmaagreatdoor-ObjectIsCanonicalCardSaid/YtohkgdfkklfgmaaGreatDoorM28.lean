/- Lemmas and walks of L12Rrf, L12Lp: what each theorem states; conditions stand in each theorem. -/
import Derived.Test.YtohkgdfkklfgmaaGreatDoorM27
section
set_option maxRecDepth 100000
set_option maxHeartbeats 4000000
namespace Go.Proofs.YtohkgdfkklfgmaaGreatDoor.L12
open Go.RowKit Go.Shelf L3 L4
attribute [local go_sem] Oper.semAt_some
theorem keepM {w W W':World} {k b p:Nat} {x y:Value} {z:ByteArray} (hb:Below W.heap.size W W') (h:Below w.heap.size w W∧W.cell? ⟨k,0,none⟩=some x∧W.cell? ⟨k,1,none⟩=some y∧W.cell? ⟨b,p,none⟩=some (.string z)) :
  Below w.heap.size w W'∧W'.cell? ⟨k,0,none⟩=some x∧W'.cell? ⟨k,1,none⟩=some y∧W'.cell? ⟨b,p,none⟩=some (.string z):=by
 obtain⟨h0,h1,h2,h3⟩:=h
 exact⟨L2.bch h0 hb,cell_up hb h1,cell_up hb h2,cell_up hb h3⟩
theorem rrefs_at (vm vs:Value) (p:L10.Pg) (w:World) (hp:L10.PgAt w vm vs p) (hs:L10.Sml p) :
  Calls Tryz.prog 47 #[.agg #[vm,vs]] w fun e w'=>RfP w p e w':=by
 obtain⟨i0,hi,hz0,hz1,hz2⟩:=info_parts infoR
 obtain⟨n1,hn1⟩:∃ n,p.maps.length=n:=⟨_,rfl⟩
 obtain⟨n2,hn2⟩:∃ n,p.stmts.length=n:=⟨_,rfl⟩
 obtain⟨a1,c1,rfl,-⟩:=L10.df_form hn1 hp.1
 obtain⟨a2,c2,rfl,hc⟩:=L10.sm_form hn2 hp.2
 have hm2:=hs.stmts
 rw [hn2] at hm2
 have HC:=Lib.hid hc
 have HN:=Lib.hid hn2
 have HB:=Lib.hid (L8.bnew w (.cells #[.slice a1 n1 c1,.slice a2 n2 c2] 50))
 have K0:=Lib.hid (heap_alloc_last w (.cells #[.slice a1 n1 c1,.slice a2 n2 c2] 50))
 have HCo:=Lib.hid (fun (W:World) (hb:Below w.heap.size w W)=>rcode_at (.slice a1 n1 c1) (.slice a2 n2 c2) p W (hp.below hb) hs)
 have HMp:=Lib.hid (fun (x:ByteArray) (W:World) (hb:Below w.heap.size w W)=>L10.rmap_at (.slice a1 n1 c1) (.slice a2 n2 c2) p x W (hp.below hb) hs)
 unfold CoP at HCo
 rw [hn2] at HCo
 unfold RfP
 rw [hn2]
 clear hp hs hn1 hn2 hc
 go_enter Tryz.func47,Tryz.ntmps47
 go_upto_region 1 with (fail)
 obtain⟨x1,x2⟩:=L10.cells2p K0.out
 have hlt1:=World.block_lt_of_cell? _ _ x1
 simp only at hlt1
 obtain⟨kb,hkb⟩:∃ kb,w.heap.size=kb:=⟨_,rfl⟩
 have HKB:=Lib.hid hkb
 rw [hkb] at K0 x1 x2 hlt1 ⊢
 clear hkb
 generalize w.alloc (.cells #[.slice a1 n1 c1,.slice a2 n2 c2] 50)=W0 at K0 x1 x2 hlt1 HB ⊢
 go_wp2_with (go_at_call 80;((with_reducible refine (HCo.out _ HB.out).mono ?_);rintro e w2 ⟨ca,cc,rfl,hci,b1⟩))
 have HB2:=Lib.hid (L2.bch HB.out b1)
 have K2:=Lib.hid (L8.row_up K0.out b1)
 have HCI:=Lib.hid hci
 obtain⟨ca',cc',hcv,hcx⟩:=is_form (n:=n2) (by rw [cdL_len];exact HN.out) hci
 cases hcv
 have HCX:=Lib.hid hcx
 clear x1 x2 hlt1 hci b1 K0 hcx
 have HI:Hid (w2.ownsRow w2.heap.size 59 2 (.slice none 0 0) 0 (rlC (rfT p 0))∧Below w2.heap.size w2 w2∧(rfT p 0).length=0):=Lib.hid ⟨World.ownsRow_nil _ _ _ _,Below.refl _ _,rfl⟩
 go_loopw [3,5] (fun vn i wr=>∃ k m:Nat,k≤n2∧m≤k∧i=.int .i64 (k:Int)∧Hid (wr.ownsRow w2.heap.size 59 2 vn m (rlC (rfT p k))∧Below w2.heap.size w2 wr∧(rfT p k).length=m)) (fun _ i _=>n2-(intOf i).toNat)
 case atStart=>exact⟨0,0,Nat.zero_le _,Nat.le_refl _,rfl,HI⟩
 case round =>
  obtain⟨k,m,hk,hmk,rfl,hI⟩:=hrel
  clear HI
  by_cases hlt:k<n2
  ·have hkl:k<p.stmts.length:=by rw [HN.out];exact hlt
   obtain⟨x1,x2⟩:=L10.cells2p (L8.row_up K2.out hI.out.2.1)
   have hlt1:=World.block_lt_of_cell? _ _ x1
   simp only at hlt1
   obtain⟨b,o,rfl,hbl,hc⟩:=HC.out (by omega)
   obtain⟨lv,hst,hx⟩:=hc k hkl
   have hBw:=L2.bch HB2.out hI.out.2.1
   have y8:=cell_up hBw (hx 8 _ rfl)
   have hw1:=World.block_lt_of_cell? _ _ y8
   simp only at hw1
   obtain⟨lb,lo,rfl,hlb,hcx⟩:=HCX.out (by omega)
   have q0:=(hcx k (by rw [cdL_len];exact hkl)).1
   rw [cdL_get p.stmts k hkl] at q0
   have q0:=cell_up hI.out.2.1 q0
   have hsn:=rfT_snoc p k hkl
   have HS:=Lib.hid (fun (W:World) (hb:Below w2.heap.size w2 W)=>rstart_at (.slice (some ⟨lb,lo,none⟩) n2 cc) (cdL p.stmts) k (stN (cdL p.stmts) k) W (HCI.out.below hb) (by rw [cdL_len,HN.out];omega) (by rw [cdL_len,HN.out];omega) rfl)
   obtain⟨st,hst2⟩:∃ st,stN (cdL p.stmts) k=st:=⟨_,rfl⟩
   rw [hst2] at hsn HS
   obtain⟨s,hs⟩:∃ s,p.stmts[k]=s:=⟨_,rfl⟩
   rw [hs] at y8 hsn q0
   obtain⟨labs,⟨op,reg,dst,src,off,imm⟩,tg,mp⟩:=s
   simp only at hsn q0 y8
   have hkI:(k:Int)<(n2:Int):=by omega
   have HBl:=Lib.hid hI.out.2.1
   have HBw:=Lib.hid hBw
   have hown:=hI.out.1
   have HLn:=Lib.hid hI.out.2.2
   obtain⟨f,hf⟩:∃ f,frm (ix op)=f:=⟨_,rfl⟩
   obtain⟨R,hR⟩:∃ R,L10.mpI 0 p.maps mp=R:=⟨_,rfl⟩
   rw [hf,hR] at hsn
   have HF:=Lib.hid (fun W=>rform_at op f W hf)
   have HM:=Lib.hid (fun (W:World) (hb:Below wr.heap.size wr W)=>HMp.out mp W (L2.bch HBw.out hb))
   rw [hR] at HM
   have hRg:=mpI_ge p.maps 0 mp
   rw [hR] at hRg
   have hown2:=Lib.hid hown
   have HSN:=Lib.hid hsn
   have HQ:=Lib.hid q0
   have Y:=And.intro (Below.refl wr.heap.size wr) (And.intro x1 (And.intro x2 y8))
   clear hx hc hst hst2 hs hI hBw hcx hf hR hsn hown q0
   go_upto_region 6 with (fail)
   go_region_held3 (fun W=>Below wr.heap.size wr W∧W.cell? ⟨kb,0,none⟩=some (.slice a1 n1 c1)∧W.cell? ⟨kb,1,none⟩=some (.slice (some ⟨b,o,none⟩) n2 c2)∧W.cell? ⟨b,o+k*9+8,none⟩=some (.string mp))
    (first|exact keepM (Below.refl _ _).drew Y|exact keepM hb9 (keepM (Below.refl _ _).drew Y)|exact keepM hb9 (by assumption)|assumption)
    (first|(go_at_call 85;((with_reducible refine (HM.out _ (And.left (by assumption))).mono ?_);rintro e w9 ⟨rfl,hb9⟩))|(go_at_call 85;((with_reducible refine (HM.out _ (Below.refl _ _).drew).mono ?_);rintro e w9 ⟨rfl,hb9⟩)))
   all_goals
    rename_i hh
    have q0:=cell_up hh.1 HQ.out
    have hown5:=L8.own_below hown2.out hh.1
    have HB9:=Lib.hid (L2.bch HBl.out hh.1)
    have hs1:=HB9.out.size
    clear hh Y
    by_cases hf:f=11
    ·subst hf
     by_cases hr:0≤R
     ·have hsn:=HSN.out
      rw [if_pos ⟨by trivial,hr⟩] at hsn
      have HSN2:=Lib.hid hsn
      clear hsn HSN
      go_wp2_with (first|(go_at_call 86;((with_reducible refine (HF.out _).mono ?_);rintro e w4 ⟨rfl,rfl⟩))|(go_at_call 82;((with_reducible refine (HS.out _ HB9.out).mono ?_);rintro e w4 ⟨rfl,rfl⟩))|(at_builtin;refine wpList_append_own _ rfl _ _ 24 rfl w2.heap.size 59 i0 (.agg #[.int .i64 0,.int .i64 0]) 2 16 Tryz.underlying24 hi hz0 hz1 hz2 rfl (by decide) _ m _ rfl (hown5.alloc _) ⟨w9.heap.size,0,none⟩ 1 1 [.int .i64 (st:Int),.int .i64 R] rfl rfl (World.news_of_block (cs:=#[.int .i64 (st:Int),.int .i64 R]) (t:=59) (fr:=(0,0)) (heap_alloc_last w9 _)) (by simp [Value.oneCell']) (by unfold maxLen;omega) (by omega) (by simp;omega) ?_;intro v' w5 hown6 hgrow6 _))
      go_roundw
      case rel =>
       refine⟨k+1,m+1,by omega,by omega,by go_num,Lib.hid ⟨?_,?_,?_⟩⟩
       ·rw [HSN2.out,rlC_snoc];exact hown6
       ·exact (HB9.out.alloc hs1 _).grown hgrow6 (by simp;omega) (L8.own_base hown5)
       ·rw [HSN2.out,List.length_append,HLn.out];rfl
      case measure=>simp [intOf];omega
     ·have hsn:=HSN.out
      rw [if_neg (fun h=>hr h.2),List.append_nil] at hsn
      have HX:=Lib.hid (And.intro hown5 HB9.out)
      have HSN2:=Lib.hid hsn
      clear hsn HSN hown5
      go_wp2_with (first|(go_at_call 86;((with_reducible refine (HF.out _).mono ?_);rintro e w4 ⟨rfl,rfl⟩)))
      go_roundw
      case rel=>exact⟨k+1,m,by omega,by omega,by go_num,Lib.hid ⟨by rw [HSN2.out];exact HX.out.1,HX.out.2,by rw [HSN2.out];exact HLn.out⟩⟩
      case measure=>simp [intOf];omega
    ·have hf2:(f==11)=false:=by simpa using hf
     have hsn:=HSN.out
     rw [if_neg (fun h=>hf h.1),List.append_nil] at hsn
     have HX:=Lib.hid (And.intro hown5 HB9.out)
     have HSN2:=Lib.hid hsn
     clear hsn HSN hown5
     go_wp2_with (first|(go_at_call 86;((with_reducible refine (HF.out _).mono ?_);rintro e w4 ⟨rfl,rfl⟩)))
     go_roundw
     case rel=>exact⟨k+1,m,by omega,by omega,by go_num,Lib.hid ⟨by rw [HSN2.out];exact HX.out.1,HX.out.2,by rw [HSN2.out];exact HLn.out⟩⟩
     case measure=>simp [intOf];omega
  ·obtain rfl:k=n2:=by omega
   have hJ:=hI.out
   obtain⟨va,vc,rfl⟩:=owns_slice hJ.1
   have HJ2:=Lib.hid hJ
   clear hI hJ
   go_wp2
   go_ret
   have hJ:=HJ2.out
   refine⟨_,rfl,?_,L2.bch HB2.out hJ.2.1⟩
   rw [hJ.2.2]
   exact own_weak hJ.1 (by have:=HB2.out.size;have:=HKB.out;omega)
end Go.Proofs.YtohkgdfkklfgmaaGreatDoor.L12
end
section
namespace Go.Proofs.YtohkgdfkklfgmaaGreatDoor.L12
open Go.RowKit Go.Shelf L3 L4
attribute [local go_sem] Oper.semAt_some
def RlAt (w:World) (v:Value) (l:List (Nat × Int)):Prop :=
 (∃ b o cap,v=.slice (some ⟨b,o,none⟩) l.length cap∧b<w.heap.size∧∀ j,(h:j<l.length)→w.cell? ⟨b,o+j*2,none⟩=some (.int .i64 (l[j].1:Int))∧w.cell? ⟨b,o+j*2+1,none⟩=some (.int .i64 l[j].2))∨(l=[]∧∃ a cap,v=.slice a 0 cap)
theorem RlAt.below {w w':World} {v:Value} {l:List (Nat × Int)} (h:RlAt w v l) (hb:Below w.heap.size w w'):RlAt w' v l:=by
 rcases h with ⟨b,o,cap,rfl,hlt,hc⟩|h
 ·exact .inl ⟨b,o,cap,rfl,Nat.lt_of_lt_of_le hlt hb.size,fun j hj=>⟨cell_up hb (hc j hj).1,cell_up hb (hc j hj).2⟩⟩
 ·exact .inr h
theorem rlC_get:∀ (l:List (Nat × Int)) (j:Nat) (h:j<l.length),(rlC l)[j*2]?=some (.int .i64 (l[j].1:Int))∧(rlC l)[j*2+1]?=some (.int .i64 l[j].2)
 | x::r,0,_=>by simp [rlC,rlL]
 | x::r,j+1,h=>by
  have:=rlC_get r j (by simpa using h)
  simp only [rlC,List.flatMap_cons] at this ⊢
  rw [List.getElem?_append_right (by simp [rlL];omega),List.getElem?_append_right (by simp [rlL];omega)]
  rw [show (j+1)*2-(rlL x).length=j*2 by simp [rlL];omega,show (j+1)*2+1-(rlL x).length=j*2+1 by simp [rlL];omega]
  exact this
theorem own_rl {W:World} {B e:TypeId} {v:Value} {xs:List (Nat × Int)} (h:W.ownsRow B e 2 v xs.length (rlC xs)):RlAt W v xs:=by
 rcases h.2 with ⟨rfl,h0⟩|⟨g,cap,cur,rfl,_,hh,_⟩
 ·exact .inr ⟨List.eq_nil_of_length_eq_zero h0,none,0,rfl⟩
 ·refine .inl ⟨g,0,cap,rfl,lt_of_block hh,fun j hj=>?_⟩
  have k1:=h.cells (g:=g) rfl (j*2) _ (rlC_get xs j hj).1
  have k2:=h.cells (g:=g) rfl (j*2+1) _ (rlC_get xs j hj).2
  rw [L8.add0] at k1 k2
  rw [Nat.zero_add]
  exact⟨k1,k2⟩
theorem rfT_len (p:L10.Pg):∀ k,(rfT p k).length≤k:=by
 intro k
 induction k with
 | zero=>simp [rfT,rfL]
 | succ k ih =>
  by_cases h:k<p.stmts.length
  ·rw [rfT_snoc p k h,List.length_append]
   split <;> simp <;> omega
  ·have:rfT p (k+1)=rfT p k:=by
    unfold rfT
    rw [List.take_of_length_le (by omega),List.take_of_length_le (by omega)]
   rw [this];omega
end Go.Proofs.YtohkgdfkklfgmaaGreatDoor.L12
end
