/- Lemmas and walks of L16Ob, L16Ck: what each theorem states; conditions stand in each theorem. -/
import Derived.Test.YtdgnjhhieemcaaaGreatDoorM22
import Derived.Test.YtdgnjhhieemcaaaGreatDoorM23
set_option maxHeartbeats 8000000
set_option maxRecDepth 100000
section
namespace Go.Proofs.YtdgnjhhieemcaaaGreatDoor.L16
open L15
open L13 (Ob)
def mE (l:List L9.Df):Int:=(L10.fe (l.map L10.deE)).2
def rlF:Int→Nat→Nat→List (Int × Int)→Bool
 | _,_,_,[]=>true
 | la,s,m,r::t=>decide (la<r.1) && decide (r.1<(s:Int)) && decide (0≤r.2) && decide (r.2<(m:Int)) && rlF r.1 s m t
def chE (o:Ob):Int :=
 if mE o.maps≠0 then mE o.maps else if 255<o.maps.length then 16 else if L2.rp (o.maps.map (·.nm))≠-1 then 10
 else if o.code.length / 8=0∨o.code.length % 8≠0 then 17 else if 65535<o.code.length / 8 then 16
 else if rlF (-1) (o.code.length / 8) o.maps.length o.rels=true then 0 else 18
theorem brV_maps (l:List L9.Df):(L10.brV ⟨l,[]⟩).2.2=if mE l≠0 then mE l else if 255<l.length then 16 else if L2.rp (l.map (·.nm))≠-1 then 10 else 15:=by
 have h0:L10.fe []=(0,0):=rfl
 have h1:L10.cnd ⟨l,[]⟩=[(true,L10.fe (l.map L10.deE)),(false,(0,0)),(true,L10.fe (L10.szE l.length)),(true,L10.fe (L10.dpE [] (l.map fun d=>[d.nm]))),(false,(0,0)),(false,(0,15)),(false,(0,0)),(false,(0,0)),(false,(0,0))]:=by
  unfold L10.cnd
  simp [L10.dpE,h0]
 have e:∀ a c d:Nat × Int,(L10.frB [(true,a),(false,(0,0)),(true,c),(true,d),(false,(0,0)),(false,(0,15)),(false,(0,0)),(false,(0,0)),(false,(0,0))]).2.2=if a.2≠0 then a.2 else if c.2≠0 then c.2 else if d.2≠0 then d.2 else 15:=by
  intro a c d
  simp only [L10.frB]
  by_cases h1:a.2=0 <;> by_cases h2:c.2=0 <;> by_cases h3:d.2=0 <;> simp [h1,h2,h3]
 unfold L10.brV mE
 rw [h1,e,L10.fe_sz]
 by_cases hn:255<l.length
 ·rw [if_neg (show ¬ l.length≤255 by omega),if_pos hn];rfl
 ·rw [if_pos (show l.length≤255 by omega),if_neg hn]
  rcases L10.dp_maps l with ⟨h2,h3⟩|⟨m,h2,h3⟩
  ·rw [h2,h3];rfl
  ·have h4:((m:Nat):Int)≠-1:=by omega
   rw [h2,h3,if_pos h4];rfl
theorem rl_in:∀ (l:List (Int × Int)) (la:Int) (s m:Nat),rlF la s m l=true→∀ r∈l,la<r.1∧r.1<s∧0≤r.2∧r.2<m
 | [],_,_,_,_,_,h=>by cases h
 | x::t,la,s,m,h,r,hr=>by
  simp only [rlF,Bool.and_eq_true,decide_eq_true_eq] at h
  obtain⟨⟨⟨⟨h1,h2⟩,h3⟩,h4⟩,h5⟩:=h
  rcases List.mem_cons.1 hr with rfl|hr
  ·exact⟨h1,h2,h3,h4⟩
  ·have:=rl_in t x.1 s m h5 r hr
   omega
def r2 (l:List L9.Df):List (List Int):=l.map fun d=>[d.key,d.val,d.ent,0]
def r3 (os:List Nat):List (List Int):=os.mapIdx fun (i o:Nat)=>[((o:Nat):Int),((i:Nat):Int)]
def r4 (l:List (Int × Int)):List (List Int):=l.map fun r=>[r.1,r.2]
structure Gd (o:Ob):Prop where
 df:∀ d∈o.maps,L10.deE d=0
 n:o.maps.length≤255
 code:0<o.code.length∧o.code.length % 8=0∧o.code.length≤524280
 rl:rlF (-1) (o.code.length / 8) o.maps.length o.rels=true
theorem gd_of {o:Ob} (h:chE o=0):Gd o:=by
 unfold chE at h
 by_cases h1:mE o.maps=0
 ·rw [if_neg (by simpa using h1)] at h
  by_cases h2:255<o.maps.length
  ·rw [if_pos h2] at h;cases h
  ·rw [if_neg h2] at h
   by_cases h3:L2.rp (o.maps.map (·.nm))=-1
   ·rw [if_neg (by simpa using h3)] at h
    by_cases h4:o.code.length / 8=0∨o.code.length % 8≠0
    ·rw [if_pos h4] at h;cases h
    ·rw [if_neg h4] at h
     by_cases h5:65535<o.code.length / 8
     ·rw [if_pos h5] at h;cases h
     ·rw [if_neg h5] at h
      by_cases h6:rlF (-1) (o.code.length / 8) o.maps.length o.rels=true
      ·refine⟨fun d hd=>?_,by omega,by omega,h6⟩
       have:=L10.feF_none _ _ h1
       exact this _ (List.mem_map.2 ⟨d,hd,rfl⟩)
      ·rw [if_neg h6] at h;cases h
   ·rw [if_pos h3] at h;cases h
 ·rw [if_pos h1] at h;exact absurd h h1
end Go.Proofs.YtdgnjhhieemcaaaGreatDoor.L16
end
section
namespace Go.Proofs.YtdgnjhhieemcaaaGreatDoor.L16
open Go.RowKit L14 L15
open L13 (Ob)
attribute [local go_sem] Oper.semAt_some
structure OA (w:World) (vm vc vr:Value) (o:Ob):Prop where
 m:L10.DfAt w vm o.maps
 c:Rw eB w vc o.code
 r:L13.RoAt w vr o.rels
theorem OA.below {w w':World} {vm vc vr:Value} {o:Ob} (h:OA w vm vc vr o) (hb:Below w.heap.size w w'):OA w' vm vc vr o:=⟨h.m.below hb,h.c.below hb,h.r.below hb⟩
structure OS (o:Ob):Prop where
 m:o.maps.length≤100000
 c:o.code.length≤100000
 r:o.rels.length≤100000
 z:∀ d∈o.maps,d.nm.size≤maxLen
abbrev Tb (w:World):Prop:=L1.Wid w∧L2.Regs w
theorem tb_below {w w':World} (h:Tb w) (hb:Below w.heap.size w w'):Tb w':=⟨L4.wid_below h.1 hb,h.2.below hb⟩
theorem fe_mem:∀ (l:List Int) (k:Nat),(L10.feF k l).2=0∨(L10.feF k l).2∈l
 | [],_=>.inl rfl
 | e::r,k=>by
  rw [L10.feF]
  split
  ·rcases fe_mem r (k+1) with h|h
   ·exact .inl h
   ·exact .inr (List.mem_cons_of_mem _ h)
  ·exact .inr (List.mem_cons_self ..)
theorem mE_ne (l:List L9.Df):mE l≠15:=by
 unfold mE L10.fe
 rcases fe_mem (l.map L10.deE) 0 with h|h
 ·rw [h];decide
 ·obtain⟨d,-,hd⟩:=List.mem_map.1 h
  rw [← hd]
  unfold L10.deE
  split
  ·split <;> decide
  ·decide
theorem chE_is (o:Ob):chE o=if (L10.brV ⟨o.maps,[]⟩).2.2≠15 then (L10.brV ⟨o.maps,[]⟩).2.2 else if o.code.length / 8=0∨o.code.length % 8≠0 then 17 else if 65535<o.code.length / 8 then 16
  else if rlF (-1) (o.code.length / 8) o.maps.length o.rels=true then 0 else 18:=by
 rw [brV_maps]
 unfold chE
 have h:=mE_ne o.maps
 by_cases h1:mE o.maps=0
 ·by_cases h2:255<o.maps.length
  ·simp [h1,h2]
  ·by_cases h3:L2.rp (o.maps.map (·.nm))=-1
   ·simp [h1,h2,h3]
   ·simp [h1,h2,h3]
 ·simp [h1,h]
theorem pcheck_at (vm:Value) (l:List L9.Df) (R:Int) (w:World) (hv:L10.DfAt w vm l) (hl:l.length≤100000) (hz:∀ d∈l,d.nm.size≤maxLen) (hT:Tb w) (hR:(L10.brV ⟨l,[]⟩).2.2=R) :
  Calls Tryz.prog 56 #[.agg #[vm,.slice none 0 0]] w fun e w'=>(∃ k:Nat,e=.returned (.tuple #[.int .i64 (k:Int),.int .i64 R]))∧Below w.heap.size w w':=by
 obtain⟨b,k,er,hbr⟩:∃ b k er,L10.brV ⟨l,[]⟩=(b,k,er):=⟨_,_,_,rfl⟩
 have hf:L10.Fits ⟨l,[]⟩:=⟨hl,by simp,by simp [L10.alL],hz,by simp,by simp⟩
 rw [hbr] at hR
 subst hR
 exact (L10.check_at vm (.slice none 0 0) ⟨l,[]⟩ w ⟨hv,.inr ⟨rfl,none,0,rfl⟩⟩ hf hT b k er hbr).mono fun e w' h=>⟨⟨k,h.1⟩,h.2⟩
theorem rl_step (la:Int) (s m:Nat) (l:List (Int × Int)) (j:Nat) (h:j<l.length):rlF la s m (l.drop j)=(decide (la<l[j].1) && decide (l[j].1<(s:Int)) && decide (0≤l[j].2) && decide (l[j].2<(m:Int)) && rlF l[j].1 s m (l.drop (j+1))):=by
 rw [List.drop_eq_getElem_cons h,rlF]
theorem ocheck_at (vm vc vr:Value) (o:Ob) (R:Int) (w:World) (ho:OA w vm vc vr o) (hs:OS o) (hT:Tb w) (hR:chE o=R) :
  Calls Tryz.prog 26 #[.agg #[vm,vc,vr]] w fun e w'=>e=.returned (.int .i64 R)∧Below w.heap.size w w':=by
 rw [chE_is] at hR
 obtain⟨n1,hn1⟩:∃ n,o.maps.length=n:=⟨_,rfl⟩
 obtain⟨n2,hn2⟩:∃ n,o.code.length=n:=⟨_,rfl⟩
 obtain⟨n3,hn3⟩:∃ n,o.rels.length=n:=⟨_,rfl⟩
 obtain⟨er,her⟩:∃ e,(L10.brV ⟨o.maps,[]⟩).2.2=e:=⟨_,rfl⟩
 have HC:=Lib.hid (fun (X:World) (hX:Below w.heap.size w X)=>pcheck_at vm o.maps er X (ho.m.below hX) hs.m hs.z (tb_below hT hX) her)
 have hb1:=hs.m
 have hb2:=hs.c
 have hb3:=hs.r
 rw [hn1] at hb1
 rw [hn2] at hb2
 rw [hn3] at hb3
 rw [hn1,hn2,her] at hR
 obtain⟨a1,c1,rfl,-⟩:=L10.df_form hn1 ho.m
 obtain⟨a2,c2,rfl,-⟩:=ho.c.form hn2
 obtain⟨a3,c3,rfl,hr⟩:=L13.ro_form hn3 ho.r
 have HR:=Lib.hid hr
 have HN:=Lib.hid hn3
 have K0:=Lib.hid (heap_alloc_last w (.cells #[.slice a1 n1 c1,.slice a2 n2 c2,.slice a3 n3 c3] 26))
 have HB:=Lib.hid (bnew w (.cells #[.slice a1 n1 c1,.slice a2 n2 c2,.slice a3 n3 c3] 26))
 clear ho hs hT hn1 hn2 hn3 her hr
 by_cases h0:er=15
 case neg =>
  rw [if_pos h0] at hR
  subst hR
  have h0':(er != 15)=true:=by simpa using h0
  go_enter Tryz.func26,Tryz.ntmps26
  go_wp2_with (go_at_call 56;((with_reducible refine (HC.out _ HB.out).mono ?_);rintro e w1 ⟨⟨k,rfl⟩,b1⟩))
  go_ret
  exact⟨rfl,bch HB.out b1⟩
 subst h0
 rw [if_neg (by simp)] at hR
 obtain⟨S,hS⟩:∃ S,n2 / 8=S:=⟨_,rfl⟩
 have e8:(n2:Int) / 8=(S:Int):=by omega
 rw [hS] at hR
 by_cases h1:S=0
 ·rw [if_pos (.inl h1)] at hR
  subst hR h1
  go_enter Tryz.func26,Tryz.ntmps26
  go_wp2_with (go_at_call 56;((with_reducible refine (HC.out _ HB.out).mono ?_);rintro e w1 ⟨⟨k,rfl⟩,b1⟩;obtain⟨x0,x1,x2⟩:=L13.cells3 (L8.row_up K0.out b1)))
  go_ret
  exact⟨rfl,bch HB.out b1⟩
 have h1':((S:Int)==0)=false:=by rw [beq_eq_false_iff_ne];omega
 by_cases h2:n2 % 8=0
 case neg =>
  rw [if_pos (.inr h2)] at hR
  subst hR
  have h2':((n2:Int) % 8 != 0)=true:=by rw [bne_iff_ne];omega
  go_enter Tryz.func26,Tryz.ntmps26
  go_wp2_with (go_at_call 56;((with_reducible refine (HC.out _ HB.out).mono ?_);rintro e w1 ⟨⟨k,rfl⟩,b1⟩;obtain⟨x0,x1,x2⟩:=L13.cells3 (L8.row_up K0.out b1)))
  go_ret
  exact⟨rfl,bch HB.out b1⟩
 have h2':((n2:Int) % 8 != 0)=false:=by rw [bne_eq_false_iff_eq];omega
 rw [if_neg (by omega),if_neg (by omega)] at hR
 have HS8:=Lib.hid (And.intro hS h2)
 have hS9:S≤20000:=by omega
 clear hS h2
 obtain⟨B,hB⟩:∃ B,rlF (-1) S n1 o.rels=B:=⟨_,rfl⟩
 rw [hB] at hR
 have HI:=Lib.hid (show rlF (-1) S n1 (o.rels.drop 0)=B by rw [List.drop_zero];exact hB)
 have HRR:=Lib.hid hR
 clear hB hR
 go_enter Tryz.func26,Tryz.ntmps26
 go_wp2_with (go_at_call 56;((with_reducible refine (HC.out _ HB.out).mono ?_);rintro e w1 ⟨⟨k,rfl⟩,b1⟩;have r1:=L8.row_up K0.out b1;have B1:=bch HB.out b1;obtain⟨x0,x1,x2⟩:=L13.cells3 r1))
 have HJ:=Lib.hid (And.intro r1 B1)
 clear r1 B1 b1 x0 x1 x2 HC
 go_loopw [6,37] (fun lv q wr=>∃ (j:Nat) (la:Int),j≤n3∧q=.int .i64 (j:Int)∧lv=.int .i64 la∧Hid (rlF la S n1 (o.rels.drop j)=B∧Below w1.heap.size w1 wr)) (fun _ q _=>n3-(intOf q).toNat)
 case atStart=>exact⟨0,-1,Nat.zero_le _,rfl,rfl,Lib.hid ⟨HI.out,Below.refl _ _⟩⟩
 case round =>
  obtain⟨j,la,hj,rfl,rfl,hI⟩:=hrel
  clear HI
  have hB:=bch HJ.out.2 hI.out.2
  obtain⟨x0,x1,x2⟩:=L13.cells3 (L8.row_up HJ.out.1 hI.out.2)
  have lx:=World.block_lt_of_cell? _ _ x0
  simp only at lx
  by_cases hlt:j<n3
  ·have hjl:j<o.rels.length:=by rw [HN.out];exact hlt
   obtain⟨bb,of,rfl,hbl,hcc⟩:=HR.out (by omega)
   obtain⟨q0,q1⟩:=hcc j hjl
   have y0:=(hB.cell (p:=⟨bb,of+j*2,none⟩) (by exact hbl)).trans q0
   have y1:=(hB.cell (p:=⟨bb,of+j*2+1,none⟩) (by exact hbl)).trans q1
   have hst:=rl_step la S n1 o.rels j hjl
   rw [hI.out.1] at hst
   obtain⟨s1,hs1⟩:∃ z,o.rels[j].1=z:=⟨_,rfl⟩
   obtain⟨s2,hs2⟩:∃ z,o.rels[j].2=z:=⟨_,rfl⟩
   rw [hs1] at y0 hst
   rw [hs2] at y1 hst
   have HST:=Lib.hid hst
   have HB1:=Lib.hid hI.out.2
   have HB0:=Lib.hid hB
   have hwl:=hB.size
   clear hcc q0 q1 hst hs1 hs2 hI hB
   have bad:¬ (la<s1∧s1<(S:Int)∧0≤s2∧s2<(n1:Int))→R=18:=fun h=>by
    have hf:B=false:=by
     rw [HST.out]
     by_cases a1:la<s1 <;> by_cases a2:s1<(S:Int) <;> by_cases a3:0≤s2 <;> by_cases a4:s2<(n1:Int) <;> simp [a1,a2,a3,a4] <;> omega
    have:=HRR.out
    rw [hf] at this
    rw [← this];rfl
   have HBAD:=Lib.hid bad
   clear bad
   by_cases a1:s1≤la
   ·obtain rfl:=HBAD.out (by omega)
    go_wp2
    go_ret
    exact⟨rfl,bch HB0.out (bnew _ _)⟩
   by_cases a2:(S:Int)≤s1
   ·obtain rfl:=HBAD.out (by omega)
    go_wp2
    go_ret
    exact⟨rfl,bch HB0.out (bnew _ _)⟩
   by_cases a3:s2<0
   ·obtain rfl:=HBAD.out (by omega)
    go_wp2
    go_ret
    exact⟨rfl,bch HB0.out (bnew _ _)⟩
   by_cases a4:(n1:Int)≤s2
   ·obtain rfl:=HBAD.out (by omega)
    go_wp2
    go_ret
    exact⟨rfl,bch HB0.out (bnew _ _)⟩
   have HN2:=Lib.hid (show rlF s1 S n1 (o.rels.drop (j+1))=B by
    rw [HST.out]
    simp [show la<s1 by omega,show s1<(S:Int) by omega,show 0≤s2 by omega,show s2<(n1:Int) by omega])
   clear HST HBAD
   go_wp2
   go_roundw
   case rel=>exact⟨j+1,s1,hlt,by go_num,rfl,Lib.hid ⟨HN2.out,bch HB1.out (bnew _ _)⟩⟩
   case measure=>simp [intOf];omega
  ·obtain rfl:j=n3:=by omega
   have hl:=hI.out.1
   rw [List.drop_of_length_le (by rw [HN.out];exact Nat.le_refl _)] at hl
   have hr0:R=0:=by
    have h1:=HRR.out
    rw [← hl] at h1
    rw [← h1];rfl
   subst hr0
   have HB0:=Lib.hid hB
   clear hI hB hl
   go_wp2
   go_ret
   exact⟨rfl,HB0.out⟩
end Go.Proofs.YtdgnjhhieemcaaaGreatDoor.L16
end
