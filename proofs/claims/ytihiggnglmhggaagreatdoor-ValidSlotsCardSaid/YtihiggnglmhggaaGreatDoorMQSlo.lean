/- Lemmas and walks of L17Ls: what each theorem states; conditions stand in each theorem. -/
import Derived.Test.YtihiggnglmhggaaGreatDoorMQR
set_option maxHeartbeats 8000000
set_option maxRecDepth 100000
section
section
namespace Go.Proofs.YtihiggnglmhggaaGreatDoor.L17
open Go.RowKit L3 L4 L12 L14
open L13 (Ob)
open L16 (chE OA OS OW Sm16 Tb tb_below)
attribute [local go_sem] Oper.semAt_some
theorem fr_z:∀ l:List (Int × Int),(fr l).2=0→fr l=(0,0)
 | [],_=>rfl
 | x::r,h=>by
  by_cases hx:x.2=0
  ·rw [fr_skip hx] at h ⊢
   exact fr_z r h
  ·rw [fr_hit hx] at h
   exact absurd h hx
theorem fr_mem:∀ l:List (Int × Int),(fr l).2≠0→fr l∈l
 | [],h=>absurd rfl h
 | x::r,h=>by
  by_cases hx:x.2=0
  ·rw [fr_skip hx] at h ⊢
   exact List.mem_cons_of_mem _ (fr_mem r h)
  ·rw [fr_hit hx]
   exact List.mem_cons_self ..
theorem rds_at:∀ (n a:Nat) (l:List UInt8),(L5.la (L5.rds n a l)).e≠0→8*(L5.la (L5.rds n a l)).at'<8*a+l.length
 | 0,a,l,h=>by simp [L5.rds,L5.la] at h
 | n+1,a,l,h=>by
  by_cases hl:l=[]
  ·subst hl
   simp [L5.rds,L5.la] at h
  ·have hp:=List.length_pos_iff.2 hl
   by_cases hd:(L5.decF l).2.2=0
   ·obtain⟨s,hs,h1,h2,h8⟩:=L5.decF_ok l hd
    rw [L5.rds_go n a s l hl hd hs] at h ⊢
    cases hq:L5.rds n (a+s) (l.drop (8*s)) with
    | nil=>rw [hq] at h;exact absurd rfl h
    | cons y q =>
     rw [hq,la_cons,← hq] at h
     rw [la_cons,← hq]
     have:=rds_at n (a+s) (l.drop (8*s)) h
     rw [List.length_drop] at this
     omega
   ·rw [L5.rds_bad n a l hl hd]
    show 8*a<_
    omega
theorem eaV_in {o:Ob} {p:Nat→Bool} {e:Int} (hG:Cg o (inL o.code)) (h:(eaV (inL o.code) p e).2≠0):0≤(eaV (inL o.code) p e).1∧(eaV (inL o.code) p e).1<((o.code.length / 8:Nat):Int)∧0≤atN 0 0 (inL o.code) (eaV (inL o.code) p e).1:=by
 rcases eaF_cases (inL o.code).length p with ⟨-,k⟩|⟨i,-,hi,k0,k1⟩
 ·rw [eaV_none k] at h
  exact absurd rfl h
 ·rw [eaV_some hi k1 k0]
  have:=stN_mono hG.sl hi (Nat.le_refl _)
  rw [stN_all,hG.sm] at this
  refine⟨by simp,by simp only;omega,?_⟩
  simp only
  rw [atN_at hG.sl hi]
  omega
theorem slots_in {o:Ob} {S E:Int} (hE:vE o=(S,E)) (hc:chE o=0) (h0:(L5.la (rdC o.code)).e=0) (hz:E≠0):0≤S∧S<((o.code.length / 8:Nat):Int)∧(E=18∨0≤atN 0 0 (inL o.code) S):=by
 have hG:=cg_of (L16.gd_of hc) h0
 unfold vE vL at hE
 rw [fr_skip (x:=(0,chE o)) hc,fr_skip (x:=insE o.code) (by rw [insE_ok h0])] at hE
 have hm:=fr_mem _ (by rw [hE];exact hz)
 rw [hE] at hm
 simp only [List.mem_cons,List.not_mem_nil,or_false] at hm
 rcases hm with hm|hm|hm|hm|hm
 ·have:=eaV_in (p:=pF (inL o.code)) (e:=12) hG (by rw [← hm];exact hz)
  rw [← hm] at this
  exact⟨this.1,this.2.1,.inr this.2.2⟩
 ·unfold rlV at hm
  rcases eaF_cases (o.code.length / 8) (fun s=>rfB (inL o.code) s==hasR o.rels s) with ⟨e,-⟩|⟨i,e,hi,-⟩
  ·rw [e] at hm
   cases hm
   exact absurd rfl hz
  ·rw [e] at hm
   cases hm
   exact⟨by omega,by omega,.inl rfl⟩
 ·have:=eaV_in (p:=pJ (inL o.code)) (e:=13) hG (by rw [← hm];exact hz)
  rw [← hm] at this
  exact⟨this.1,this.2.1,.inr this.2.2⟩
 ·have:=eaV_in (p:=pW (inL o.code)) (e:=14) hG (by rw [← hm];exact hz)
  rw [← hm] at this
  exact⟨this.1,this.2.1,.inr this.2.2⟩
 ·have:=eaV_in (p:=pE (inL o.code)) (e:=15) hG (by rw [← hm];exact hz)
  rw [← hm] at this
  exact⟨this.1,this.2.1,.inr this.2.2⟩
theorem slots_off {o:Ob} {S E:Int} (hE:vE o=(S,E)) (hS:S≠0) (h0:(L5.la (rdC o.code)).e≠0):0≤S∧S<((o.code.length:Nat):Int) / 8+1∧8*S<(o.code.length:Int)∧E≠0:=by
 unfold vE vL at hE
 by_cases hc:chE o=0
 ·rw [fr_skip (x:=(0,chE o)) hc,fr_hit (x:=insE o.code) (by rw [insE_no h0];exact h0),insE_no h0] at hE
  cases hE
  have:=rds_at o.code.length 0 o.code h0
  have e:L5.rds o.code.length 0 o.code=rdC o.code:=rfl
  rw [e] at this
  exact⟨by omega,by omega,by omega,h0⟩
 ·rw [fr_hit (x:=(0,chE o)) hc] at hE
  cases hE
  exact absurd rfl hS
theorem slots_ch {o:Ob} {S E:Int} (hE:vE o=(S,E)) (hS:S≠0):chE o=0:=by
 by_cases hc:chE o=0
 ·exact hc
 ·unfold vE vL at hE
  rw [fr_hit (x:=(0,chE o)) hc] at hE
  cases hE
  exact absurd rfl hS
theorem slots_z {o:Ob} {S E:Int} (hE:vE o=(S,E)) (hS:S≠0):E≠0:=fun e=>by
 subst e
 have:=fr_z (vL o) (by rw [show fr (vL o)=vE o from rfl,hE])
 rw [show fr (vL o)=vE o from rfl,hE] at this
 cases this
 exact hS rfl
theorem prall_any (v:Value) (c:List UInt8) (f:Int) (w:World) (hv:L5.BsAt w v c) (hm:c.length≤100000) (hf:(L5.la (rdC c)).e=f) :
  Calls Tryz.prog 16 #[v] w fun e w'=>(∃ u z,e=.returned (.tuple #[u,.int .i64 z,.int .i64 f]))∧Below w.heap.size w w':=by
 by_cases h0:(L5.la (rdC c)).e=0
 ·refine (prall_ok v c _ w hv hm h0 rfl).mono fun e w' h=>?_
  obtain⟨⟨a,cp,rfl,-⟩,hb⟩:=h
  rw [← hf,h0]
  exact⟨⟨_,_,rfl⟩,hb⟩
 ·refine (prall_no v c w hv hm h0).mono fun e w' h=>?_
  rw [← hf]
  exact⟨⟨_,_,h.1⟩,h.2⟩
section
variable (vm vc vr:Value) (o:Ob) (w:World) (ho:OA w vm vc vr o) (hw:OW o) (hT:Tb w)
include ho hw hT
theorem slots_walk:Calls Tryz.prog 8 #[.agg #[vm,vc,vr]] w fun e w'=>e=.returned (.bool true)∧Below w.heap.size w w':=by
 have HA:=Lib.hid (fun (W:World) (h:Below w.heap.size w W)=>alive17 W (tb_below hT h))
 obtain⟨S,E,hE⟩:∃ S E,vE o=(S,E):=⟨_,_,rfl⟩
 have HO:=Lib.hid (fun (W:World) (h:Below w.heap.size w W)=>And.intro (ho.below h) (tb_below hT h))
 have HE:=Lib.hid hE
 obtain⟨a1,c1,a2,c2,a3,c3,rfl,rfl,rfl⟩:=oa_form ho
 have k0:=heap_alloc_new w (.cells #[.slice a1 o.maps.length c1,.slice a2 o.code.length c2,.slice a3 o.rels.length c3] 26)
 have K0:=Lib.hid k0
 have HB:=Lib.hid (bnew w (.cells #[.slice a1 o.maps.length c1,.slice a2 o.code.length c2,.slice a3 o.rels.length c3] 26))
 by_cases hs:Sm16 o
 ·have HOS:=Lib.hid (hw.os hs)
  have HF:=Lib.hid (fun (W:World)=>L16.few_yes a1 a2 a3 o.maps.length o.code.length o.rels.length c1 c2 c3 W hs)
  have hcm:=HOS.out.c
  have hcl:=hs.1
  obtain⟨f,hf⟩:∃ f,(L5.la (rdC o.code)).e=f:=⟨_,rfl⟩
  have HL:=Lib.hid (fun (W:World) (h:Below w.heap.size w W)=>prall_any (.slice a2 o.code.length c2) o.code f W (rw_bs (HO.out W h).1.c hcm) hcm hf)
  have HV:=Lib.hid (fun (W:World) (h:Below w.heap.size w W)=>vcheck_at _ _ _ o S E W (HO.out W h).1 HOS.out (HO.out W h).2 HE.out)
  by_cases hS:S=0
  ·subst hS
   obtain⟨cl,hclx⟩:∃ cl,o.code.length=cl:=⟨_,rfl⟩
   rw [hclx] at HL HF HV K0 HB hcl ⊢
   clear ho hw hT hE k0 hs hcm hf hclx
   by_cases h0:E=0
   ·subst h0
    go_enter Tryz.func8,Tryz.ntmps8
    go_wp2_with (first
     | (go_at_call 9;((with_reducible refine (HF.out _).mono ?_);rintro e w1 ⟨rfl,b1⟩;have B1:=bch HB.out b1;obtain⟨x0,x1,x2⟩:=L13.cells3 (L8.row_up K0.out b1)))
     | (go_at_call 11;((with_reducible refine (HV.out _ B1).mono ?_);rintro e w2 ⟨rfl,b2⟩;have B2:=bch B1 b2;obtain⟨y0,y1,y2⟩:=L13.cells3 (L8.row_up K0.out (bch b1 b2))))
     | (go_at_call 16;((with_reducible refine (HL.out _ B2).mono ?_);rintro e w3 ⟨⟨u,z,rfl⟩,b3⟩;have B3:=bch B2 b3))
     | (go_at_call 10;((with_reducible refine (HA.out _ B3).mono ?_);rintro e w4 ⟨rfl,b4⟩)))
    go_ret
    exact⟨rfl,bch B3 b4⟩
   ·have hzb:(E==0)=false:=by simpa using h0
    clear h0
    go_enter Tryz.func8,Tryz.ntmps8
    go_wp2_with (first
     | (go_at_call 9;((with_reducible refine (HF.out _).mono ?_);rintro e w1 ⟨rfl,b1⟩;have B1:=bch HB.out b1;obtain⟨x0,x1,x2⟩:=L13.cells3 (L8.row_up K0.out b1)))
     | (go_at_call 11;((with_reducible refine (HV.out _ B1).mono ?_);rintro e w2 ⟨rfl,b2⟩;have B2:=bch B1 b2;obtain⟨y0,y1,y2⟩:=L13.cells3 (L8.row_up K0.out (bch b1 b2))))
     | (go_at_call 16;((with_reducible refine (HL.out _ B2).mono ?_);rintro e w3 ⟨⟨u,z,rfl⟩,b3⟩;have B3:=bch B2 b3))
     | (go_at_call 10;((with_reducible refine (HA.out _ B3).mono ?_);rintro e w4 ⟨rfl,b4⟩)))
    go_ret
    exact⟨rfl,bch B3 b4⟩
  ·have hEz:=slots_z hE hS
   have hzb:(E==0)=false:=by simpa using hEz
   have hsb:(S==0)=false:=by simpa using hS
   by_cases h0:f=0
   ·have hch:=slots_ch hE hS
    obtain⟨g1,g2,g3⟩:=slots_in hE hch (by rw [hf];exact h0) hEz
    obtain⟨n,hn⟩:∃ n,(inL o.code).length=n:=⟨_,rfl⟩
    have hl0:(L5.la (rdC o.code)).e=0:=by rw [hf];exact h0
    have hlen:=inL_len hl0
    have hll:=len_le (inL o.code) (inL_sl hl0)
    have HL2:=Lib.hid (fun (W:World) (h:Below w.heap.size w W)=>prall_ok (.slice a2 o.code.length c2) o.code n W (rw_bs (HO.out W h).1.c hcm) hcm hl0 hn)
    obtain⟨r,hr⟩:∃ r,atN 0 0 (inL o.code) S=r:=⟨_,rfl⟩
    have HAt:=Lib.hid (fun (W:World) (v:Value) (h:IsAt W v (inL o.code))=>rat_at v (inL o.code) S r W h (by omega) hr)
    rw [hr] at g3
    obtain⟨m,hm⟩:∃ m,o.code.length / 8=m:=⟨_,rfl⟩
    rw [hm] at g2
    have hq:((o.code.length:Nat):Int) / 8=(m:Int):=by omega
    have hgt:0<S:=by omega
    obtain⟨cl,hclx⟩:∃ cl,o.code.length=cl:=⟨_,rfl⟩
    rw [hclx] at HL2 HF HV K0 HB hcl hq ⊢
    have hlt:=g2
    clear ho hw hT hE k0 hs hcm hf hclx hch hl0 hlen hll hr hm hEz hS HL g1 g2 hn
    by_cases h18:E=18
    ·subst h18
     clear g3
     go_enter Tryz.func8,Tryz.ntmps8
     go_wp2_with (first
      | (go_at_call 9;((with_reducible refine (HF.out _).mono ?_);rintro e w1 ⟨rfl,b1⟩;have B1:=bch HB.out b1;obtain⟨x0,x1,x2⟩:=L13.cells3 (L8.row_up K0.out b1)))
      | (go_at_call 11;((with_reducible refine (HV.out _ B1).mono ?_);rintro e w2 ⟨rfl,b2⟩;have B2:=bch B1 b2;obtain⟨y0,y1,y2⟩:=L13.cells3 (L8.row_up K0.out (bch b1 b2))))
      | (go_at_call 16;((with_reducible refine (HL2.out _ B2).mono ?_);rintro e w3 ⟨⟨u,z,rfl,i3⟩,b3⟩;have B3:=bch B2 b3))
      | (go_at_call 10;((with_reducible refine (HA.out _ B3).mono ?_);rintro e w4 ⟨rfl,b4⟩;obtain⟨z0,z1,z2⟩:=L13.cells3 (L8.row_up K0.out (bch b1 (bch b2 (bch b3 b4)))))))
     go_ret
     exact⟨rfl,bch B3 b4⟩
    ·have h18b:(E==18)=false:=by simpa using h18
     have hr0:0≤r:=g3.resolve_left h18
     clear g3 h18
     go_enter Tryz.func8,Tryz.ntmps8
     go_wp2_with (first
      | (go_at_call 9;((with_reducible refine (HF.out _).mono ?_);rintro e w1 ⟨rfl,b1⟩;have B1:=bch HB.out b1;obtain⟨x0,x1,x2⟩:=L13.cells3 (L8.row_up K0.out b1)))
      | (go_at_call 11;((with_reducible refine (HV.out _ B1).mono ?_);rintro e w2 ⟨rfl,b2⟩;have B2:=bch B1 b2;obtain⟨y0,y1,y2⟩:=L13.cells3 (L8.row_up K0.out (bch b1 b2))))
      | (go_at_call 16;((with_reducible refine (HL2.out _ B2).mono ?_);rintro e w3 ⟨⟨u,z,rfl,i3⟩,b3⟩;have B3:=bch B2 b3))
      | (go_at_call 10;((with_reducible refine (HA.out _ B3).mono ?_);rintro e w4 ⟨rfl,b4⟩;have i4:=i3.below b4;obtain⟨z0,z1,z2⟩:=L13.cells3 (L8.row_up K0.out (bch b1 (bch b2 (bch b3 b4))))))
      | (go_at_call 25;((with_reducible refine (HAt.out _ _ i4).mono ?_);rintro e w5 ⟨rfl,rfl⟩)))
     go_ret
     exact⟨rfl,bch B3 b4⟩
   ·have hfb:(f != 0)=true:=by simpa using h0
    obtain⟨g1,-,g3,-⟩:=slots_off hE hS (by rw [hf];exact h0)
    obtain⟨cl,hclx⟩:∃ cl,o.code.length=cl:=⟨_,rfl⟩
    rw [hclx] at HL HF HV K0 HB hcl g3 ⊢
    have hlt:S<((cl:Int)+7) / 8:=by omega
    clear ho hw hT hE k0 hs hcm hf hclx hEz hS h0 g3
    go_enter Tryz.func8,Tryz.ntmps8
    go_wp2_with (first
     | (go_at_call 9;((with_reducible refine (HF.out _).mono ?_);rintro e w1 ⟨rfl,b1⟩;have B1:=bch HB.out b1;obtain⟨x0,x1,x2⟩:=L13.cells3 (L8.row_up K0.out b1)))
     | (go_at_call 11;((with_reducible refine (HV.out _ B1).mono ?_);rintro e w2 ⟨rfl,b2⟩;have B2:=bch B1 b2;obtain⟨y0,y1,y2⟩:=L13.cells3 (L8.row_up K0.out (bch b1 b2))))
     | (go_at_call 16;((with_reducible refine (HL.out _ B2).mono ?_);rintro e w3 ⟨⟨u,z,rfl⟩,b3⟩;have B3:=bch B2 b3))
     | (go_at_call 10;((with_reducible refine (HA.out _ B3).mono ?_);rintro e w4 ⟨rfl,b4⟩;obtain⟨z0,z1,z2⟩:=L13.cells3 (L8.row_up K0.out (bch b1 (bch b2 (bch b3 b4)))))))
    go_ret
    exact⟨rfl,bch B3 b4⟩
 ·have HF:=Lib.hid (fun (W:World)=>L16.few_no a1 a2 a3 o.maps.length o.code.length o.rels.length c1 c2 c3 W hw.m hw.c hw.r hs)
  clear ho hw hT hE k0 hs
  go_enter Tryz.func8,Tryz.ntmps8
  go_wp2_with (first
   | (go_at_call 9;((with_reducible refine (HF.out _).mono ?_);rintro e w1 ⟨rfl,b1⟩))
   | (go_at_call 10;((with_reducible refine (HA.out _ (bch HB.out b1)).mono ?_);rintro e w2 ⟨rfl,b2⟩)))
  go_ret
  exact⟨rfl,bch (bch HB.out b1) b2⟩
end
end Go.Proofs.YtihiggnglmhggaaGreatDoor.L17
end
end
