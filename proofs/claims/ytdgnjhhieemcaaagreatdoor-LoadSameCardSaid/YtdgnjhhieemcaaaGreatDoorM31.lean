/- Lemmas and walks of L17Ck, L17Vc: what each theorem states; conditions stand in each theorem. -/
import Derived.Test.YtdgnjhhieemcaaaGreatDoorL17Cd
import Derived.Test.YtdgnjhhieemcaaaGreatDoorM28
set_option maxHeartbeats 8000000
set_option maxRecDepth 100000
section
namespace Go.Proofs.YtdgnjhhieemcaaaGreatDoor.L17
open Go.RowKit L3 L4 L12 L14
open L13 (Ob)
open L16 (chE OA OS Tb tb_below)
attribute [local go_sem] Oper.semAt_some
theorem cells7c {w:World} {k:Nat} {a b c d e f g:Value} {t:TypeId} (h:w.heap[k]?=some (.cells #[a,b,c,d,e,f,g] t)) :
  w.cell? ⟨k,0,none⟩=some a∧w.cell? ⟨k,1,none⟩=some b∧w.cell? ⟨k,2,none⟩=some c∧w.cell? ⟨k,3,none⟩=some d∧w.cell? ⟨k,4,none⟩=some e∧w.cell? ⟨k,5,none⟩=some f∧w.cell? ⟨k,6,none⟩=some g:=by
 simp [World.cell?,h]
abbrev fnC (kc:Nat):Obj:=.cells #[.func (.func 98) #[.pointer (some ⟨kc,0,none⟩)] #[],.func (.func 99) #[.pointer (some ⟨kc,0,none⟩)] #[],.func (.func 100) #[.pointer (some ⟨kc,0,none⟩)] #[],.func (.func 101) #[.pointer (some ⟨kc,0,none⟩)] #[],.func (.func 102) #[.pointer (some ⟨kc,0,none⟩)] #[],.func (.func 103) #[.pointer (some ⟨kc,0,none⟩)] #[],.func (.func 104) #[.pointer (some ⟨kc,0,none⟩)] #[]] 159
theorem eaV_z {l:List L9.Ins} {p:Nat→Bool} {e:Int} (he:e≠0) (h:(eaV l p e).2=0):eaV l p e=(0,0):=by
 unfold eaV at h ⊢
 split at h
 ·rfl
 ·exact absurd h he
theorem rlV_z {o:Ob} {l:List L9.Ins} (h:(rlV o l).2=0):rlV o l=(0,0):=by
 unfold rlV at h ⊢
 split at h
 ·rfl
 ·cases h
theorem insE_zz {c:List UInt8} (h:(insE c).2=0):insE c=(0,0):=insE_ok (insE_z.1 h)
theorem fr_hit {x:Int × Int} {r:List (Int × Int)} (h:x.2≠0):fr (x::r)=x:=by rw [fr,if_pos h]
theorem fr_skip {x:Int × Int} {r:List (Int × Int)} (h:x.2=0):fr (x::r)=fr r:=by rw [fr,if_neg (by simpa using h)]
structure CkI (o:Ob) (kc g:Nat) (vm vc vr:Value) (w:World) (S E:Int) (k:Nat) (wr:World):Prop where
 gr:w.grownBy wr (some kc)
 fns:wr.heap[g]?=some (fnC kc)
 nil:k≤1→wr.heap[kc]?=some (ckC vm vc vr (.slice none 0 0) (.slice none 0 0))
 ob:1≤k→chE o=0
 cd:2≤k→(L5.la (rdC o.code)).e=0
 at':2≤k→∃ vl vt,CkA wr kc vm vc vr vl vt (inL o.code)
 fd:fr ((vL o).drop k)=(S,E)
theorem CkI.low {o:Ob} {kc g:Nat} {vm vc vr:Value} {w w0:World} {S E:Int} {k:Nat} {wr:World} (h:CkI o kc g vm vc vr w S E k wr) (hb:Below w0.heap.size w0 w) (hlo:w0.heap.size≤kc):Below w0.heap.size w0 wr:=hb.grown h.gr hb.size (fun q e=>by cases e;exact hlo)
theorem CkI.next {o:Ob} {kc g:Nat} {vm vc vr:Value} {w:World} {S E:Int} {k:Nat} {wr W:World} (h:CkI o kc g vm vc vr w S E k wr) (hb:Below wr.heap.size wr W) (hk:k≠1) (h0:k=0→chE o=0) (hf:fr ((vL o).drop (k+1))=(S,E)):CkI o kc g vm vc vr w S E (k+1) W :=
 ⟨gr_tr h.gr (gr_of hb _),L8.row_up h.fns hb,fun _=>L8.row_up (h.nil (by omega)) hb,fun _=>if h1:k=0 then h0 h1 else h.ob (by omega),fun _=>h.cd (by omega),fun _=>by obtain⟨vl,vt,hA⟩:=h.at' (by omega);exact⟨vl,vt,hA.below hb⟩,hf⟩
theorem check_at (kc:Nat) (vm vc vr:Value) (o:Ob) (S E:Int) (w0 w:World) (hlo:w0.heap.size≤kc) (hb:Below w0.heap.size w0 w) (ho:OA w0 vm vc vr o) (hs:OS o) (hT:Tb w0) (hk:w.heap[kc]?=some (ckC vm vc vr (.slice none 0 0) (.slice none 0 0))) (hR:vE o=(S,E)) :
  Calls Tryz.prog 59 #[.pointer (some ⟨kc,0,none⟩)] w fun e w'=>e=.returned (.tuple #[.int .i64 S,.int .i64 E])∧w.grownBy w' (some kc)∧(E=0→∃ vl vt,CkA w' kc vm vc vr vl vt (inL o.code)):=by
 have hmf:∀ (fn:Fn) (first cap:Array Value) (w:World),(Instr.makeFunc fn first cap).run Tryz.prog w=.ok (.func fn first cap) w:=fun _ _ _ _=>rfl
 have hkl:=(Array.getElem?_eq_some_iff.1 hk).1
 have HW:=Lib.hid (And.intro ho (And.intro hs hT))
 have HLO:=Lib.hid (And.intro hlo hb)
 have HNE:=Lib.hid (show kc≠w.heap.size by omega)
 have HI0:=Lib.hid (show CkI o kc w.heap.size vm vc vr w S E 0 (w.alloc (fnC kc)) from ⟨gr_of (bnew w _) _,heap_alloc_new w _,fun _=>L8.row_up hk (bnew w _),fun h=>absurd h (by decide),fun h=>absurd h (by decide),fun h=>absurd h (by decide),hR⟩)
 obtain⟨g,hg⟩:∃ g,w.heap.size=g:=⟨_,rfl⟩
 clear ho hs hT hlo hb hk hR
 go_enter Tryz.func59,Tryz.ntmps59
 go_wp2
 go_step3
 go_wp2
 go_step3
 go_wp2
 clear hmf
 rw [hg] at HNE HI0
 clear hg
 go_loopg [2,3,22] 7 (fun gh s2 s3 i wr=>∃ k:Nat,k+gh=7∧s2=.int .i64 0∧s3=.int .i64 0∧i=.int .i64 (k:Int)∧Hid (CkI o kc g vm vc vr w S E k wr))
 case atStart=>exact⟨0,rfl,rfl,rfl,rfl,HI0⟩
 case round =>
  clear HI0
  obtain⟨k,hk7,rfl,rfl,rfl,hI⟩:=hrel
  cases gk with
  | succ gh =>
  have hB:=hI.out.low HLO.out.2 HLO.out.1
  have hgl:=(Array.getElem?_eq_some_iff.1 hI.out.fns).1
  obtain⟨p0,p1,p2,p3,p4,p5,p6⟩:=cells7c hI.out.fns
  rcases (show k=0∨k=1∨k=2∨k=3∨k=4∨k=5∨k=6 by omega) with rfl|rfl|rfl|rfl|rfl|rfl|rfl
  ·clear p1 p2 p3 p4 p5 p6
   have hfr:=hI.out.fd
   have HC:=Lib.hid (cobject_at kc vm vc vr _ _ o (chE o) wr (hI.out.nil (by omega)) (HW.out.1.below hB) HW.out.2.1 (tb_below HW.out.2.2 hB) rfl)
   obtain⟨b,hb0⟩:∃ b,chE o=b:=⟨_,rfl⟩
   rw [hb0] at HC
   by_cases hz:b=0
   ·subst hz
    have HF:=Lib.hid (show fr ((vL o).drop 1)=(S,E) by rw [← hfr];exact (fr_skip (x:=(0,chE o)) hb0).symm)
    have HZ:=Lib.hid hb0
    clear hfr hb0
    go_wp2_with (go_at_call 98;((with_reducible refine (HC.out).mono ?_);rintro e w1 ⟨rfl,b1⟩))
    go_roundg gh
    case measure=>omega
    case rel =>
     exact⟨1,by omega,rfl,rfl,by go_num,Lib.hid (hI.out.next b1 (by decide) (fun _=>HZ.out) HF.out)⟩
   ·have HF:=Lib.hid (show (S,E)=(0,b) by rw [← hfr,← hb0];exact fr_hit (x:=(0,chE o)) (by rw [hb0];exact hz))
    have hzb:(b != 0)=true:=by simpa using hz
    clear hfr hb0
    have HZ:=Lib.hid hz
    clear hz
    go_wp2_with (go_at_call 98;((with_reducible refine (HC.out).mono ?_);rintro e w1 ⟨rfl,b1⟩))
    try rw [Exit.noGoto_ret]
    go_ret2
    cases HF.out
    exact⟨rfl,gr_tr hI.out.gr (gr_of b1 _),fun h=>absurd h HZ.out⟩
  ·clear p0 p2 p3 p4 p5 p6
   have hfr:=hI.out.fd
   have HC:=Lib.hid (cinstr_at kc vm vc vr o wr (hI.out.nil (by omega)) ((HW.out.1.below hB).c) HW.out.2.1.c (tb_below HW.out.2.2 hB).1)
   unfold InP at HC
   obtain⟨a,b,hab⟩:∃ a b,insE o.code=(a,b):=⟨_,_,rfl⟩
   rw [hab] at HC
   by_cases hz:b=0
   ·subst hz
    have hz2:=insE_zz (show (insE o.code).2=0 by rw [hab])
    rw [hz2] at hab
    cases hab
    have HF:=Lib.hid (show fr ((vL o).drop 2)=(S,E) by rw [← hfr];exact (fr_skip (x:=insE o.code) (by rw [hz2])).symm)
    have HZ:=Lib.hid (insE_z.1 (by rw [hz2]))
    clear hfr hz2
    go_wp2_with (go_at_call 99;((with_reducible refine (HC.out).mono ?_);rintro e w1 ⟨rfl,g1,c1⟩))
    go_roundg gh
    case measure=>omega
    case rel =>
     obtain⟨vl,vt,hA⟩:=c1 HZ.out
     exact⟨2,by omega,rfl,rfl,by go_num,Lib.hid ⟨gr_tr hI.out.gr g1,(g1.block g (Array.getElem?_eq_some_iff.1 hI.out.fns).1 (fun e=>HNE.out (by cases e;rfl))).trans hI.out.fns,fun h=>absurd h (by decide),fun _=>hI.out.ob (by omega),fun _=>HZ.out,fun _=>⟨vl,vt,hA⟩,HF.out⟩⟩
   ·have HF:=Lib.hid (show (S,E)=(a,b) by rw [← hfr,← hab];exact fr_hit (x:=insE o.code) (by rw [hab];exact hz))
    have hzb:(b != 0)=true:=by simpa using hz
    clear hfr hab
    have HZ:=Lib.hid hz
    clear hz
    go_wp2_with (go_at_call 99;((with_reducible refine (HC.out).mono ?_);rintro e w1 ⟨rfl,g1,c1⟩))
    try rw [Exit.noGoto_ret]
    go_ret2
    cases HF.out
    exact⟨rfl,gr_tr hI.out.gr g1,fun h=>absurd h HZ.out⟩
  ·clear p0 p1 p3 p4 p5 p6
   have hfr:=hI.out.fd
   obtain⟨vl,vt,hA⟩:=hI.out.at' (by omega)
   have h0:=hI.out.cd (by omega)
   have hG:=L16.gd_of (hI.out.ob (by omega))
   have hlen:=inL_len h0
   have hll:=len_le (inL o.code) (inL_sl h0)
   have hcl:=HW.out.2.1.c
   have hm:(inL o.code).length≤100000:=by omega
   obtain⟨a,b,hab⟩:∃ a b,eaV (inL o.code) (pF (inL o.code)) 12=(a,b):=⟨_,_,rfl⟩
   have HC:=Lib.hid (cfields_at kc vm vc vr vl vt _ a b wr hA hm hab)
   clear hA h0 hG hlen hll hcl hm
   by_cases hz:b=0
   ·subst hz
    have hz2:=eaV_z (by decide) (show (eaV (inL o.code) (pF (inL o.code)) 12).2=0 by rw [hab])
    rw [hz2] at hab
    cases hab
    have HF:=Lib.hid (show fr ((vL o).drop 3)=(S,E) by rw [← hfr];exact (fr_skip (x:=eaV (inL o.code) (pF (inL o.code)) 12) (by rw [hz2])).symm)
    clear hfr hz2
    go_wp2_with (go_at_call 100;((with_reducible refine (HC.out).mono ?_);rintro e w1 ⟨rfl,b1⟩))
    go_roundg gh
    case measure=>omega
    case rel =>
     exact⟨3,by omega,rfl,rfl,by go_num,Lib.hid (hI.out.next b1 (by decide) (fun h=>absurd h (by decide)) HF.out)⟩
   ·have HF:=Lib.hid (show (S,E)=(a,b) by rw [← hfr,← hab];exact fr_hit (x:=eaV (inL o.code) (pF (inL o.code)) 12) (by rw [hab];exact hz))
    have hzb:(b != 0)=true:=by simpa using hz
    clear hfr hab
    have HZ:=Lib.hid hz
    clear hz
    go_wp2_with (go_at_call 100;((with_reducible refine (HC.out).mono ?_);rintro e w1 ⟨rfl,b1⟩))
    try rw [Exit.noGoto_ret]
    go_ret2
    cases HF.out
    exact⟨rfl,gr_tr hI.out.gr (gr_of b1 _),fun h=>absurd h HZ.out⟩
  ·clear p0 p1 p2 p4 p5 p6
   have hfr:=hI.out.fd
   obtain⟨vl,vt,hA⟩:=hI.out.at' (by omega)
   have h0:=hI.out.cd (by omega)
   have hG:=L16.gd_of (hI.out.ob (by omega))
   have hlen:=inL_len h0
   have hll:=len_le (inL o.code) (inL_sl h0)
   have hcl:=HW.out.2.1.c
   have hm:(inL o.code).length≤100000:=by omega
   obtain⟨a,b,hab⟩:∃ a b,rlV o (inL o.code)=(a,b):=⟨_,_,rfl⟩
   have HC:=Lib.hid (relocs_at kc vm vc vr vl vt o _ a b wr hA ((HW.out.1.below hB).r) (cg_of hG h0) hm HW.out.2.1.r (by omega) hab)
   clear hA h0 hG hlen hll hcl hm
   by_cases hz:b=0
   ·subst hz
    have hz2:=rlV_z (show (rlV o (inL o.code)).2=0 by rw [hab])
    rw [hz2] at hab
    cases hab
    have HF:=Lib.hid (show fr ((vL o).drop 4)=(S,E) by rw [← hfr];exact (fr_skip (x:=rlV o (inL o.code)) (by rw [hz2])).symm)
    clear hfr hz2
    go_wp2_with (go_at_call 101;((with_reducible refine (HC.out).mono ?_);rintro e w1 ⟨rfl,b1⟩))
    go_roundg gh
    case measure=>omega
    case rel =>
     exact⟨4,by omega,rfl,rfl,by go_num,Lib.hid (hI.out.next b1 (by decide) (fun h=>absurd h (by decide)) HF.out)⟩
   ·have HF:=Lib.hid (show (S,E)=(a,b) by rw [← hfr,← hab];exact fr_hit (x:=rlV o (inL o.code)) (by rw [hab];exact hz))
    have hzb:(b != 0)=true:=by simpa using hz
    clear hfr hab
    have HZ:=Lib.hid hz
    clear hz
    go_wp2_with (go_at_call 101;((with_reducible refine (HC.out).mono ?_);rintro e w1 ⟨rfl,b1⟩))
    try rw [Exit.noGoto_ret]
    go_ret2
    cases HF.out
    exact⟨rfl,gr_tr hI.out.gr (gr_of b1 _),fun h=>absurd h HZ.out⟩
  ·clear p0 p1 p2 p3 p5 p6
   have hfr:=hI.out.fd
   obtain⟨vl,vt,hA⟩:=hI.out.at' (by omega)
   have h0:=hI.out.cd (by omega)
   have hG:=L16.gd_of (hI.out.ob (by omega))
   have hlen:=inL_len h0
   have hll:=len_le (inL o.code) (inL_sl h0)
   have hcl:=HW.out.2.1.c
   have hm:(inL o.code).length≤100000:=by omega
   obtain⟨a,b,hab⟩:∃ a b,eaV (inL o.code) (pJ (inL o.code)) 13=(a,b):=⟨_,_,rfl⟩
   have HC:=Lib.hid (cjumps_at kc vm vc vr vl vt _ a b wr hA hm (fun x hx=>by have:=inL_off h0 x hx;omega) hab)
   clear hA h0 hG hlen hll hcl hm
   by_cases hz:b=0
   ·subst hz
    have hz2:=eaV_z (by decide) (show (eaV (inL o.code) (pJ (inL o.code)) 13).2=0 by rw [hab])
    rw [hz2] at hab
    cases hab
    have HF:=Lib.hid (show fr ((vL o).drop 5)=(S,E) by rw [← hfr];exact (fr_skip (x:=eaV (inL o.code) (pJ (inL o.code)) 13) (by rw [hz2])).symm)
    clear hfr hz2
    go_wp2_with (go_at_call 102;((with_reducible refine (HC.out).mono ?_);rintro e w1 ⟨rfl,b1⟩))
    go_roundg gh
    case measure=>omega
    case rel =>
     exact⟨5,by omega,rfl,rfl,by go_num,Lib.hid (hI.out.next b1 (by decide) (fun h=>absurd h (by decide)) HF.out)⟩
   ·have HF:=Lib.hid (show (S,E)=(a,b) by rw [← hfr,← hab];exact fr_hit (x:=eaV (inL o.code) (pJ (inL o.code)) 13) (by rw [hab];exact hz))
    have hzb:(b != 0)=true:=by simpa using hz
    clear hfr hab
    have HZ:=Lib.hid hz
    clear hz
    go_wp2_with (go_at_call 102;((with_reducible refine (HC.out).mono ?_);rintro e w1 ⟨rfl,b1⟩))
    try rw [Exit.noGoto_ret]
    go_ret2
    cases HF.out
    exact⟨rfl,gr_tr hI.out.gr (gr_of b1 _),fun h=>absurd h HZ.out⟩
  ·clear p0 p1 p2 p3 p4 p6
   have hfr:=hI.out.fd
   obtain⟨vl,vt,hA⟩:=hI.out.at' (by omega)
   have h0:=hI.out.cd (by omega)
   have hG:=L16.gd_of (hI.out.ob (by omega))
   have hlen:=inL_len h0
   have hll:=len_le (inL o.code) (inL_sl h0)
   have hcl:=HW.out.2.1.c
   have hm:(inL o.code).length≤100000:=by omega
   obtain⟨a,b,hab⟩:∃ a b,eaV (inL o.code) (pW (inL o.code)) 14=(a,b):=⟨_,_,rfl⟩
   have HC:=Lib.hid (cwrites_at kc vm vc vr vl vt _ a b wr hA hm hab)
   clear hA h0 hG hlen hll hcl hm
   by_cases hz:b=0
   ·subst hz
    have hz2:=eaV_z (by decide) (show (eaV (inL o.code) (pW (inL o.code)) 14).2=0 by rw [hab])
    rw [hz2] at hab
    cases hab
    have HF:=Lib.hid (show fr ((vL o).drop 6)=(S,E) by rw [← hfr];exact (fr_skip (x:=eaV (inL o.code) (pW (inL o.code)) 14) (by rw [hz2])).symm)
    clear hfr hz2
    go_wp2_with (go_at_call 103;((with_reducible refine (HC.out).mono ?_);rintro e w1 ⟨rfl,b1⟩))
    go_roundg gh
    case measure=>omega
    case rel =>
     exact⟨6,by omega,rfl,rfl,by go_num,Lib.hid (hI.out.next b1 (by decide) (fun h=>absurd h (by decide)) HF.out)⟩
   ·have HF:=Lib.hid (show (S,E)=(a,b) by rw [← hfr,← hab];exact fr_hit (x:=eaV (inL o.code) (pW (inL o.code)) 14) (by rw [hab];exact hz))
    have hzb:(b != 0)=true:=by simpa using hz
    clear hfr hab
    have HZ:=Lib.hid hz
    clear hz
    go_wp2_with (go_at_call 103;((with_reducible refine (HC.out).mono ?_);rintro e w1 ⟨rfl,b1⟩))
    try rw [Exit.noGoto_ret]
    go_ret2
    cases HF.out
    exact⟨rfl,gr_tr hI.out.gr (gr_of b1 _),fun h=>absurd h HZ.out⟩
  ·clear p0 p1 p2 p3 p4 p5
   have hfr:=hI.out.fd
   obtain⟨vl,vt,hA⟩:=hI.out.at' (by omega)
   have h0:=hI.out.cd (by omega)
   have hG:=L16.gd_of (hI.out.ob (by omega))
   have hlen:=inL_len h0
   have hll:=len_le (inL o.code) (inL_sl h0)
   have hcl:=HW.out.2.1.c
   have hm:(inL o.code).length≤100000:=by omega
   obtain⟨a,b,hab⟩:∃ a b,eaV (inL o.code) (pE (inL o.code)) 15=(a,b):=⟨_,_,rfl⟩
   have HC:=Lib.hid (cend_at kc vm vc vr vl vt _ a b wr hA hm (inL_pos hG h0) hab)
   clear hA h0 hG hlen hll hcl hm
   by_cases hz:b=0
   ·subst hz
    have hz2:=eaV_z (by decide) (show (eaV (inL o.code) (pE (inL o.code)) 15).2=0 by rw [hab])
    rw [hz2] at hab
    cases hab
    have HF:=Lib.hid (show fr ((vL o).drop 7)=(S,E) by rw [← hfr];exact (fr_skip (x:=eaV (inL o.code) (pE (inL o.code)) 15) (by rw [hz2])).symm)
    clear hfr hz2
    go_wp2_with (go_at_call 104;((with_reducible refine (HC.out).mono ?_);rintro e w1 ⟨rfl,b1⟩))
    go_roundg gh
    case measure=>omega
    case rel =>
     exact⟨7,by omega,rfl,rfl,by go_num,Lib.hid (hI.out.next b1 (by decide) (fun h=>absurd h (by decide)) HF.out)⟩
   ·have HF:=Lib.hid (show (S,E)=(a,b) by rw [← hfr,← hab];exact fr_hit (x:=eaV (inL o.code) (pE (inL o.code)) 15) (by rw [hab];exact hz))
    have hzb:(b != 0)=true:=by simpa using hz
    clear hfr hab
    have HZ:=Lib.hid hz
    clear hz
    go_wp2_with (go_at_call 104;((with_reducible refine (HC.out).mono ?_);rintro e w1 ⟨rfl,b1⟩))
    try rw [Exit.noGoto_ret]
    go_ret2
    cases HF.out
    exact⟨rfl,gr_tr hI.out.gr (gr_of b1 _),fun h=>absurd h HZ.out⟩
  | zero =>
   obtain rfl:k=7:=by omega
   have HE:=Lib.hid (show (S,E)=(0,0) from hI.out.fd.symm)
   go_wp2
   try rw [Exit.noGoto_ret]
   go_ret2
   cases HE.out
   exact⟨rfl,hI.out.gr,fun _=>hI.out.at' (by omega)⟩
end Go.Proofs.YtdgnjhhieemcaaaGreatDoor.L17
end
section
namespace Go.Proofs.YtdgnjhhieemcaaaGreatDoor.L17
open Go.RowKit L3 L4 L12 L14
open L13 (Ob)
open L16 (chE OA OS Tb tb_below)
attribute [local go_sem] Oper.semAt_some
theorem oa_form {w:World} {vm vc vr:Value} {o:Ob} (h:OA w vm vc vr o):∃ a1 c1 a2 c2 a3 c3,vm=.slice a1 o.maps.length c1∧vc=.slice a2 o.code.length c2∧vr=.slice a3 o.rels.length c3:=by
 obtain⟨a1,c1,h1,-⟩:=L10.df_form rfl h.m
 obtain⟨a2,c2,h2,-⟩:=h.c.form rfl
 obtain⟨a3,c3,h3,-⟩:=L13.ro_form rfl h.r
 exact⟨_,_,_,_,_,_,h1,h2,h3⟩
theorem two_new (w:World) (x:Obj) (vm vc vr:Value):Below w.heap.size w ((w.alloc x).alloc (ckC vm vc vr (.slice none 0 0) (.slice none 0 0)))∧((w.alloc x).alloc (ckC vm vc vr (.slice none 0 0) (.slice none 0 0))).heap[w.heap.size+1]?=some (ckC vm vc vr (.slice none 0 0) (.slice none 0 0)):=by
 refine⟨bch (bnew w _) (bnew _ _),?_⟩
 have:=heap_alloc_new (w.alloc x) (ckC vm vc vr (.slice none 0 0) (.slice none 0 0))
 rwa [World.size_alloc] at this
theorem below_gr {w a b:World} {k:Nat} (h:Below w.heap.size w a) (hg:a.grownBy b (some k)) (hk:w.heap.size≤k):Below w.heap.size w b:=h.grown hg h.size (fun q e=>by cases e;exact hk)
theorem check_two (vm vc vr:Value) (o:Ob) (S E:Int) (w:World) (ho:OA w vm vc vr o) (hs:OS o) (hT:Tb w) (hR:vE o=(S,E)) (x:Obj) (k:Nat) (hk:k=w.heap.size+1) :
  Calls Tryz.prog 59 #[.pointer (some ⟨k,0,none⟩)] ((w.alloc x).alloc (ckC vm vc vr (.slice none 0 0) (.slice none 0 0))) fun e w'=>e=.returned (.tuple #[.int .i64 S,.int .i64 E])∧Below w.heap.size w w'∧(E=0→∃ vl vt,CkA w' (w.heap.size+1) vm vc vr vl vt (inL o.code)):=by
 subst hk
 obtain⟨h1,h2⟩:=two_new w x vm vc vr
 exact (check_at (w.heap.size+1) vm vc vr o S E w _ (Nat.le_succ _) h1 ho hs hT h2 hR).mono fun e w' h=>⟨h.1,below_gr h1 h.2.1 (Nat.le_succ _),h.2.2⟩
theorem vcheck_at (vm vc vr:Value) (o:Ob) (S E:Int) (w:World) (ho:OA w vm vc vr o) (hs:OS o) (hT:Tb w) (hR:vE o=(S,E)) :
  Calls Tryz.prog 29 #[.agg #[vm,vc,vr]] w fun e w'=>e=.returned (.tuple #[.int .i64 S,.int .i64 E])∧Below w.heap.size w w':=by
 have HC:=Lib.hid (fun (x:Obj) (k:Nat) (hk:k=w.heap.size+1)=>check_two vm vc vr o S E w ho hs hT hR x k hk)
 obtain⟨a1,c1,a2,c2,a3,c3,rfl,rfl,rfl⟩:=oa_form ho
 clear ho hs hT hR
 go_enter Tryz.func29,Tryz.ntmps29
 go_wp2_with (go_at_call 59;((with_reducible refine (HC.out _ _ (by simp)).mono ?_);rintro e w1 ⟨rfl,b1,-⟩))
 go_ret2
 exact⟨rfl,b1⟩
theorem vcode_no (vm vc vr:Value) (o:Ob) (S E:Int) (w:World) (ho:OA w vm vc vr o) (hs:OS o) (hT:Tb w) (hR:vE o=(S,E)) (h0:E≠0) :
  Calls Tryz.prog 28 #[.agg #[vm,vc,vr]] w fun e w'=>e=.returned (.tuple #[.slice none 0 0,.int .i64 E])∧Below w.heap.size w w':=by
 have HC:=Lib.hid (fun (x:Obj) (k:Nat) (hk:k=w.heap.size+1)=>check_two vm vc vr o S E w ho hs hT hR x k hk)
 have hzb:(E != 0)=true:=by simpa using h0
 obtain⟨a1,c1,a2,c2,a3,c3,rfl,rfl,rfl⟩:=oa_form ho
 clear ho hs hT hR h0
 go_enter Tryz.func28,Tryz.ntmps28
 go_wp2_with (go_at_call 59;((with_reducible refine (HC.out _ _ (by simp)).mono ?_);rintro e w1 ⟨rfl,b1,-⟩))
 go_ret2
 exact⟨rfl,b1⟩
theorem vcode_own (vm vc vr:Value) (o:Ob) (S:Int) (n:Nat) (w:World) (ho:OA w vm vc vr o) (hs:OS o) (hT:Tb w) (hR:vE o=(S,0)) (hn:(inL o.code).length=n) :
  Calls Tryz.prog 28 #[.agg #[vm,vc,vr]] w fun e w'=>(∃ a c,e=.returned (.tuple #[.slice a n c,.int .i64 0])∧IsAt w' (.slice a n c) (inL o.code)∧w'.ownsRow w.heap.size 45 6 (.slice a n c) n (L5.insL ((inL o.code).map L13.tI)))∧Below w.heap.size w w':=by
 have HC:=Lib.hid (fun (x:Obj) (k:Nat) (hk:k=w.heap.size+1)=>check_two vm vc vr o S 0 w ho hs hT hR x k hk)
 have HN:=Lib.hid hn
 obtain⟨a1,c1,a2,c2,a3,c3,rfl,rfl,rfl⟩:=oa_form ho
 clear ho hs hT hR hn
 go_enter Tryz.func28,Tryz.ntmps28
 go_wp2_with (go_at_call 59;((with_reducible refine (HC.out _ _ (by simp)).mono ?_);rintro e w1 ⟨rfl,b1,hA⟩;obtain⟨vl,vt,hA⟩:=hA rfl;obtain⟨a,c,rfl,-⟩:=is_form HN.out hA.is;obtain⟨x0,x1,x2,x3,x4⟩:=cells5c hA.row;have HI:=Lib.hid (And.intro hA.is hA.ow);clear hA))
 go_ret2
 refine⟨⟨a,c,rfl,HI.out.1,?_⟩,b1⟩
 have:=HI.out.2
 rw [HN.out] at this
 exact own_weak this (Nat.le_trans (Nat.le_succ _) (Nat.le_succ _))
end Go.Proofs.YtdgnjhhieemcaaaGreatDoor.L17
end
