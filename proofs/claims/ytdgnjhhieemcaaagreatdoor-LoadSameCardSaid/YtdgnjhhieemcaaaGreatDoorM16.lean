/- Lemmas and walks of L9Stp, L9Row, L9Ins: what each theorem states; conditions stand in each theorem. -/
import Derived.Test.YtdgnjhhieemcaaaGreatDoorM15
set_option maxHeartbeats 8000000
set_option maxRecDepth 100000
section
namespace Go.Proofs.YtdgnjhhieemcaaaGreatDoor.L9
open Go.RowKit
attribute [local go_sem] Oper.semAt_some
def Tab (w:World):Prop:=L1.Wid w∧L2.Regs w
theorem Tab.wid {w:World} (h:Tab w):L1.Wid w:=h.1
theorem Tab.reg {w:World} (h:Tab w):L2.Regs w:=h.2
theorem Tab.gr {w w':World} {g:Nat} (h:Tab w) (hg:w.grownBy w' (some g)) (h2:3≤g):Tab w':=by
 obtain⟨⟨t,fr,h0⟩,⟨t',fr',h1⟩⟩:=h
 exact⟨⟨t,fr,(hg.block _ (lt_of_block h0) (by simp;omega)).trans h0⟩,⟨t',fr',(hg.block _ (lt_of_block h1) (by simp;omega)).trans h1⟩⟩
theorem Tab.below {w w':World} {B:Nat} (h:Tab w) (hb:Below B w w') (hB:3≤B):Tab w':=by
 obtain⟨⟨t,fr,h0⟩,⟨t',fr',h1⟩⟩:=h
 exact⟨⟨t,fr,(hb.block _ (by omega)).trans h0⟩,⟨t',fr',(hb.block _ (by omega)).trans h1⟩⟩
theorem Tab.lt {w:World} (h:Tab w):3≤w.heap.size:=by
 obtain⟨⟨t,fr,h0⟩,⟨t',fr',h1⟩⟩:=h
 have:=lt_of_block h0
 have:=lt_of_block h1
 omega
theorem rd_row {B g:Nat} {w:World} {s:St} (h:RdAt B g w s):∃ v,w.heap[g]?=some (.cells (rdC v s.x s.tg s.mp) 327):=by
 obtain⟨b,o,n,cap,xs,_,_,_,_,_,_,_,_,hr⟩:=h
 exact⟨_,hr⟩
theorem rd_set {B g:Nat} {w:World} {s s':St} (h:RdAt B g w s) (i:Nat) (u:Value) (e:∀ v,(rdC v s.x s.tg s.mp).setIfInBounds i u=rdC v s'.x s'.tg s'.mp) (hs:s'.rest=s.rest):RdAt B g (w.setCell ⟨g,i,none⟩ u) s':=by
 obtain⟨b,o,n,cap,xs,hbB,hBg,hcp,hn,hm,htx,hsz,hc,hr⟩:=h
 refine⟨b,o,n,cap,xs,hbB,hBg,hcp,hn,hm,htx.trans hs.symm,by rw [hs];exact hsz,fun j hj=>?_,?_⟩
 ·have hbl:∀ i',(w.setCell ⟨g,i,none⟩ u).cell? ⟨b,i',none⟩=w.cell? ⟨b,i',none⟩:=fun i'=>World.cell?_of_block (Below.heap_setCell _ _ _ _ (by show b≠g;omega))
  rw [hbl,hbl]
  exact hc j hj
 ·rw [← e];exact row_set hr i u
theorem rd_gr {B g:Nat} {w w':World} {s:St} (h:RdAt B g w s) (hg:Below w.heap.size w w'):RdAt B g w' s:=by
 obtain⟨b,o,n,cap,xs,hbB,hBg,hcp,hn,hm,htx,hsz,hc,hr⟩:=h
 have hgl:=lt_of_block hr
 exact⟨b,o,n,cap,xs,hbB,hBg,hcp,hn,hm,htx,hsz,hc.below (by omega) hg,(hg.block g hgl).trans hr⟩
theorem rd_B {B g:Nat} {w:World} {s:St} (h:RdAt B g w s):B≤g:=by
 obtain⟨b,o,n,cap,xs,hbB,hBg,_⟩:=h
 exact hBg
theorem identifier_at (t:ByteArray) (w:World) (hR:L2.Regs w) (u:ByteArray) (x:Int) (hu:(if L2.vd t then t else eB)=u) (hx:naV t=x) :
  Calls Tryz.prog 227 #[.string t] w fun e w'=>e=.returned (.tuple #[.string u,.int .i64 x])∧Below w.heap.size w w':=by
 obtain⟨b,hb⟩:∃ b,L2.vd t=b:=⟨_,rfl⟩
 have HV:=Lib.hid (L2.valid_at t b w hR hb)
 unfold naV at hx
 rw [hb] at hu hx
 clear hb hR
 cases b
 ·obtain rfl:u=⟨#[]⟩:=hu.symm
  obtain rfl:x=7:=hx.symm
  clear hu hx
  go_enter Tryz.func227,Tryz.ntmps227
  go_wp2_with (go_at_call 218;((with_reducible refine (HV.out).mono ?_);rintro e w1 ⟨rfl,hb1⟩))
  go_ret2
  exact⟨rfl,hb1⟩
 ·obtain rfl:u=t:=hu.symm
  obtain rfl:x=0:=hx.symm
  clear hu hx
  go_enter Tryz.func227,Tryz.ntmps227
  go_wp2_with (go_at_call 218;((with_reducible refine (HV.out).mono ?_);rintro e w1 ⟨rfl,hb1⟩))
  go_ret2
  exact⟨rfl,hb1⟩
theorem preg_at (t:ByteArray) (w:World) (hR:L2.Regs w) (v x:Int) (h1:(reV t).1=v) (h2:(reV t).2=x) :
  Calls Tryz.prog 296 #[.string t] w fun e w'=>e=.returned (.tuple #[.int .i64 v,.int .i64 x])∧w=w':=by
 subst h1 h2
 unfold reV
 obtain⟨b,hb⟩:∃ b,(L2.rg t).2=b:=⟨_,rfl⟩
 obtain⟨n,hn⟩:∃ n:Int,((L2.rg t).1:Int)=n:=⟨_,rfl⟩
 have HP:=Lib.hid (L2.register_at t n b w hR hn hb)
 rw [hb,hn]
 clear hb hn hR
 cases b
 ·go_enter Tryz.func296,Tryz.ntmps296
  go_wp2_with (go_at_call 252;((with_reducible refine (HP.out).mono ?_);rintro e w1 ⟨rfl,rfl⟩))
  go_ret2
  exact⟨rfl,rfl⟩
 ·go_enter Tryz.func296,Tryz.ntmps296
  go_wp2_with (go_at_call 252;((with_reducible refine (HP.out).mono ?_);rintro e w1 ⟨rfl,rfl⟩))
  go_ret2
  exact⟨rfl,rfl⟩
theorem pnum_at (t:ByteArray) (b:Int) (w:World) (hW:L1.Wid w) (v x:Int) (h1:(nuV t b).1=v) (h2:(nuV t b).2=x) :
  Calls Tryz.prog 257 #[.string t,.int .i64 b] w fun e w'=>e=.returned (.tuple #[.int .i64 v,.int .i64 x])∧Below w.heap.size w w':=by
 subst h1 h2
 exact L1.parse_any t b w hW
abbrev StpP (B g:Nat) (k:Rk) (s:St) (w:World) (e:Ending) (w':World):Prop:=e=.returned (.int .i64 (stp k s).2)∧RdAt B g w' (stp k s).1∧w.grownBy w' (some g)
section
variable (B g:Nat) (s:St) (w:World) (h:RdAt B g w s)
include B g s w h
theorem dst_at (hk:okS .dst s=true) (hT:Tab w) (h2:3≤B):Calls Tryz.prog 278 #[.pointer (some ⟨g,0,none⟩)] w fun e w'=>StpP B g .dst s w e w':=by
 obtain⟨p,q,hp⟩:∃ p q,nx eB s.rest=(p,q):=⟨_,_,rfl⟩
 obtain⟨v,hv⟩:∃ v,(reV p).1=v:=⟨_,rfl⟩
 obtain⟨x,hx⟩:∃ x,(reV p).2=x:=⟨_,rfl⟩
 have e0:stp .dst s=(⟨q,{ s.x with dst:=v },s.tg,s.mp⟩,x):=by simp only [stp,hp,hv,hx]
 have hBg:=rd_B h
 have HNX:=Lib.hid (next_at B g s w h hk p q hp)
 have HRG:=Lib.hid (fun W (hR:L2.Regs W)=>preg_at p W hR v x hv hx)
 have HT:=Lib.hid hT
 unfold StpP
 rw [e0]
 clear hp hv hx e0 hk h hT
 go_enter Tryz.func278,Tryz.ntmps278
 go_wp2_with (first|(go_at_call 297;((with_reducible refine (HNX.out).mono ?_);rintro e w1 ⟨rfl,hr1,hg1⟩;obtain⟨vv,hrw⟩:=rd_row hr1;obtain⟨r0,r1,r2,r3,r4,r5,r6,r7,r8⟩:=cells9 hrw;have fz:=frozen_all hrw 3;clear hrw r0 r1 r2 r4 r5 r6 r7 r8))|(go_at_call 296;((with_reducible refine (HRG.out _ (HT.out.gr hg1 (by omega)).reg).mono ?_);rintro e w2 ⟨rfl,rfl⟩)))
 go_ret
 exact⟨rfl,rd_set hr1 3 _ (fun _=>rfl) rfl,gr_set hg1 3 _⟩
theorem src_at (hk:okS .src s=true) (hT:Tab w) (h2:3≤B):Calls Tryz.prog 280 #[.pointer (some ⟨g,0,none⟩)] w fun e w'=>StpP B g .src s w e w':=by
 obtain⟨p,q,hp⟩:∃ p q,nx eB s.rest=(p,q):=⟨_,_,rfl⟩
 obtain⟨v,hv⟩:∃ v,(reV p).1=v:=⟨_,rfl⟩
 obtain⟨x,hx⟩:∃ x,(reV p).2=x:=⟨_,rfl⟩
 have e0:stp .src s=(⟨q,{ s.x with src:=v },s.tg,s.mp⟩,x):=by simp only [stp,hp,hv,hx]
 have hBg:=rd_B h
 have HNX:=Lib.hid (next_at B g s w h hk p q hp)
 have HRG:=Lib.hid (fun W (hR:L2.Regs W)=>preg_at p W hR v x hv hx)
 have HT:=Lib.hid hT
 unfold StpP
 rw [e0]
 clear hp hv hx e0 hk h hT
 go_enter Tryz.func280,Tryz.ntmps280
 go_wp2_with (first|(go_at_call 297;((with_reducible refine (HNX.out).mono ?_);rintro e w1 ⟨rfl,hr1,hg1⟩;obtain⟨vv,hrw⟩:=rd_row hr1;obtain⟨r0,r1,r2,r3,r4,r5,r6,r7,r8⟩:=cells9 hrw;have fz:=frozen_all hrw 4;clear hrw r0 r1 r2 r3 r5 r6 r7 r8))|(go_at_call 296;((with_reducible refine (HRG.out _ (HT.out.gr hg1 (by omega)).reg).mono ?_);rintro e w2 ⟨rfl,rfl⟩)))
 go_ret
 exact⟨rfl,rd_set hr1 4 _ (fun _=>rfl) rfl,gr_set hg1 4 _⟩
theorem tgt_at (hk:okS .tgt s=true) (hT:Tab w) (h2:3≤B):Calls Tryz.prog 281 #[.pointer (some ⟨g,0,none⟩)] w fun e w'=>StpP B g .tgt s w e w':=by
 obtain⟨p,q,hp⟩:∃ p q,nx eB s.rest=(p,q):=⟨_,_,rfl⟩
 obtain⟨u,hu⟩:∃ u,(if L2.vd p then p else eB)=u:=⟨_,rfl⟩
 obtain⟨x,hx⟩:∃ x,naV p=x:=⟨_,rfl⟩
 have e0:stp .tgt s=(⟨q,s.x,u,s.mp⟩,x):=by simp only [stp,hp,hu,hx]
 have hBg:=rd_B h
 have HNX:=Lib.hid (next_at B g s w h hk p q hp)
 have HID:=Lib.hid (fun W (hR:L2.Regs W)=>identifier_at p W hR u x hu hx)
 have HT:=Lib.hid hT
 unfold StpP
 rw [e0]
 clear hp hu hx e0 hk h hT
 go_enter Tryz.func281,Tryz.ntmps281
 go_wp2_with (first|(go_at_call 297;((with_reducible refine (HNX.out).mono ?_);rintro e w1 ⟨rfl,hr1,hg1⟩))|(go_at_call 227;((with_reducible refine (HID.out _ (HT.out.gr hg1 (by omega)).reg).mono ?_);rintro e w2 ⟨rfl,hb2⟩;have hr2:=rd_gr hr1 hb2;obtain⟨vv,hrw⟩:=rd_row hr2;obtain⟨r0,r1,r2,r3,r4,r5,r6,r7,r8⟩:=cells9 hrw;have fz:=frozen_all hrw 7;clear hrw r0 r1 r2 r3 r4 r5 r6 r8)))
 go_ret
 exact⟨rfl,rd_set hr2 7 _ (fun _=>rfl) rfl,gr_set (gr_trans hg1 (gr_below hb2)) 7 _⟩
theorem mpn_at (hk:okS .mpn s=true) (hT:Tab w) (h2:3≤B):Calls Tryz.prog 286 #[.pointer (some ⟨g,0,none⟩)] w fun e w'=>StpP B g .mpn s w e w':=by
 obtain⟨p,q,hp⟩:∃ p q,nx eB s.rest=(p,q):=⟨_,_,rfl⟩
 obtain⟨u,hu⟩:∃ u,(if L2.vd p then p else eB)=u:=⟨_,rfl⟩
 obtain⟨x,hx⟩:∃ x,naV p=x:=⟨_,rfl⟩
 have e0:stp .mpn s=(⟨q,s.x,s.tg,u⟩,x):=by simp only [stp,hp,hu,hx]
 have hBg:=rd_B h
 have HNX:=Lib.hid (next_at B g s w h hk p q hp)
 have HID:=Lib.hid (fun W (hR:L2.Regs W)=>identifier_at p W hR u x hu hx)
 have HT:=Lib.hid hT
 unfold StpP
 rw [e0]
 clear hp hu hx e0 hk h hT
 go_enter Tryz.func286,Tryz.ntmps286
 go_wp2_with (first|(go_at_call 297;((with_reducible refine (HNX.out).mono ?_);rintro e w1 ⟨rfl,hr1,hg1⟩))|(go_at_call 227;((with_reducible refine (HID.out _ (HT.out.gr hg1 (by omega)).reg).mono ?_);rintro e w2 ⟨rfl,hb2⟩;have hr2:=rd_gr hr1 hb2;obtain⟨vv,hrw⟩:=rd_row hr2;obtain⟨r0,r1,r2,r3,r4,r5,r6,r7,r8⟩:=cells9 hrw;have fz:=frozen_all hrw 8;clear hrw r0 r1 r2 r3 r4 r5 r6 r7)))
 go_ret
 exact⟨rfl,rd_set hr2 8 _ (fun _=>rfl) rfl,gr_set (gr_trans hg1 (gr_below hb2)) 8 _⟩
theorem immed_at (hT:Tab w) (t:ByteArray) (b v x:Int) (hv:(nuV t b).1=v) (hx:(nuV t b).2=x):Calls Tryz.prog 298 #[.pointer (some ⟨g,0,none⟩),.string t,.int .i64 b] w fun e w'=>e=.returned (.int .i64 x)∧RdAt B g w' ⟨s.rest,{ s.x with imm:=v },s.tg,s.mp⟩∧w.grownBy w' (some g):=by
 have HN:=Lib.hid (pnum_at t b w hT.1 v x hv hx)
 clear hv hx hT
 go_enter Tryz.func298,Tryz.ntmps298
 go_wp2_with (go_at_call 257;((with_reducible refine (HN.out).mono ?_);rintro e w2 ⟨rfl,hb2⟩;have hr2:=rd_gr h hb2;obtain⟨vv,hrw⟩:=rd_row hr2;obtain⟨r0,r1,r2,r3,r4,r5,r6,r7,r8⟩:=cells9 hrw;have fz:=frozen_all hrw 6;clear hrw r0 r1 r2 r3 r4 r5 r7 r8))
 go_ret
 exact⟨rfl,rd_set hr2 6 _ (fun _=>rfl) rfl,gr_set (gr_below hb2) 6 _⟩
theorem i32_at (hk:okS .i32 s=true) (hT:Tab w) (h2:3≤B):Calls Tryz.prog 284 #[.pointer (some ⟨g,0,none⟩)] w fun e w'=>StpP B g .i32 s w e w':=by
 obtain⟨p,q,hp⟩:∃ p q,nx eB s.rest=(p,q):=⟨_,_,rfl⟩
 obtain⟨v,hv⟩:∃ v,(nuV p 32).1=v:=⟨_,rfl⟩
 obtain⟨x,hx⟩:∃ x,(nuV p 32).2=x:=⟨_,rfl⟩
 have e0:stp .i32 s=(⟨q,{ s.x with imm:=v },s.tg,s.mp⟩,x):=by simp only [stp,hp,hv,hx]
 have hBg:=rd_B h
 have HNX:=Lib.hid (next_at B g s w h hk p q hp)
 have HIM:=Lib.hid (fun W (hr:RdAt B g W ⟨q,s.x,s.tg,s.mp⟩) (hT:Tab W)=>immed_at B g _ W hr hT p 32 v x hv hx)
 have HT:=Lib.hid hT
 unfold StpP
 rw [e0]
 clear hp hv hx e0 hk h hT
 go_enter Tryz.func284,Tryz.ntmps284
 go_wp2_with (first|(go_at_call 297;((with_reducible refine (HNX.out).mono ?_);rintro e w1 ⟨rfl,hr1,hg1⟩))|(go_at_call 298;((with_reducible refine (HIM.out _ hr1 (HT.out.gr hg1 (by omega))).mono ?_);rintro e w2 ⟨rfl,hr2,hg2⟩)))
 go_ret
 exact⟨rfl,hr2,gr_trans hg1 hg2⟩
theorem i64_at (hk:okS .i64 s=true) (hT:Tab w) (h2:3≤B):Calls Tryz.prog 285 #[.pointer (some ⟨g,0,none⟩)] w fun e w'=>StpP B g .i64 s w e w':=by
 obtain⟨p,q,hp⟩:∃ p q,nx eB s.rest=(p,q):=⟨_,_,rfl⟩
 obtain⟨v,hv⟩:∃ v,(nuV p 64).1=v:=⟨_,rfl⟩
 obtain⟨x,hx⟩:∃ x,(nuV p 64).2=x:=⟨_,rfl⟩
 have e0:stp .i64 s=(⟨q,{ s.x with imm:=v },s.tg,s.mp⟩,x):=by simp only [stp,hp,hv,hx]
 have hBg:=rd_B h
 have HNX:=Lib.hid (next_at B g s w h hk p q hp)
 have HIM:=Lib.hid (fun W (hr:RdAt B g W ⟨q,s.x,s.tg,s.mp⟩) (hT:Tab W)=>immed_at B g _ W hr hT p 64 v x hv hx)
 have HT:=Lib.hid hT
 unfold StpP
 rw [e0]
 clear hp hv hx e0 hk h hT
 go_enter Tryz.func285,Tryz.ntmps285
 go_wp2_with (first|(go_at_call 297;((with_reducible refine (HNX.out).mono ?_);rintro e w1 ⟨rfl,hr1,hg1⟩))|(go_at_call 298;((with_reducible refine (HIM.out _ hr1 (HT.out.gr hg1 (by omega))).mono ?_);rintro e w2 ⟨rfl,hr2,hg2⟩)))
 go_ret
 exact⟨rfl,hr2,gr_trans hg1 hg2⟩
theorem sec_at (hk:okS .sec s=true) (hT:Tab w) (h2:3≤B):Calls Tryz.prog 279 #[.pointer (some ⟨g,0,none⟩)] w fun e w'=>StpP B g .sec s w e w':=by
 obtain⟨p,q,hp⟩:∃ p q,nx eB s.rest=(p,q):=⟨_,_,rfl⟩
 have hBg:=rd_B h
 have HNX:=Lib.hid (next_at B g s w h hk p q hp)
 have HT:=Lib.hid hT
 unfold StpP
 obtain⟨n,hn⟩:∃ n:Int,((L2.rg p).1:Int)=n:=⟨_,rfl⟩
 cases hb:(L2.rg p).2
 ·obtain⟨v,hv⟩:∃ v,(nuV p 32).1=v:=⟨_,rfl⟩
  obtain⟨x,hx⟩:∃ x,(nuV p 32).2=x:=⟨_,rfl⟩
  have e0:stp .sec s=(⟨q,{ s.x with imm:=v },s.tg,s.mp⟩,x):=by simp only [stp,hp,seV,hb,hv,hx];rfl
  have HRG:=Lib.hid (fun W (hR:L2.Regs W)=>L2.register_at p n false W hR hn hb)
  have HIM:=Lib.hid (fun W (hr:RdAt B g W ⟨q,s.x,s.tg,s.mp⟩) (hT:Tab W)=>immed_at B g _ W hr hT p 32 v x hv hx)
  rw [e0]
  clear hp hv hx e0 hk h hT hn hb
  go_enter Tryz.func279,Tryz.ntmps279
  go_wp2_with (first|(go_at_call 297;((with_reducible refine (HNX.out).mono ?_);rintro e w1 ⟨rfl,hr1,hg1⟩))|(go_at_call 252;((with_reducible refine (HRG.out _ (HT.out.gr hg1 (by omega)).reg).mono ?_);rintro e w2 ⟨rfl,rfl⟩))|(go_at_call 298;((with_reducible refine (HIM.out _ hr1 (HT.out.gr hg1 (by omega))).mono ?_);rintro e w2 ⟨rfl,hr2,hg2⟩)))
  go_ret
  exact⟨rfl,hr2,gr_trans hg1 hg2⟩
 ·have e0:stp .sec s=(⟨q,{ s.x with reg:=true,src:=n },s.tg,s.mp⟩,0):=by simp only [stp,hp,seV,hb,hn];rfl
  have HRG:=Lib.hid (fun W (hR:L2.Regs W)=>L2.register_at p n true W hR hn hb)
  rw [e0]
  clear hp e0 hk h hT hn hb
  go_enter Tryz.func279,Tryz.ntmps279
  go_wp2_with (first|(go_at_call 297;((with_reducible refine (HNX.out).mono ?_);rintro e w1 ⟨rfl,hr1,hg1⟩;obtain⟨vv,hrw⟩:=rd_row hr1;obtain⟨r0,r1,r2,r3,r4,r5,r6,r7,r8⟩:=cells9 hrw;have fy:=frozen_all hrw 4;have fz:=frozen_all hrw 2;clear hrw r0 r1 r3 r5 r6 r7 r8))|(go_at_call 252;((with_reducible refine (HRG.out _ (HT.out.gr hg1 (by omega)).reg).mono ?_);rintro e w2 ⟨rfl,rfl⟩)))
  go_ret
  exact⟨rfl,rd_set (s':=⟨q,{ s.x with reg:=true,src:=n },s.tg,s.mp⟩) (rd_set (s':=⟨q,{ s.x with reg:=true },s.tg,s.mp⟩) hr1 2 _ (fun _=>rfl) rfl) 4 _ (fun _=>rfl) rfl,gr_set (gr_set hg1 2 _) 4 _⟩
end
theorem heV_four (p:ByteArray):(heV p=0∧(p.toList==[108,111,111,107,117,112])=false∧(p.toList==[117,112,100,97,116,101])=false∧(p.toList==[100,101,108,101,116,101])=false)∨(heV p=1∧(p.toList==[108,111,111,107,117,112])=true)∨(heV p=2∧(p.toList==[108,111,111,107,117,112])=false∧(p.toList==[117,112,100,97,116,101])=true)∨(heV p=3∧(p.toList==[108,111,111,107,117,112])=false∧(p.toList==[117,112,100,97,116,101])=false∧(p.toList==[100,101,108,101,116,101])=true):=by
 unfold heV
 by_cases h1:p=⟨#[108,111,111,107,117,112]⟩
 ·rw [if_pos h1];exact .inr (.inl ⟨rfl,eqb h1⟩)
 rw [if_neg h1]
 by_cases h2:p=⟨#[117,112,100,97,116,101]⟩
 ·rw [if_pos h2];exact .inr (.inr (.inl ⟨rfl,beqt_ne h1,eqb h2⟩))
 rw [if_neg h2]
 by_cases h3:p=⟨#[100,101,108,101,116,101]⟩
 ·rw [if_pos h3];exact .inr (.inr (.inr ⟨rfl,beqt_ne h1,beqt_ne h2,eqb h3⟩))
 rw [if_neg h3]
 exact .inl ⟨rfl,beqt_ne h1,beqt_ne h2,beqt_ne h3⟩
theorem hlp_at (B g:Nat) (s:St) (w:World) (h:RdAt B g w s) (hk:okS .hlp s=true):Calls Tryz.prog 282 #[.pointer (some ⟨g,0,none⟩)] w fun e w'=>StpP B g .hlp s w e w':=by
 obtain⟨p,q,hp⟩:∃ p q,nx eB s.rest=(p,q):=⟨_,_,rfl⟩
 have HNX:=Lib.hid (next_at B g s w h hk p q hp)
 unfold StpP
 rcases heV_four p with ⟨hv,t1,t2,t3⟩|⟨hv,t1⟩|⟨hv,t1,t2⟩|⟨hv,t1,t2,t3⟩
 ·have e0:stp .hlp s=(⟨q,s.x,s.tg,s.mp⟩,7):=by simp only [stp,hp,hv];rfl
  rw [e0]
  clear hp hv e0 hk h
  go_enter Tryz.func282,Tryz.ntmps282
  go_wp2_with (go_at_call 297;((with_reducible refine (HNX.out).mono ?_);rintro e w1 ⟨rfl,hr1,hg1⟩))
  go_ret
  exact⟨rfl,hr1,hg1⟩
 ·have e0:stp .hlp s=(⟨q,{ s.x with imm:=1 },s.tg,s.mp⟩,0):=by simp only [stp,hp,hv];rfl
  rw [e0]
  clear hp hv e0 hk h
  go_enter Tryz.func282,Tryz.ntmps282
  go_wp2_with (go_at_call 297;((with_reducible refine (HNX.out).mono ?_);rintro e w1 ⟨rfl,hr1,hg1⟩;obtain⟨vv,hrw⟩:=rd_row hr1;obtain⟨r0,r1,r2,r3,r4,r5,r6,r7,r8⟩:=cells9 hrw;have fz:=frozen_all hrw 6;clear hrw r0 r1 r2 r3 r4 r5 r7 r8))
  go_ret
  exact⟨rfl,rd_set hr1 6 _ (fun _=>rfl) rfl,gr_set hg1 6 _⟩
 ·have e0:stp .hlp s=(⟨q,{ s.x with imm:=2 },s.tg,s.mp⟩,0):=by simp only [stp,hp,hv];rfl
  rw [e0]
  clear hp hv e0 hk h
  go_enter Tryz.func282,Tryz.ntmps282
  go_wp2_with (go_at_call 297;((with_reducible refine (HNX.out).mono ?_);rintro e w1 ⟨rfl,hr1,hg1⟩;obtain⟨vv,hrw⟩:=rd_row hr1;obtain⟨r0,r1,r2,r3,r4,r5,r6,r7,r8⟩:=cells9 hrw;have fz:=frozen_all hrw 6;clear hrw r0 r1 r2 r3 r4 r5 r7 r8))
  go_ret
  exact⟨rfl,rd_set hr1 6 _ (fun _=>rfl) rfl,gr_set hg1 6 _⟩
 ·have e0:stp .hlp s=(⟨q,{ s.x with imm:=3 },s.tg,s.mp⟩,0):=by simp only [stp,hp,hv];rfl
  rw [e0]
  clear hp hv e0 hk h
  go_enter Tryz.func282,Tryz.ntmps282
  go_wp2_with (go_at_call 297;((with_reducible refine (HNX.out).mono ?_);rintro e w1 ⟨rfl,hr1,hg1⟩;obtain⟨vv,hrw⟩:=rd_row hr1;obtain⟨r0,r1,r2,r3,r4,r5,r6,r7,r8⟩:=cells9 hrw;have fz:=frozen_all hrw 6;clear hrw r0 r1 r2 r3 r4 r5 r7 r8))
  go_ret
  exact⟨rfl,rd_set hr1 6 _ (fun _=>rfl) rfl,gr_set hg1 6 _⟩
theorem head_tok {B g:Nat} {w:World} {s:St} (h:RdAt B g w s) (h0:s.rest≠[]):∃ (b o n cap:Nat) (T:ByteArray),w.heap[g]?=some (.cells (rdC (.slice (some ⟨b,o,none⟩) n cap) s.x s.tg s.mp) 327)∧0<n∧w.cell? ⟨b,o,none⟩=some (.string T)∧s.rest.head?=some T:=by
 obtain⟨b,o,n,cap,xs,hbB,hBg,hcp,hn,hm,htx,hsz,hc,hr⟩:=h
 cases xs with
 | nil=>exact absurd htx.symm h0
 | cons x r =>
  refine⟨b,o,n,cap,x.1,hr,by rw [← hn];simp,?_,by rw [← htx];rfl⟩
  have:=(hc 0 (by simp)).1
  simpa using this
theorem off_at (B g:Nat) (s:St) (w:World) (h:RdAt B g w s) (hk:okS .off s=true) (hT:Tab w) (h2:3≤B):Calls Tryz.prog 283 #[.pointer (some ⟨g,0,none⟩)] w fun e w'=>StpP B g .off s w e w':=by
 have hne:s.rest≠[]:=fun e=>by simp [okS,e,hasW] at hk
 obtain⟨b,o,n,cap,T,hr,hn0,c0,hT0⟩:=head_tok h hne
 have hBg:=rd_B h
 have HT:=Lib.hid hT
 unfold StpP
 obtain⟨r0,r1,r2,r3,r4,r5,r6,r7,r8⟩:=cells9 hr
 clear r1 r2 r3 r4 r5 r6 r7 r8 hr
 by_cases hS:T=tShu
 ·have e0:stp .off s=(s,0):=by simp only [stp,hT0,hS];rfl
  have t1:(T.toList==[93])=true:=eqb hS
  rw [e0]
  clear e0 hk hS hT hne hT0
  go_enter Tryz.func283,Tryz.ntmps283
  go_wp2
  go_ret
  exact⟨rfl,h,gr_refl _ _⟩
 ·obtain⟨p,q,hp⟩:∃ p q,nx eB s.rest=(p,q):=⟨_,_,rfl⟩
  obtain⟨v,hv⟩:∃ v,(nuV p 16).1=v:=⟨_,rfl⟩
  obtain⟨x,hx⟩:∃ x,(nuV p 16).2=x:=⟨_,rfl⟩
  have hS':¬ s.rest.head?=some tShu:=fun e=>hS (by rw [hT0] at e;exact Option.some.inj e)
  have e0:stp .off s=(⟨q,{ s.x with off:=v },s.tg,s.mp⟩,x):=by simp only [stp,hp,hv,hx,if_neg hS']
  have hk':hasW s.rest=true:=by simpa [okS,hS'] using hk
  have HNX:=Lib.hid (next_at B g s w h hk' p q hp)
  have HN:=Lib.hid (fun W (hW:L1.Wid W)=>pnum_at p 16 W hW v x hv hx)
  have t1:(T.toList==[93])=false:=beqt_ne hS
  rw [e0]
  clear e0 hk hS hS' hT hne hT0 hp hv hx hk' h
  go_enter Tryz.func283,Tryz.ntmps283
  go_wp2_with (first|(go_at_call 297;((with_reducible refine (HNX.out).mono ?_);rintro e w1 ⟨rfl,hr1,hg1⟩;clear r0 c0))|(go_at_call 257;((with_reducible refine (HN.out _ (HT.out.gr hg1 (by omega)).wid).mono ?_);rintro e w2 ⟨rfl,hb2⟩;have hr2:=rd_gr hr1 hb2;obtain⟨vv,hrw⟩:=rd_row hr2;obtain⟨r0,r1,r2,r3,r4,r5,r6,r7,r8⟩:=cells9 hrw;have fz:=frozen_all hrw 5;clear hrw r0 r1 r2 r3 r4 r6 r7 r8)))
  go_ret
  exact⟨rfl,rd_set hr2 5 _ (fun _=>rfl) rfl,gr_set (gr_trans hg1 (gr_below hb2)) 5 _⟩
end Go.Proofs.YtdgnjhhieemcaaaGreatDoor.L9
end
section
namespace Go.Proofs.YtdgnjhhieemcaaaGreatDoor.L9
open Go.RowKit
attribute [local go_sem] Oper.semAt_some
def fnK:Rk→Nat
 | .dst=>278
 | .sec=>279
 | .src=>280
 | .tgt=>281
 | .hlp=>282
 | .off=>283
 | .i32=>284
 | .i64=>285
 | .mpn=>286
def fnV (g:Nat) (k:Rk):Value:=.func (.func (fnK k)) #[.pointer (some ⟨g,0,none⟩)] #[]
def FnAt (w:World) (v:Value) (ks:List Rk) (g:Nat):Prop:=(∃ k0,v=.slice (some ⟨k0,0,none⟩) ks.length ks.length∧w.heap[k0]?=some (.cells (ks.map (fnV g)).toArray 332))∨(ks=[]∧v=.slice none 0 0)
def RowP (g:Nat) (f:Int) (w:World) (e:Ending) (w':World):Prop:=∃ v1 v2,e=.returned (.tuple #[v1,v2])∧L8.StAt w' v1 (shV f)∧FnAt w' v2 (ksV f) g∧Below w.heap.size w w'
theorem rowP_mk {g:Nat} {f:Int} {w w1:World} {a c:Array Value} {n m:Nat} (l:List ByteArray) (ks:List Rk) (hb:Below w.heap.size w w1) (h1:shV f=l) (h2:ksV f=ks) (h3:(L8.stC l).toArray=a) (h4:(ks.map (fnV g)).toArray=c) (h5:l.length=n) (h6:ks.length=m) :
  RowP g f w (.returned (.tuple #[.slice (some ⟨w1.heap.size,0,none⟩) n n,.slice (some ⟨w1.heap.size+1,0,none⟩) m m])) ((w1.alloc (.cells a 9)).alloc (.cells c 332)):=by
 subst h3 h4 h5 h6
 refine⟨_,_,rfl,?_,?_,L2.bch (L2.bch hb (L8.bnew _ _)) (L8.bnew _ _)⟩
 ·rw [h1];exact (st_new w1 l _).below (L8.bnew _ _)
 ·rw [h2]
  refine .inl ⟨w1.heap.size+1,rfl,?_⟩
  have:=heap_alloc_last (w1.alloc (.cells (L8.stC l).toArray 9)) (.cells (ks.map (fnV g)).toArray 332)
  simpa using this
theorem rowP_mk0 {g:Nat} {f:Int} {w w1:World} {a:Array Value} {n:Nat} (l:List ByteArray) (hb:Below w.heap.size w w1) (h1:shV f=l) (h2:ksV f=[]) (h3:(L8.stC l).toArray=a) (h5:l.length=n) :
  RowP g f w (.returned (.tuple #[.slice (some ⟨w1.heap.size,0,none⟩) n n,.slice none 0 0])) (w1.alloc (.cells a 9)):=by
 subst h3 h5
 exact⟨_,_,rfl,by rw [h1];exact st_new w1 l _,by rw [h2];exact .inr ⟨rfl,rfl⟩,L2.bch hb (L8.bnew _ _)⟩
theorem row_at (B g:Nat) (s:St) (w:World) (h:RdAt B g w s) (f:Int) (hf:L3.frm (L3.ix s.x.op)=f) (hf0:0≤f∧f≤11):Calls Tryz.prog 260 #[.pointer (some ⟨g,0,none⟩)] w fun e w'=>RowP g f w e w':=by
 have hmf:∀ (fn:Fn) (first cap:Array Value) (w:World),(Instr.makeFunc fn first cap).run Tryz.prog w=.ok (.func fn first cap) w:=fun _ _ _ _=>rfl
 obtain⟨vv,hr⟩:=rd_row h
 obtain⟨r0,r1,r2,r3,r4,r5,r6,r7,r8⟩:=cells9 hr
 have HF:=Lib.hid (fun w=>L4.form_at s.x.op f w hf)
 generalize s.x.op=op at r1 HF
 clear r0 r2 r3 r4 r5 r6 r7 r8 hr h hf
 have hfs:f=0∨f=1∨f=2∨f=3∨f=4∨f=5∨f=6∨f=7∨f=8∨f=9∨f=10∨f=11:=by omega
 clear hf0
 rcases hfs with rfl|rfl|rfl|rfl|rfl|rfl|rfl|rfl|rfl|rfl|rfl|rfl
 all_goals
  go_enter Tryz.func260,Tryz.ntmps260
  go_wp2_with (go_at_call 62;((with_reducible refine (HF.out _).mono ?_);rintro e w1 ⟨rfl,hb1⟩))
  go_ret2
 ·exact rowP_mk [sww,swmw] [.dst,.sec] hb1 rfl rfl rfl rfl rfl rfl
 ·exact rowP_mk [sw] [.dst] hb1 rfl rfl rfl rfl rfl rfl
 ·exact rowP_mk [sww] [.dst,.src] hb1 rfl rfl rfl rfl rfl rfl
 ·exact rowP_mk [sw] [.tgt] hb1 rfl rfl rfl rfl rfl rfl
 ·exact rowP_mk [swww,swmww] [.dst,.sec,.tgt] hb1 rfl rfl rfl rfl rfl rfl
 ·exact rowP_mk [sw] [.hlp] hb1 rfl rfl rfl rfl rfl rfl
 ·exact rowP_mk0 [eB] hb1 rfl rfl rfl rfl
 ·exact rowP_mk [swM0,swMp,swMm] [.dst,.src,.off] hb1 rfl rfl rfl rfl rfl rfl
 ·exact rowP_mk [sM0w,sMpw,sMmw,sM0mw,sMpmw,sMmmw] [.dst,.off,.i32] hb1 rfl rfl rfl rfl rfl rfl
 ·exact rowP_mk [sM0w,sMpw,sMmw] [.dst,.off,.src] hb1 rfl rfl rfl rfl rfl rfl
 ·exact rowP_mk [sww,swmw] [.dst,.i64] hb1 rfl rfl rfl rfl rfl rfl
 ·exact rowP_mk [sww] [.dst,.mpn] hb1 rfl rfl rfl rfl rfl rfl
def IdxP (l:List ByteArray) (t:ByteArray) (w:World) (e:Ending) (w':World):Prop:=∃ n:Int,e=.returned (.int .i64 n)∧decide (0≤n)=l.any (fun x=>decide (x=t))∧w=w'
theorem any_take (l:List ByteArray) (t:ByteArray) (j:Nat) (h:j<l.length):(l.take (j+1)).any (fun x=>decide (x=t))=((l.take j).any (fun x=>decide (x=t)) || decide (l[j]=t)):=by
 rw [L8.take_snoc l j h,List.any_append];simp
theorem any_of {l:List ByteArray} {t:ByteArray} {j:Nat} (h:j<l.length) (he:l[j]=t):l.any (fun x=>decide (x=t))=true:=by
 rw [List.any_eq_true];exact⟨l[j],List.getElem_mem _,by simpa using he⟩
theorem index_at (v:Value) (l:List ByteArray) (hl:l.length≤100) (t:ByteArray) (w:World) (hv:L8.StAt w v l):Calls Tryz.prog 287 #[v,.string t] w fun e w'=>IdxP l t w e w':=by
 rcases hv with ⟨b,o,cap,rfl,hb,hc⟩|⟨rfl,a,cap,rfl⟩
 ·obtain⟨n,hn⟩:∃ n,l.length=n:=⟨_,rfl⟩
  rw [hn] at hc hl ⊢
  have HN:=Lib.hid hn
  have HC:=Lib.hid hc
  clear hn hc
  go_enter Tryz.func287,Tryz.ntmps287
  go_wp2
  go_loop [8] (fun a=>∃ j:Nat,a=.int .i64 (j:Int)∧j≤n∧Hid ((l.take j).any (fun x=>decide (x=t))=false)) (fun a=>n-(intOf a).toNat)
  case atStart=>exact⟨0,rfl,Nat.zero_le _,Lib.hid rfl⟩
  case round =>
   obtain⟨j,rfl,hj,hA⟩:=hrel
   by_cases hlt:j<n
   ·have hjx:j<l.length:=by rw [HN.out];exact hlt
    have c0:=HC.out j hlt
    obtain⟨T,hT⟩:∃ T,l[j]=T:=⟨_,rfl⟩
    rw [show l.getD j ByteArray.empty=T by rw [← hT];simp [List.getD,List.getElem?_eq_getElem hjx]] at c0
    by_cases he:T=t
    ·have HF:=Lib.hid (any_of hjx (hT.trans he))
     have t1:=L2.txt_eq he.symm
     clear hT he
     go_wp2
     go_ret
     exact⟨_,rfl,by rw [HF.out];simp,rfl⟩
    ·have HF:=Lib.hid (show (l.take (j+1)).any (fun x=>decide (x=t))=false by rw [any_take l t j hjx,hA.out,hT];simpa using he)
     have t1:=L2.txt_ne (fun e=>he e.symm)
     clear hT he
     go_wp2
     go_round
     case rel=>exact⟨j+1,by go_num,by omega,HF⟩
     case measure=>simp [intOf];omega
   ·obtain rfl:j=n:=by omega
    have HF:=Lib.hid (show l.any (fun x=>decide (x=t))=false by rw [← hA.out,List.take_of_length_le (by rw [HN.out];exact Nat.le_refl _)])
    go_wp2
    go_ret
    exact⟨_,rfl,by rw [HF.out];rfl,rfl⟩
 ·go_enter Tryz.func287,Tryz.ntmps287
  go_wp2
  refine wp_loop_rounds 1 ?_
  rw [rounds_succ]
  go_wp2
  go_ret
  exact⟨_,rfl,rfl,rfl⟩
theorem contains_at (v:Value) (l:List ByteArray) (hl:l.length≤100) (t:ByteArray) (b:Bool) (w:World) (hv:L8.StAt w v l) (hb:l.any (fun x=>decide (x=t))=b):Calls Tryz.prog 261 #[v,.string t] w fun e w'=>e=.returned (.bool b)∧w=w':=by
 subst hb
 have HI:=Lib.hid (index_at v l hl t w hv)
 clear hv
 obtain⟨A,hA⟩:∃ A,l.any (fun x=>decide (x=t))=A:=⟨_,rfl⟩
 have HA:=Lib.hid hA
 rw [hA]
 clear hA
 go_enter Tryz.func261,Tryz.ntmps261
 go_wp2_with (go_at_call 287;((with_reducible refine (HI.out).mono ?_);rintro e w1 ⟨n,rfl,hn,rfl⟩;rw [HA.out] at hn;cases A))
 ·go_ret
  exact⟨rfl,rfl⟩
 ·go_ret
  exact⟨rfl,rfl⟩
theorem fnd_nm:∀ k,k<86→L3.fnd (L3.nm k) 86=((k:Int),true):=by decide +kernel
theorem fnd_no {s:ByteArray}:∀ n,(∀ k,k<n→L3.nm k≠s)→(L3.fnd s n).2=false
 | 0,_=>rfl
 | n+1,h=>by rw [L3.fnd,if_neg (h n (by omega))];exact fnd_no n fun k hk=>h k (by omega)
theorem fnd_fiV (s:ByteArray):(fiV s<0∧(L3.fnd s 86).2=false)∨(∃ k:Nat,k<86∧fiV s=(k:Int)∧L3.fnd s 86=((k:Int),true)):=by
 unfold fiV
 cases e:(List.range 86).find? (fun k=>decide (L3.nm k=s)) with
 | none =>
  refine .inl ⟨by decide,fnd_no 86 fun k hk he=>?_⟩
  rw [List.find?_eq_none] at e
  exact e k (by simpa using hk) (by simpa using he)
 | some k =>
  have hk:k<86:=by simpa using List.mem_of_find?_eq_some e
  have he:L3.nm k=s:=by simpa using List.find?_some e
  exact .inr ⟨k,hk,rfl,by rw [← he];exact fnd_nm k hk⟩
abbrev codA (x:Ins) (tg mp:ByteArray):Array Value:=#[.int .i64 x.op,.bool x.reg,.int .i64 x.dst,.int .i64 x.src,.int .i64 x.off,.int .i64 x.imm,.string tg,.string mp]
structure Cod where
 x:Ins
 tg:ByteArray
 mp:ByteArray
def Cod.z:Cod:=⟨Ins.z,⟨#[]⟩,⟨#[]⟩⟩
def st0 (op:Int) (q:List ByteArray):St:=⟨q,⟨op,false,0,0,0,0⟩,⟨#[]⟩,⟨#[]⟩⟩
def inR (op:Int) (q:List ByteArray):Cod × Int :=
 let r:=runs (ksV (L3.frm (L3.ix op))) (st0 op q)
 if r.2≠0 then (Cod.z,r.2) else (⟨r.1.x,r.1.tg,r.1.mp⟩,0)
def inV (t:ByteArray) (q:List ByteArray):Cod × Int :=
 if fiV t<0 then (Cod.z,6)
 else if (shV (L3.frm (L3.ix (fiV t)))).any (fun x=>decide (x=shpB q))=false then (Cod.z,2)
 else inR (fiV t) q
theorem cells8 {w:World} {k:Nat} {a b c d e f g h:Value} {t:TypeId} (hh:w.heap[k]?=some (.cells #[a,b,c,d,e,f,g,h] t)) :
  w.cell? ⟨k,0,none⟩=some a∧w.cell? ⟨k,1,none⟩=some b∧w.cell? ⟨k,2,none⟩=some c∧w.cell? ⟨k,3,none⟩=some d∧w.cell? ⟨k,4,none⟩=some e∧w.cell? ⟨k,5,none⟩=some f∧w.cell? ⟨k,6,none⟩=some g∧w.cell? ⟨k,7,none⟩=some h:=by
 simp [World.cell?,hh]
abbrev codZ:Array Value:=#[.int .i64 0,.bool false,.int .i64 0,.int .i64 0,.int .i64 0,.int .i64 0,.string ⟨#[]⟩,.string ⟨#[]⟩]
theorem inst_no (t:ByteArray) (v:Value) (w:World) (hs:t.size≤maxLen) (h:fiV t<0) :
  Calls Tryz.prog 229 #[.string t,v] w fun e w'=>e=.returned (.tuple #[.agg codZ,.int .i64 6])∧Below w.heap.size w w':=by
 have hb:(L3.fnd t 86).2=false:=by
  rcases fnd_fiV t with ⟨_,hb⟩|⟨k,_,hk,_⟩
  ·exact hb
  ·omega
 obtain⟨n,hn⟩:∃ n,(L3.fnd t 86).1=n:=⟨_,rfl⟩
 have HF:=Lib.hid (fun w=>L3.find_at t hs n false w hn hb)
 clear hn hb h
 go_enter Tryz.func229,Tryz.ntmps229
 go_wp2_with (first|(go_at_call 259;((with_reducible refine (HF.out _).mono ?_);rintro e w1 ⟨rfl,b1⟩;have hS:=row_up (heap_alloc_last w (.cells codZ 211)) b1))|(refine wpList_store_row rfl _ _ _ rfl w.heap.size codZ rfl rfl 211 _ hS (by kernel_rfl) rfl (by simp [Value.oneCell']) ?_))
 have hR:=setRow_heap _ _ _ codZ _ _ hS
 obtain⟨q0,q1,q2,q3,q4,q5,q6,q7⟩:=cells8 hR
 exact bodyPost_ret (v:=.tuple #[.agg codZ,.int .i64 6]) (by simp [results,Tryz.results229,go_sem,q0,q1,q2,q3,q4,q5,q6,q7]) rfl ⟨rfl,below_setRow (L2.bch (L8.bnew w _) b1) (Nat.le_refl _) _⟩
theorem rd_new {w w1:World} {b o n cap:Nat} {xs:L8.Tks} (op:Int) (hb:b<w.heap.size) (hc:L8.Tksat w b o xs) (hn:xs.length=n) (hcp:n≤cap) (hm:n≤100000) (hz:∀ t∈txs xs,t.size≤100000) (h1:Below w.heap.size w w1) :
  RdAt w.heap.size w1.heap.size (w1.alloc (.cells #[.slice (some ⟨b,o,none⟩) n cap,.int .i64 op,.bool false,.int .i64 0,.int .i64 0,.int .i64 0,.int .i64 0,.string ⟨#[]⟩,.string ⟨#[]⟩] 327)) (st0 op (txs xs)) :=
 ⟨b,o,n,cap,xs,hb,h1.size,hcp,hn,hm,rfl,hz,hc.below hb (L2.bch h1 (L8.bnew _ _)),heap_alloc_last _ _⟩
theorem kin_f {t:ByteArray} (h:¬ fiV t<0):∃ k:Nat,k<86∧fiV t=(k:Int)∧(L3.fnd t 86).1=(k:Int)∧(L3.fnd t 86).2=true∧0≤L3.frm (L3.ix (fiV t))∧L3.frm (L3.ix (fiV t))≤11:=by
 rcases fnd_fiV t with ⟨h1,_⟩|⟨k,hk,e,hf⟩
 ·exact absurd h1 h
 ·have hx:L3.ix (fiV t)=k:=by rw [e];unfold L3.ix;rw [if_pos (by omega)];simp
  exact⟨k,hk,e,by rw [hf],by rw [hf],by rw [hx];exact frm_in k hk⟩
theorem sh_le (f:Int):(shV f).length≤100:=by
 unfold shV
 split <;> (try split) <;> (try split) <;> (try split) <;> (try split) <;> (try split) <;> (try split) <;> decide
theorem row_gr {w w':World} {k g:Nat} {cs:Array Value} {t:TypeId} (h:w.heap[k]?=some (.cells cs t)) (hg:w.grownBy w' (some g)) (hne:k≠g):w'.heap[k]?=some (.cells cs t):=(hg.block _ (lt_of_block h) (by simpa using hne)).trans h
theorem inst_bad (t:ByteArray) (b o n cap:Nat) (xs:L8.Tks) (w:World) (hs:t.size≤maxLen) (hb:b<w.heap.size) (hc:L8.Tksat w b o xs) (hn:xs.length=n) (hcp:n≤cap) (hm:n≤100000) (hz:∀ t∈txs xs,t.size≤100000) (hxt:∀ t∈L8.txt xs,L8.TokT t) (h:¬ fiV t<0) (hk:(shV (L3.frm (L3.ix (fiV t)))).any (fun x=>decide (x=shpB (txs xs)))=false) :
  Calls Tryz.prog 229 #[.string t,.slice (some ⟨b,o,none⟩) n cap] w fun e w'=>e=.returned (.tuple #[.agg codZ,.int .i64 2])∧Below w.heap.size w w':=by
 obtain⟨k,hk86,e,f1,f2,hf⟩:=kin_f h
 rw [e] at hk hf
 obtain⟨f,hfe⟩:∃ f,L3.frm (L3.ix (k:Int))=f:=⟨_,rfl⟩
 rw [hfe] at hk hf
 have HF:=Lib.hid (fun w=>L3.find_at t hs (k:Int) true w f1 f2)
 have HROW:=Lib.hid (fun (W:World) (g:Nat) (hr:RdAt w.heap.size g W (st0 (k:Int) (txs xs)))=>row_at w.heap.size g _ W hr f hfe hf)
 have HNEW:=Lib.hid (fun (w1:World) (h1:Below w.heap.size w w1)=>rd_new (k:Int) hb hc hn hcp hm hz h1)
 have HSH:=Lib.hid (fun (W:World) (hB:Below w.heap.size w W)=>L8.shape8 xs (.slice (some ⟨b,o,none⟩) n cap) W (by omega) hxt (.inl ⟨b,o,cap,by rw [hn],by omega,Nat.lt_of_lt_of_le hb hB.size,hc.below hb hB⟩))
 rw [shp_txs] at HSH
 have HCO:=Lib.hid (fun (W:World) (v:Value) (hv:L8.StAt W v (shV f))=>contains_at v (shV f) (sh_le f) (shpB (txs xs)) false W hv hk)
 clear hk hf hfe f1 f2 e h hxt hz hm hcp hn hc
 go_enter Tryz.func229,Tryz.ntmps229
 go_wp2_with (first
  | (go_at_call 259;((with_reducible refine (HF.out _).mono ?_);rintro e w1 ⟨rfl,b1⟩;have hS:=row_up (heap_alloc_last w (.cells codZ 211)) b1;have B1:=L2.bch (L8.bnew w _) b1))
  | (go_at_call 260;((with_reducible refine (HROW.out _ _ (HNEW.out _ B1)).mono ?_);rintro e w3 ⟨v1,v2,rfl,hst,hfn,b3⟩;have hS3:=row_up (row_up hS (L8.bnew w1 _)) b3;have B3:=L2.bch (L2.bch B1 (L8.bnew w1 _)) b3;clear hS hfn))
  | (go_at_call 226;((with_reducible refine (HSH.out _ B3).mono ?_);rintro e w4 ⟨rfl,b4⟩;have hS4:=row_up hS3 b4;have B4:=L2.bch B3 b4;have hst4:=hst.below b4;clear hst hS3))
  | (go_at_call 261;((with_reducible refine (HCO.out _ _ hst4).mono ?_);rintro e w5 ⟨rfl,rfl⟩))
  | (refine wpList_store_row rfl _ _ _ rfl w.heap.size codZ rfl rfl 211 _ hS4 (by kernel_rfl) rfl (by simp [Value.oneCell']) ?_))
 have hR:=setRow_heap _ _ _ codZ _ _ hS4
 obtain⟨q0,q1,q2,q3,q4,q5,q6,q7⟩:=cells8 hR
 exact bodyPost_ret (v:=.tuple #[.agg codZ,.int .i64 2]) (by simp [results,Tryz.results229,go_sem,q0,q1,q2,q3,q4,q5,q6,q7]) rfl ⟨rfl,below_setRow B4 (Nat.le_refl _) _⟩
end Go.Proofs.YtdgnjhhieemcaaaGreatDoor.L9
end
