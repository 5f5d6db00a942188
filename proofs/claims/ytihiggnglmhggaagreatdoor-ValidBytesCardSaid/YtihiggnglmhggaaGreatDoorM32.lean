/- Lemmas and walks of L17Vc, L17Al: what each theorem states; conditions stand in each theorem. -/
import Derived.Test.YtihiggnglmhggaaGreatDoorM27
import Derived.Test.YtihiggnglmhggaaGreatDoorL16Pa
set_option maxHeartbeats 8000000
set_option maxRecDepth 100000
section
namespace Go.Proofs.YtihiggnglmhggaaGreatDoor.L17
open Go.RowKit L3 L4 L12 L14
open L13 (Ob)
open L16 (chE OA OS Tb tb_below Is16)
attribute [local go_sem] Oper.semAt_some
theorem oa_form {w:World} {vm vc vr:Value} {o:Ob} (h:OA w vm vc vr o):∃ a1 c1 a2 c2 a3 c3,vm=.slice a1 o.maps.length c1∧vc=.slice a2 o.code.length c2∧vr=.slice a3 o.rels.length c3:=by
 obtain⟨a1,c1,h1,-⟩:=L10.df_form rfl h.m
 obtain⟨a2,c2,h2,-⟩:=h.c.form rfl
 obtain⟨a3,c3,h3,-⟩:=L13.ro_form rfl h.r
 exact⟨_,_,_,_,_,_,h1,h2,h3⟩
theorem two_new (w:World) (x:Obj) (vm vc vr:Value):Below w.heap.size w ((w.alloc x).alloc (ckC vm vc vr (.slice none 0 0) (.slice none 0 0)))∧((w.alloc x).alloc (ckC vm vc vr (.slice none 0 0) (.slice none 0 0))).heap[w.heap.size+1]?=some (ckC vm vc vr (.slice none 0 0) (.slice none 0 0)):=by
 refine⟨bch (bnew w _) (bnew _ _),?_⟩
 have:=heap_alloc_new (w.alloc x) (ckC vm vc vr (.slice none 0 0) (.slice none 0 0))
 rwa [World.size_alloc] at this
theorem below_gr {w a b:World} {k:Nat} (h:Below w.heap.size w a) (hg:a.grownBy b (some k)) (hk:w.heap.size≤k):Below w.heap.size w b:=h.grown hg h.size (fun q e=>by cases e;exact hk)
theorem check_two (vm vc vr:Value) (o:Ob) (S E:Int) (w:World) (ho:OA w vm vc vr o) (hs:OS o) (hT:Tb w) (hR:vE o=(S,E)) (x:Obj) (k:Nat) (hk:k=w.heap.size+1) :
  Calls Tryz.prog 27 #[.pointer (some ⟨k,0,none⟩)] ((w.alloc x).alloc (ckC vm vc vr (.slice none 0 0) (.slice none 0 0))) fun e w'=>e=.returned (.tuple #[.int .i64 S,.int .i64 E])∧Below w.heap.size w w'∧(E=0→∃ vl vt,CkA w' (w.heap.size+1) vm vc vr vl vt (inL o.code)):=by
 subst hk
 obtain⟨h1,h2⟩:=two_new w x vm vc vr
 exact (check_at (w.heap.size+1) vm vc vr o S E w _ (Nat.le_succ _) h1 ho hs hT h2 hR).mono fun e w' h=>⟨h.1,below_gr h1 h.2.1 (Nat.le_succ _),h.2.2⟩
theorem vcheck_at (vm vc vr:Value) (o:Ob) (S E:Int) (w:World) (ho:OA w vm vc vr o) (hs:OS o) (hT:Tb w) (hR:vE o=(S,E)) :
  Calls Tryz.prog 11 #[.agg #[vm,vc,vr]] w fun e w'=>e=.returned (.tuple #[.int .i64 S,.int .i64 E])∧Below w.heap.size w w':=by
 have HC:=Lib.hid (fun (x:Obj) (k:Nat) (hk:k=w.heap.size+1)=>check_two vm vc vr o S E w ho hs hT hR x k hk)
 obtain⟨a1,c1,a2,c2,a3,c3,rfl,rfl,rfl⟩:=oa_form ho
 clear ho hs hT hR
 go_enter Tryz.func11,Tryz.ntmps11
 go_wp2_with (go_at_call 27;((with_reducible refine (HC.out _ _ (by simp)).mono ?_);rintro e w1 ⟨rfl,b1,-⟩))
 go_ret2
 exact⟨rfl,b1⟩
theorem vcode_yes (vm vc vr:Value) (o:Ob) (S:Int) (n:Nat) (w:World) (ho:OA w vm vc vr o) (hs:OS o) (hT:Tb w) (hR:vE o=(S,0)) (hn:(inL o.code).length=n) :
  Calls Tryz.prog 15 #[.agg #[vm,vc,vr]] w fun e w'=>(∃ a c,e=.returned (.tuple #[.slice a n c,.int .i64 0])∧IsAt w' (.slice a n c) (inL o.code))∧Below w.heap.size w w':=by
 have HC:=Lib.hid (fun (x:Obj) (k:Nat) (hk:k=w.heap.size+1)=>check_two vm vc vr o S 0 w ho hs hT hR x k hk)
 have HN:=Lib.hid hn
 obtain⟨a1,c1,a2,c2,a3,c3,rfl,rfl,rfl⟩:=oa_form ho
 clear ho hs hT hR hn
 go_enter Tryz.func15,Tryz.ntmps15
 go_wp2_with (go_at_call 27;((with_reducible refine (HC.out _ _ (by simp)).mono ?_);rintro e w1 ⟨rfl,b1,hA⟩;obtain⟨vl,vt,hA⟩:=hA rfl;obtain⟨a,c,rfl,-⟩:=is_form HN.out hA.is;obtain⟨x0,x1,x2,x3,x4⟩:=cells5c hA.row;have HI:=Lib.hid hA.is;clear hA))
 go_ret2
 exact⟨⟨a,c,rfl,HI.out⟩,b1⟩
def BtV (l:List UInt8) (S E:Int):Prop:=((∀ q,¬ Is16 l q)→S=0∧E=19)∧∀ o,Is16 l o→vE o=(S,E)
theorem vbytes_at (v:Value) (l:List UInt8) (S E:Int) (w:World) (hv:Rw eB w v l) (hm:l.length≤100000) (hT:Tb w) (hR:BtV l S E) :
  Calls Tryz.prog 13 #[v] w fun e w'=>e=.returned (.tuple #[.int .i64 S,.int .i64 E])∧Below w.heap.size w w':=by
 obtain⟨a,c,rfl,-⟩:=hv.form rfl
 rcases L16.parse16_at a _ c l w hv hm hT with ⟨hno,hC⟩|⟨o,hi,hs,hC⟩
 ·obtain⟨rfl,rfl⟩:=hR.1 hno
  have HC:=Lib.hid hC
  clear hv hm hT hR hno hC
  go_enter Tryz.func13,Tryz.ntmps13
  go_wp2_with (go_at_call 36;((with_reducible refine (HC.out).mono ?_);rintro e w1 ⟨rfl,b1⟩))
  go_ret2
  exact⟨rfl,bch b1 (bnew w1 _)⟩
 ·have hv2:=hR.2 o hi
  have HC:=Lib.hid hC
  have HK:=Lib.hid (fun (W:World) (vm vc vr:Value) (hW:Below w.heap.size w W) (h:OA W vm vc vr o)=>vcheck_at vm vc vr o S E W h hs (tb_below hT hW) hv2)
  clear hv hm hT hR hi hs hC hv2
  go_enter Tryz.func13,Tryz.ntmps13
  go_wp2_with (first
   | (go_at_call 36;((with_reducible refine (HC.out).mono ?_);rintro e w1 ⟨⟨vm,vc,vr,rfl,ho⟩,b1⟩;obtain⟨a1,c1,a2,c2,a3,c3,rfl,rfl,rfl⟩:=oa_form ho;have HO:=Lib.hid ho;have HB:=Lib.hid b1;clear ho b1))
   | (go_at_call 11;((with_reducible refine (HK.out _ _ _ _ (bch HB.out (bnew w1 _)) (HO.out.below (bnew w1 _))).mono ?_);rintro e w2 ⟨rfl,b2⟩)))
  go_ret2
  exact⟨rfl,bch HB.out (bch (bnew w1 _) b2)⟩
def xG:List L9.Ins:=[⟨44,false,0,0,0,0⟩,⟨84,false,0,0,0,5⟩,⟨68,false,0,0,0,0⟩]
def xB:List L9.Ins:=[⟨44,false,0,0,1,0⟩,⟨84,false,0,0,0,5⟩,⟨68,false,0,0,0,0⟩]
def gB:List UInt8:=L5.joinB (xG.map L13.tI)
def bB:List UInt8:=L5.joinB (xB.map L13.tI)
theorem gB_len:gB.length=32:=by decide +kernel
theorem bB_len:bB.length=32:=by decide +kernel
theorem xG_err:∀ x∈xG.map L13.tI,x.err=0:=by decide +kernel
theorem xB_err:∀ x∈xB.map L13.tI,x.err=0:=by decide +kernel
theorem in_G:inL gB=xG:=by kernel_rfl
theorem v_G:vE ⟨[],gB,[]⟩=(0,0):=by kernel_rfl
theorem v_B:vE ⟨[],bB,[]⟩=(0,13):=by kernel_rfl
theorem ta_G:taR xG=([1,-1,-1],-1):=by kernel_rfl
theorem bs_rw {w:World} {v:Value} {l:List UInt8} (h:L5.BsAt w v l) (h0:0<l.length):Rw eB w v l:=by
 obtain⟨a,c,rfl,h1,-,h3⟩:=h
 have hne:l≠[]:=fun e=>by rw [e] at h0;cases h0
 obtain⟨b,o,rfl,hB⟩:=h3.resolve_left hne
 exact⟨_,c,rfl,h1,fun e=>(by cases e),fun _=>⟨b,o,rfl,World.block_lt_of_cell? _ _ (hB 0 h0),fun j hj=>hB j hj⟩⟩
theorem os_b (c:List UInt8) (h:c.length≤100000):OS ⟨[],c,[]⟩:=⟨by simp,h,by simp,by simp⟩
theorem oa_b {w:World} {v:Value} {l:List UInt8} (h:Rw eB w v l):OA w (.slice none 0 0) v (.slice none 0 0) ⟨[],l,[]⟩:=⟨.inr ⟨rfl,none,0,rfl⟩,h,.inr ⟨rfl,none,0,rfl⟩⟩
theorem nil_not (q:Ob):¬ Is16 [] q:=fun h=>by
 have:=congrArg List.length h.2
 rw [L16.pk_len,List.length_nil] at this;omega
theorem btV_nil:BtV [] 0 19:=⟨fun _=>⟨rfl,rfl⟩,fun o h=>absurd h (nil_not o)⟩
theorem row_ins {W:World} {k n:Nat} {l:List L9.Ins} {cs:Array Value} {t:TypeId} (h:W.heap[k]?=some (.cells cs t)) (hc:cs=(L5.insL (l.map L13.tI)).toArray) (hn:l.length=n):L5.InAt W (.slice (some ⟨k,0,none⟩) n n) (l.map L13.tI):=by
 subst hn hc
 refine⟨_,_,by rw [List.length_map],.inr ⟨k,0,rfl,fun i hi m u hu=>?_⟩⟩
 have:=L5.insL_at (l.map L13.tI) i hi m u hu
 unfold World.cell?
 simp only [h]
 rw [Nat.zero_add,List.getElem?_toArray]
 exact this
def noB (cs:Array Value):Bool:=cs.toList.all fun v=>match v with | .int .u8 _=>false|_=>true
theorem rw_setc {W:World} {k i:Nat} {u v:Value} {l:List UInt8} {cs:Array Value} {t:TypeId} (h:Rw eB W v l) (hr:W.heap[k]?=some (.cells cs t)) (hc:noB cs=true):Rw eB (W.setCell ⟨k,i,none⟩ u) v l:=by
 obtain⟨a,c,rfl,h1,h2,h3⟩:=h
 refine⟨a,c,rfl,h1,h2,fun hp=>?_⟩
 obtain⟨b,o,rfl,hb,hx⟩:=h3 hp
 have hne:b≠k:=fun e=>by
  subst e
  have h0:=hx 0 hp
  unfold World.cell? at h0
  simp only [hr] at h0
  have hm:eB l[0]∈cs.toList:=by
   have:cs[o+0]?=some (eB l[0]):=by simpa using h0
   rw [← Array.getElem?_toList] at this
   exact List.mem_of_getElem? this
  have:=List.all_eq_true.1 hc _ hm
  simp at this
 refine⟨b,o,rfl,by simpa using hb,fun j hj=>?_⟩
 have:=hx j hj
 unfold World.cell? at this ⊢
 rw [show (W.setCell ⟨k,i,none⟩ u).heap[(⟨b,o+j,none⟩:Addr).block]?=W.heap[(⟨b,o+j,none⟩:Addr).block]? from Below.heap_setCell _ _ _ _ hne]
 exact this
abbrev rwG (z:Int):Array Value:=#[.int .i64 44,.bool false,.int .i64 0,.int .i64 0,.int .i64 z,.int .i64 0,.int .i64 84,.bool false,.int .i64 0,.int .i64 0,.int .i64 0,.int .i64 5,.int .i64 68,.bool false,.int .i64 0,.int .i64 0,.int .i64 0,.int .i64 0]
theorem alive17 (w:World) (hT:Tb w):Calls Tryz.prog 10 #[] w fun e w'=>e=.returned (.bool true)∧Below w.heap.size w w':=by
 have k0:=heap_alloc_new w (.cells (rwG 0) 45)
 have HJ1:=Lib.hid (L5.rjoin_at (.slice (some ⟨w.heap.size,0,none⟩) 3 3) (xG.map L13.tI) (w.alloc (.cells (rwG 0) 45)) (by decide) (row_ins k0 (by rfl) rfl) xG_err)
 have HTB:=Lib.hid (fun (W:World) (h:Below w.heap.size w W)=>tb_below hT h)
 have K0:=Lib.hid k0
 have B0:=Lib.hid (bnew w (.cells (rwG 0) 45))
 clear hT k0
 go_enter Tryz.func10,Tryz.ntmps10
 go_upto_region 3 with (go_at_call 26;((with_reducible refine (HJ1.out).mono ?_);rintro e w1 ⟨v1,rfl,h1,b1⟩;obtain⟨d1,e1,rfl,-⟩:=(bs_rw (l:=gB) h1 (by rw [gB_len];decide)).form gB_len))
 have r1:=bs_rw (l:=gB) h1 (by rw [gB_len];decide)
 have q1:=L8.row_up K0.out b1
 have k2:=heap_alloc_last w1 (.cells #[.slice none 0 0,.slice d1 32 e1,.slice none 0 0] 26)
 have q2:=L8.row_up q1 (bnew w1 (.cells #[.slice none 0 0,.slice d1 32 e1,.slice none 0 0] 26))
 have r2:=r1.below (bnew w1 (.cells #[.slice none 0 0,.slice d1 32 e1,.slice none 0 0] 26))
 have B2:=bch (bch B0.out b1) (bnew w1 (.cells #[.slice none 0 0,.slice d1 32 e1,.slice none 0 0] 26))
 have hlt:w.heap.size<w1.heap.size:=lt_of_block q1
 obtain⟨m2,hm2⟩:∃ m,w1.heap.size=m:=⟨_,rfl⟩
 rw [hm2] at k2 hlt ⊢
 generalize w1.alloc (.cells #[.slice none 0 0,.slice d1 32 e1,.slice none 0 0] 26)=w2 at k2 q2 r2 B2 ⊢
 clear hm2 q1 r1 h1 b1
 obtain⟨c4,f4⟩:=cell_in (k:=4) q2
 go_upto_region 4 with (fail)
 have q3:(w2.setCell ⟨w.heap.size,4,none⟩ (.int .i64 1)).heap[w.heap.size]?=some (.cells (rwG 1) 45):=by
  have:=cells_set (k:=4) (v:=.int .i64 1) q2
  simpa using this
 have r3:=rw_setc (k:=w.heap.size) (i:=4) (u:=.int .i64 1) r2 q2 (by rfl)
 have k3:(w2.setCell ⟨w.heap.size,4,none⟩ (.int .i64 1)).heap[m2]?=some (.cells #[.slice none 0 0,.slice d1 32 e1,.slice none 0 0] 26):=(Below.heap_setCell _ _ _ _ (by simp;omega)).trans k2
 have B3:=B2.setCell (p:=⟨w.heap.size,4,none⟩) (Nat.le_refl _) (.int .i64 1)
 generalize w2.setCell ⟨w.heap.size,4,none⟩ (.int .i64 1)=w3 at q3 r3 k3 B3 ⊢
 clear q2 r2 k2 B2 c4 f4
 have HJ2:=Lib.hid (L5.rjoin_at (.slice (some ⟨w.heap.size,0,none⟩) 3 3) (xB.map L13.tI) w3 (by decide) (row_ins q3 (by rfl) rfl) xB_err)
 go_upto_region 5 with (go_at_call 26;((with_reducible refine (HJ2.out).mono ?_);rintro e w4 ⟨v4,rfl,h4,b4⟩;obtain⟨d4,e4,rfl,-⟩:=(bs_rw (l:=bB) h4 (by rw [bB_len];decide)).form bB_len))
 have s4:=bs_rw (l:=bB) h4 (by rw [bB_len];decide)
 have k5:=L8.row_up (L8.row_up k3 b4) (bnew w4 (.cells #[.slice none 0 0,.slice d4 32 e4,.slice none 0 0] 26))
 have j5:=heap_alloc_last w4 (.cells #[.slice none 0 0,.slice d4 32 e4,.slice none 0 0] 26)
 have r5:=oa_b ((r3.below b4).below (bnew w4 (.cells #[.slice none 0 0,.slice d4 32 e4,.slice none 0 0] 26)))
 have s5:=oa_b (s4.below (bnew w4 (.cells #[.slice none 0 0,.slice d4 32 e4,.slice none 0 0] 26)))
 have B5:=bch (bch B3 b4) (bnew w4 (.cells #[.slice none 0 0,.slice d4 32 e4,.slice none 0 0] 26))
 obtain⟨m4,hm4⟩:∃ m,w4.heap.size=m:=⟨_,rfl⟩
 rw [hm4] at j5 ⊢
 generalize w4.alloc (.cells #[.slice none 0 0,.slice d4 32 e4,.slice none 0 0] 26)=w5 at k5 j5 r5 s5 B5 ⊢
 clear hm4 q3 r3 k3 B3 h4 s4 b4 hlt
 obtain⟨x0,x1,x2⟩:=L13.cells3 k5
 obtain⟨y0,y1,y2⟩:=L13.cells3 j5
 have HG:=Lib.hid (fun (W:World) (hW:Below w5.heap.size w5 W)=>vcheck_at _ _ _ _ 0 0 W (r5.below hW) (os_b gB (by rw [gB_len];decide)) (HTB.out W (bch B5 hW)) v_G)
 have HBd:=Lib.hid (fun (W:World) (hW:Below w5.heap.size w5 W)=>vcheck_at _ _ _ _ 0 13 W (s5.below hW) (os_b bB (by rw [bB_len];decide)) (HTB.out W (bch B5 hW)) v_B)
 have HCd:=Lib.hid (fun (W:World) (hW:Below w5.heap.size w5 W)=>vcode_yes _ _ _ _ 0 3 W (r5.below hW) (os_b gB (by rw [gB_len];decide)) (HTB.out W (bch B5 hW)) v_G (by show (inL gB).length=3;rw [in_G];rfl))
 have HTg:=Lib.hid (fun (W:World) (v:Value) (hv:IsAt W v (inL gB))=>show Calls Tryz.prog 18 #[v] W fun e w'=>(∃ a c,e=.returned (.tuple #[.slice a 3 c,.int .i64 (-1)])∧L10.InAt w' (.slice a 3 c) [1,-1,-1])∧Below W.heap.size W w' from targets_at v xG [1,-1,-1] (-1) W (by rw [in_G] at hv;exact hv) (by decide) (by decide) ta_G)
 have HBy:=Lib.hid (fun (W:World) (hW:Below w5.heap.size w5 W)=>vbytes_at (.slice none 0 0) [] 0 19 W (Rw.nil _ _) (by decide) (HTB.out W (bch B5 hW)) btV_nil)
 have HEq:=Lib.hid (fun (W:World) (a:Option Addr) (c:Nat) (k:Nat) (hk:k=W.heap.size) (h:L10.InAt W (.slice a 3 c) [1,-1,-1])=>L10.equalI_at (.slice a 3 c) (.slice (some ⟨k,0,none⟩) 3 3) [1,-1,-1] [1,-1,-1] true (W.alloc (.cells #[.int .i64 1,.int .i64 (-1),.int .i64 (-1)] 3)) (by decide) (by decide) (h.below (bnew W _)) (.inl ⟨k,0,3,rfl,by subst hk;simp,fun j hj=>by
  subst hk
  have h1:=heap_alloc_new W (.cells #[.int .i64 1,.int .i64 (-1),.int .i64 (-1)] 3)
  unfold World.cell?
  simp only [h1]
  match j,hj with
  | 0,_=>rfl
  | 1,_=>rfl
  | 2,_=>rfl⟩) (by simp))
 have HB5:=Lib.hid B5
 have HK5:=Lib.hid (And.intro k5 j5)
 clear k5 j5 r5 s5 B5
 go_wp2_with (first
  | (go_at_call 11;((with_reducible refine (HG.out _ (Below.refl _ _)).mono ?_);rintro e w6 ⟨rfl,b6⟩;obtain⟨y0,y1,y2⟩:=L13.cells3 (L8.row_up HK5.out.2 b6)))
  | (go_at_call 11;((with_reducible refine (HBd.out _ b6).mono ?_);rintro e w7 ⟨rfl,b7⟩;have B7:=bch b6 b7;obtain⟨x0,x1,x2⟩:=L13.cells3 (L8.row_up HK5.out.1 B7)))
  | (go_at_call 15;((with_reducible refine (HCd.out _ B7).mono ?_);rintro e w8 ⟨⟨ma,mc,rfl,hi⟩,b8⟩;have B8:=bch B7 b8))
  | (go_at_call 18;((with_reducible refine (HTg.out _ _ hi).mono ?_);rintro e w9 ⟨⟨ta,tc,rfl,ht⟩,b9⟩;have B9:=bch B8 b9))
  | (go_at_call 13;((with_reducible refine (HBy.out _ B9).mono ?_);rintro e w10 ⟨rfl,b10⟩;have ht2:=ht.below b10;have B10:=bch B9 b10))
  | (go_at_call 20;((with_reducible refine (HEq.out w10 _ _ _ rfl ht2).mono ?_);rintro e w11 ⟨rfl,b11⟩)))
 go_ret
 exact⟨rfl,bch HB5.out (bch B10 (bch (bnew w10 _) b11))⟩
end Go.Proofs.YtihiggnglmhggaaGreatDoor.L17
end
