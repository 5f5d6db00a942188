/- Lemmas and walks of L17Rj, L17Fn: what each theorem states; conditions stand in each theorem. -/
import Derived.Test.YtihiggnglmhggaaGreatDoorM23
import Derived.Test.YtihiggnglmhggaaGreatDoorM24
set_option maxHeartbeats 2000000
set_option maxRecDepth 100000
section
namespace Go.Proofs.YtihiggnglmhggaaGreatDoor.L17
open Go.RowKit L3 L1 L4 L5
open L13 (Ob)
theorem la_cons (x y:Rdg) (q:List Rdg):la (x::y::q)=la (y::q):=rfl
theorem rds_join:∀ (n a:Nat) (l:List UInt8),l.length≤n→(la (rds n a l)).e=0→joinB ((rds n a l).map fun x=>x.x)=l∧∀ x∈(rds n a l).map (fun x=>x.x),x.err=0∧x.fits
 | 0,a,l,h,_=>by
  have:l=[]:=List.eq_nil_of_length_eq_zero (by omega)
  subst this
  simp [rds,joinB]
 | n+1,a,l,h,he=>by
  by_cases hl:l=[]
  ·subst hl
   simp [rds,joinB]
  by_cases hd:(decF l).2.2=0
  ·obtain⟨s,hs,h1,h2,h8,g1,g2,g3⟩:=dec_good l hd
   rw [rds_go n a s l hl hd hs] at he ⊢
   have he':(la (rds n (a+s) (l.drop (8*s)))).e=0:=by
    cases hq:rds n (a+s) (l.drop (8*s)) with
    | nil=>rfl
    | cons y q=>rw [hq,la_cons] at he;exact he
   obtain⟨i1,i2⟩:=rds_join n (a+s) (l.drop (8*s)) (by rw [List.length_drop];omega) he'
   refine⟨?_,?_⟩
   ·simp only [List.map_cons]
    rw [show ∀ (x:Ix) (q:List Ix),joinB (x::q)=x.bytes++joinB q from fun _ _=>rfl,i1,g3,List.take_append_drop]
   ·intro x hx
    rcases List.mem_cons.1 hx with rfl|hx
    ·exact⟨g1,g2⟩
    ·exact i2 x hx
  ·rw [rds_bad n a l hl hd] at he
   exact absurd he hd
theorem rdC_good {c:List UInt8} (h:(la (rdC c)).e=0):joinB ((inL c).map L13.tI)=c∧∀ x∈inL c,(L13.tI x).err=0∧(L13.tI x).fits:=by
 obtain⟨h1,h2⟩:=rds_join c.length 0 c (Nat.le_refl _) h
 rw [inL_tI]
 refine⟨h1,fun x hx=>h2 _ ?_⟩
 obtain⟨r,hr,rfl⟩:=List.mem_map.1 hx
 exact List.mem_map.2 ⟨r,hr,rfl⟩
theorem err_f {x:L9.Ins} (h:(L13.tI x).err=0):frm (ix x.op)≠-1:=by
 unfold Ix.err at h
 exact (L11.chk_all h).1
theorem sx16_rng (x:Int):-32768≤L1.sx 16 x∧L1.sx 16 x≤32767:=by
 unfold L1.sx
 rw [if_neg (by decide),if_pos (by decide)]
 omega
theorem err_off {x:L9.Ins} (h:(L13.tI x).err=0):-32768≤x.off∧x.off≤32767:=by
 unfold Ix.err at h
 obtain⟨-,-,-,-,-,-,-,-,k,-⟩:=L11.chk_all h
 have:L1.sx 16 x.off=x.off:=k
 have:=sx16_rng x.off
 omega
theorem inL_f {c:List UInt8} (h:(la (rdC c)).e=0):∀ x∈inL c,frm (ix x.op)≠-1:=fun x hx=>err_f ((rdC_good h).2 x hx).1
theorem inL_off {c:List UInt8} (h:(la (rdC c)).e=0):∀ x∈inL c,-32768≤x.off∧x.off≤32767:=fun x hx=>err_off ((rdC_good h).2 x hx).1
theorem inL_sl {c:List UInt8} (h:(la (rdC c)).e=0):∀ x∈inL c,1≤L12.slN x:=fun x hx=>L16.sl_one (inL_f h x hx)
theorem inL_len {c:List UInt8} (h:(la (rdC c)).e=0):c.length=8*L12.smN (inL c):=by
 have h1:=L16.join_sl (inL c) (inL_f h)
 rw [(rdC_good h).1] at h1
 exact h1
theorem len_le:∀ l:List L9.Ins,(∀ x∈l,1≤L12.slN x)→l.length≤L12.smN l
 | [],_=>by simp
 | x::r,h=>by
  have h1:=h x (List.mem_cons_self ..)
  have h2:=len_le r fun y hy=>h y (List.mem_cons_of_mem _ hy)
  rw [L12.smN,List.length_cons];omega
theorem cg_of {o:Ob} (hG:L16.Gd o) (h:(la (rdC o.code)).e=0):Cg o (inL o.code) :=
 ⟨inL_sl h,by have:=inL_len h;omega,fun r hr=>by have:=L16.rl_in _ _ _ _ hG.rl r hr;omega⟩
theorem inL_pos {o:Ob} (hG:L16.Gd o) (h:(la (rdC o.code)).e=0):0<(inL o.code).length:=by
 have h1:=inL_len h
 have h2:=hG.code.1
 cases hc:inL o.code with
 | nil=>rw [hc,L12.smN] at h1;omega
 | cons x r=>simp
theorem allP_no {w:World} {r:List Rdg} {e:Ending} {w':World} (h:AllP w r e w') (h0:(la r).e≠0) :
  e=.returned (.tuple #[.slice none 0 0,.int .i64 ((la r).at':Int),.int .i64 (la r).e])∧Below w.heap.size w w':=by
 obtain⟨h,hb⟩:=h
 rcases h with ⟨-,rfl⟩|⟨h,-⟩
 ·exact⟨rfl,hb⟩
 ·refine absurd ?_ h0
  cases r with
  | nil=>rfl
  | cons y q=>exact h _ (by simp only [la];rw [List.getLastD_eq_getLast?,List.getLast?_eq_some_getLast (by simp)];exact List.getLast_mem _)
end Go.Proofs.YtihiggnglmhggaaGreatDoor.L17
end
section
namespace Go.Proofs.YtihiggnglmhggaaGreatDoor.L17
open Go.RowKit L3 L4 L12 L14
attribute [local go_sem] Oper.semAt_some
theorem bch {w a b:World} (h:Below w.heap.size w a) (k:Below a.heap.size a b):Below w.heap.size w b:=L14.bch h k
theorem bnew (w:World) (o:Obj):Below w.heap.size w (w.alloc o):=L14.bnew w o
abbrev xA (x:L9.Ins):Array Value:=#[.int .i64 x.op,.bool x.reg,.int .i64 x.dst,.int .i64 x.src,.int .i64 x.off,.int .i64 x.imm]
theorem cells5c {w:World} {k:Nat} {a b c d e:Value} {t:TypeId} (h:w.heap[k]?=some (.cells #[a,b,c,d,e] t)):w.cell? ⟨k,0,none⟩=some a∧w.cell? ⟨k,1,none⟩=some b∧w.cell? ⟨k,2,none⟩=some c∧w.cell? ⟨k,3,none⟩=some d∧w.cell? ⟨k,4,none⟩=some e:=by
 simp [World.cell?,h]
theorem cells6c {w:World} {k:Nat} {a b c d e f:Value} {t:TypeId} (h:w.heap[k]?=some (.cells #[a,b,c,d,e,f] t)):w.cell? ⟨k,0,none⟩=some a∧w.cell? ⟨k,1,none⟩=some b∧w.cell? ⟨k,2,none⟩=some c∧w.cell? ⟨k,3,none⟩=some d∧w.cell? ⟨k,4,none⟩=some e∧w.cell? ⟨k,5,none⟩=some f:=by
 simp [World.cell?,h]
theorem refers_at (op:Int) (reg:Bool) (dst src off imm:Int) (v:Bool) (w:World) (hv:(frm (ix op)==11)=v) :
  Calls Tryz.prog 95 #[.agg #[.int .i64 op,.bool reg,.int .i64 dst,.int .i64 src,.int .i64 off,.int .i64 imm]] w fun e w'=>e=.returned (.bool v)∧Below w.heap.size w w':=by
 obtain⟨f,hf⟩:∃ f,frm (ix op)=f:=⟨_,rfl⟩
 rw [hf] at hv
 have HF:=Lib.hid hf
 clear hf
 go_enter Tryz.func95,Tryz.ntmps95
 go_wp2_with (go_at_call 80;((with_reducible refine (form_at op _ _ HF.out).mono ?_);rintro e w1 ⟨rfl,b1⟩))
 go_ret
 exact⟨rfl,bch (bnew _ _) b1⟩
theorem k1_at (i:Int) (x:L9.Ins) (v:Bool) (w:World) (hv:(!isRf x || x.imm==0)=v):Calls Tryz.prog 94 #[.int .i64 i,.agg (xA x)] w fun e w'=>e=.returned (.bool v)∧Below w.heap.size w w':=by
 obtain⟨op,reg,dst,src,off,imm⟩:=x
 obtain⟨r,hr⟩:∃ r,isRf ⟨op,reg,dst,src,off,imm⟩=r:=⟨_,rfl⟩
 obtain⟨z,hz⟩:∃ z,(imm==0)=z:=⟨_,rfl⟩
 have HF:=Lib.hid (fun W=>refers_at op reg dst src off imm r W hr)
 rw [hr] at hv
 simp only [hz] at hv
 have K0:=Lib.hid (heap_alloc_last w (.cells #[.int .i64 op,.bool reg,.int .i64 dst,.int .i64 src,.int .i64 off,.int .i64 imm] 45))
 clear hr
 cases r <;> cases z
 all_goals
  simp at hv
  subst hv
  go_enter Tryz.func94,Tryz.ntmps94
  go_wp2_with (go_at_call 95;((with_reducible refine (HF.out _).mono ?_);rintro e w1 ⟨rfl,b1⟩;obtain⟨x0,x1,x2,x3,x4,x5⟩:=cells6c (L8.row_up K0.out b1)))
  go_ret
  exact⟨rfl,bch (bnew _ _) b1⟩
theorem k2_at (i:Int) (k:Nat) (g:Int) (x:L9.Ins) (v:Bool) (w:World) (hk:w.cell? ⟨k,0,none⟩=some (.int .i64 g)) (hv:decide (i≠g)=v):Calls Tryz.prog 99 #[.int .i64 i,.agg (xA x),.pointer (some ⟨k,0,none⟩)] w fun e w'=>e=.returned (.bool v)∧Below w.heap.size w w':=by
 have hl:=World.block_lt_of_cell? w _ hk
 have hv':(i != g)=v:=by rw [← hv];by_cases h:i=g <;> simp [h]
 clear hv
 go_enter Tryz.func99,Tryz.ntmps99
 go_wp2
 go_ret
 exact⟨rfl,bnew _ _⟩
theorem k3_at (i:Int) (x:L9.Ins) (v:Bool) (w:World) (hv:(wri (L10.fmI x) x.dst != 10)=v):Calls Tryz.prog 100 #[.int .i64 i,.agg (xA x)] w fun e w'=>e=.returned (.bool v)∧Below w.heap.size w w':=by
 obtain⟨op,reg,dst,src,off,imm⟩:=x
 obtain⟨r,hr⟩:∃ r,wri (frm (ix op)) dst=r:=⟨_,rfl⟩
 have HF:=Lib.hid (fun W=>writes_at op reg dst src off imm _ r W rfl hr)
 have hv':(r != 10)=v:=by rw [← hr];exact hv
 clear hr hv
 go_enter Tryz.func100,Tryz.ntmps100
 go_wp2_with (go_at_call 101;((with_reducible refine (HF.out _).mono ?_);rintro e w1 ⟨rfl,b1⟩))
 go_ret
 exact⟨rfl,bch (bnew _ _) b1⟩
theorem k4_at (i n k kc c:Nat) (a:Option Addr) (x:L9.Ins) (v:Bool) (w:World) (hp:w.cell? ⟨k,0,none⟩=some (.pointer (some ⟨kc,0,none⟩))) (hc:w.cell? ⟨kc,3,none⟩=some (.slice a n c)) (hn:0<n∧n≤100000) (hv:(decide (i+1<n) || endF (L10.fmI x))=v) :
  Calls Tryz.prog 102 #[.int .i64 (i:Int),.agg (xA x),.pointer (some ⟨k,0,none⟩)] w fun e w'=>e=.returned (.bool v)∧Below w.heap.size w w':=by
 obtain⟨op,reg,dst,src,off,imm⟩:=x
 obtain⟨n,rfl⟩:∃ m,n=m+1:=⟨n-1,by omega⟩
 obtain⟨r,hr⟩:∃ r,endF (frm (ix op))=r:=⟨_,rfl⟩
 have HF:=Lib.hid (fun W=>ends_at op reg dst src off imm _ r W rfl hr)
 have hlp:=World.block_lt_of_cell? w _ hp
 have hlc:=World.block_lt_of_cell? w _ hc
 have hnb:=hn.2
 have e1:((n+1:Nat):Int)-1=(n:Int):=by omega
 have hv':(decide (i<n) || r)=v:=by rw [← hr,← hv];congr 1;simp
 obtain⟨u,hu⟩:∃ u,decide ((i:Int)<(n:Int))=u:=⟨_,rfl⟩
 have hu':decide (i<n)=u:=by rw [← hu];simp
 rw [hu'] at hv'
 have K0:=Lib.hid (heap_alloc_last w (.cells #[.int .i64 op,.bool reg,.int .i64 dst,.int .i64 src,.int .i64 off,.int .i64 imm] 45))
 clear hr hv hu' hn
 cases u
 ·simp only [Bool.false_or] at hv'
  subst hv'
  simp only [decide_eq_false_iff_not] at hu
  go_enter Tryz.func102,Tryz.ntmps102
  go_wp2_with (go_at_call 103;((with_reducible refine (HF.out _).mono ?_);rintro e w1 ⟨rfl,b1⟩))
  go_ret
  exact⟨rfl,bch (bnew _ _) b1⟩
 ·simp only [Bool.true_or] at hv'
  subst hv'
  simp only [decide_eq_true_eq] at hu
  go_enter Tryz.func102,Tryz.ntmps102
  go_wp2
  go_ret
  exact⟨rfl,bnew _ _⟩
structure CkA (w:World) (kc:Nat) (vm vc vr vl vt:Value) (l:List L9.Ins):Prop where
 row:w.heap[kc]?=some (.cells #[vm,vc,vr,vl,vt] 63)
 is:IsAt w vl l
 st:L10.InAt w vt (stZ l)
theorem CkA.below {w w':World} {kc:Nat} {vm vc vr vl vt:Value} {l:List L9.Ins} (h:CkA w kc vm vc vr vl vt l) (hb:Below w.heap.size w w'):CkA w' kc vm vc vr vl vt l:=⟨L8.row_up h.row hb,h.is.below hb,h.st.below hb⟩
theorem stZ_len (l:List L9.Ins):(stZ l).length=l.length:=by rw [stZ,List.length_map,stL_len]
theorem stZ_get (l:List L9.Ins) (i:Nat) (h:i<(stZ l).length):(stZ l)[i]=(stN l i:Int):=by
 have hl:i<l.length:=by rwa [stZ_len] at h
 have e:=stL_get l 0 i hl
 rw [List.getElem?_eq_getElem (by rw [stL_len];exact hl),Option.some.injEq,Nat.zero_add] at e
 have k:(stZ l)[i]=(((stL 0 l)[i]'(by rw [stL_len];exact hl):Nat):Int):=by simp [stZ]
 rw [k,e]
theorem each_at (F kc:Nat) (vm vc vr vl vt:Value) (l:List L9.Ins) (p:Nat→Bool) (er S E:Int) (w:World) (hF:∀ args w,(callFunc F args).run Tryz.prog w=.ok (.enter F args) w)
  (hA:CkA w kc vm vc vr vl vt l) (hm:l.length≤100000)
  (hK:∀ i (h:i<l.length) W,Below w.heap.size w W→Calls Tryz.prog F #[.int .i64 (i:Int),.agg (xA l[i])] W fun e W'=>e=.returned (.bool (p i))∧Below W.heap.size W W') (hR:eaV l p er=(S,E)) :
  Calls Tryz.prog 93 #[.pointer (some ⟨kc,0,none⟩),.func (.func F) #[] #[],.int .i64 er] w fun e w'=>e=.returned (.tuple #[.int .i64 S,.int .i64 E])∧Below w.heap.size w w':=by
 obtain⟨n,hn⟩:∃ n,l.length=n:=⟨_,rfl⟩
 obtain⟨a,cap,rfl,hc⟩:=is_form hn hA.is
 obtain⟨ta,tc,rfl,ht⟩:=L10.in_form (n:=n) (by rw [stZ_len,hn]) hA.st
 rw [hn] at hm
 have HA:=Lib.hid hA
 have HC:=Lib.hid hc
 have HT:=Lib.hid ht
 have HN:=Lib.hid hn
 have HK:=Lib.hid hK
 have HR:=Lib.hid hR
 clear hc ht hn hK hR
 obtain⟨x0,x1,x2,x3,x4⟩:=cells5c hA.row
 clear hA x0 x1 x2
 go_enter Tryz.func93,Tryz.ntmps93
 go_wp2
 go_loopw [15] (fun i wr=>∃ j:Nat,j≤n∧i=.int .i64 (j:Int)∧Hid (Below w.heap.size w wr∧∀ q,q<j→p q=true)) (fun i _=>n-(intOf i).toNat)
 case atStart=>exact⟨0,Nat.zero_le _,rfl,Lib.hid ⟨Below.refl _ _,fun q hq=>absurd hq (Nat.not_lt_zero _)⟩⟩
 case round =>
  clear x3 x4
  obtain⟨j,hj,rfl,hI⟩:=hrel
  by_cases hlt:j<n
  ·have hjl:j<l.length:=by rw [HN.out];exact hlt
   obtain⟨b,o,rfl,hbl,hc⟩:=HC.out (by omega)
   obtain⟨tb,tof,rfl,htl,ht⟩:=HT.out (by omega)
   obtain⟨y0,y1,y2,y3,y4,y5⟩:=(hc j hjl).below hbl hI.out.1
   have HTC:=Lib.hid (fun (W:World) (hW:Below wr.heap.size wr W)=>(((bch hI.out.1 hW).cell (p:=⟨tb,tof+j,none⟩) (by exact htl)).trans (ht j (by rw [stZ_len];exact hjl))).trans (by rw [stZ_get]))
   have HX:=Lib.hid (fun (W:World) (hW:Below wr.heap.size wr W)=>cells5c (HA.out.below (bch hI.out.1 hW)).row)
   have HK2:=Lib.hid (fun (W:World) (hW:Below wr.heap.size wr W)=>HK.out j hjl W (bch hI.out.1 hW))
   obtain⟨x,hx⟩:∃ x,l[j]=x:=⟨_,rfl⟩
   rw [hx] at y0 y1 y2 y3 y4 y5 HK2
   obtain⟨v,hv⟩:∃ v,p j=v:=⟨_,rfl⟩
   rw [hv] at HK2
   have HV:=Lib.hid hv
   have hlt':(j:Int)<(n:Int):=by omega
   clear hc ht hx hv
   cases v
   ·have HE:=Lib.hid (show (S,E)=((stN l j:Int),er) by rw [← HR.out];exact eaV_some hjl hI.out.2 HV.out)
    go_wp2_with (go_at_fn F;((with_reducible refine (HK2.out _ (bnew wr _)).mono ?_);rintro e w1 ⟨rfl,b1⟩;have b2:=bch (bnew wr _) b1;obtain⟨-,-,-,-,z4⟩:=HX.out _ b2;have z5:=HTC.out _ b2))
    go_ret2
    cases HE.out
    exact⟨rfl,bch hI.out.1 b2⟩
   ·go_wp2_with (go_at_fn F;((with_reducible refine (HK2.out _ (bnew wr _)).mono ?_);rintro e w1 ⟨rfl,b1⟩;have b2:=bch (bnew wr _) b1))
    go_roundw
    case rel =>
     refine⟨j+1,by omega,by go_num,Lib.hid ⟨bch hI.out.1 b2,fun q hq=>?_⟩⟩
     by_cases h:q<j
     ·exact hI.out.2 q h
     ·obtain rfl:q=j:=by omega
      exact HV.out
    case measure=>simp [intOf];omega
  ·obtain rfl:j=n:=by omega
   have HE:=Lib.hid (show (S,E)=(0,0) by rw [← HR.out];exact eaV_none (fun q hq=>hI.out.2 q (by rw [HN.out] at hq;exact hq)))
   go_wp2
   go_ret2
   cases HE.out
   exact⟨rfl,hI.out.1⟩
theorem eachp_at (F kp kc:Nat) (vm vc vr vl vt:Value) (l:List L9.Ins) (p:Nat→Bool) (er S E:Int) (w:World) (hF:∀ args w,(callFunc F args).run Tryz.prog w=.ok (.enter F args) w)
  (hA:CkA w kc vm vc vr vl vt l) (hm:l.length≤100000)
  (hK:∀ i (h:i<l.length) W,Below w.heap.size w W→Calls Tryz.prog F #[.int .i64 (i:Int),.agg (xA l[i]),.pointer (some ⟨kp,0,none⟩)] W fun e W'=>e=.returned (.bool (p i))∧Below W.heap.size W W') (hR:eaV l p er=(S,E)) :
  Calls Tryz.prog 93 #[.pointer (some ⟨kc,0,none⟩),.func (.func F) #[] #[.pointer (some ⟨kp,0,none⟩)],.int .i64 er] w fun e w'=>e=.returned (.tuple #[.int .i64 S,.int .i64 E])∧Below w.heap.size w w':=by
 obtain⟨n,hn⟩:∃ n,l.length=n:=⟨_,rfl⟩
 obtain⟨a,cap,rfl,hc⟩:=is_form hn hA.is
 obtain⟨ta,tc,rfl,ht⟩:=L10.in_form (n:=n) (by rw [stZ_len,hn]) hA.st
 rw [hn] at hm
 have HA:=Lib.hid hA
 have HC:=Lib.hid hc
 have HT:=Lib.hid ht
 have HN:=Lib.hid hn
 have HK:=Lib.hid hK
 have HR:=Lib.hid hR
 clear hc ht hn hK hR
 obtain⟨x0,x1,x2,x3,x4⟩:=cells5c hA.row
 clear hA x0 x1 x2
 go_enter Tryz.func93,Tryz.ntmps93
 go_wp2
 go_loopw [15] (fun i wr=>∃ j:Nat,j≤n∧i=.int .i64 (j:Int)∧Hid (Below w.heap.size w wr∧∀ q,q<j→p q=true)) (fun i _=>n-(intOf i).toNat)
 case atStart=>exact⟨0,Nat.zero_le _,rfl,Lib.hid ⟨Below.refl _ _,fun q hq=>absurd hq (Nat.not_lt_zero _)⟩⟩
 case round =>
  clear x3 x4
  obtain⟨j,hj,rfl,hI⟩:=hrel
  by_cases hlt:j<n
  ·have hjl:j<l.length:=by rw [HN.out];exact hlt
   obtain⟨b,o,rfl,hbl,hc⟩:=HC.out (by omega)
   obtain⟨tb,tof,rfl,htl,ht⟩:=HT.out (by omega)
   obtain⟨y0,y1,y2,y3,y4,y5⟩:=(hc j hjl).below hbl hI.out.1
   have HTC:=Lib.hid (fun (W:World) (hW:Below wr.heap.size wr W)=>(((bch hI.out.1 hW).cell (p:=⟨tb,tof+j,none⟩) (by exact htl)).trans (ht j (by rw [stZ_len];exact hjl))).trans (by rw [stZ_get]))
   have HX:=Lib.hid (fun (W:World) (hW:Below wr.heap.size wr W)=>cells5c (HA.out.below (bch hI.out.1 hW)).row)
   have HK2:=Lib.hid (fun (W:World) (hW:Below wr.heap.size wr W)=>HK.out j hjl W (bch hI.out.1 hW))
   obtain⟨x,hx⟩:∃ x,l[j]=x:=⟨_,rfl⟩
   rw [hx] at y0 y1 y2 y3 y4 y5 HK2
   obtain⟨v,hv⟩:∃ v,p j=v:=⟨_,rfl⟩
   rw [hv] at HK2
   have HV:=Lib.hid hv
   have hlt':(j:Int)<(n:Int):=by omega
   clear hc ht hx hv
   cases v
   ·have HE:=Lib.hid (show (S,E)=((stN l j:Int),er) by rw [← HR.out];exact eaV_some hjl hI.out.2 HV.out)
    go_wp2_with (go_at_fn F;((with_reducible refine (HK2.out _ (bnew wr _)).mono ?_);rintro e w1 ⟨rfl,b1⟩;have b2:=bch (bnew wr _) b1;obtain⟨-,-,-,-,z4⟩:=HX.out _ b2;have z5:=HTC.out _ b2))
    go_ret2
    cases HE.out
    exact⟨rfl,bch hI.out.1 b2⟩
   ·go_wp2_with (go_at_fn F;((with_reducible refine (HK2.out _ (bnew wr _)).mono ?_);rintro e w1 ⟨rfl,b1⟩;have b2:=bch (bnew wr _) b1))
    go_roundw
    case rel =>
     refine⟨j+1,by omega,by go_num,Lib.hid ⟨bch hI.out.1 b2,fun q hq=>?_⟩⟩
     by_cases h:q<j
     ·exact hI.out.2 q h
     ·obtain rfl:q=j:=by omega
      exact HV.out
    case measure=>simp [intOf];omega
  ·obtain rfl:j=n:=by omega
   have HE:=Lib.hid (show (S,E)=(0,0) by rw [← HR.out];exact eaV_none (fun q hq=>hI.out.2 q (by rw [HN.out] at hq;exact hq)))
   go_wp2
   go_ret2
   cases HE.out
   exact⟨rfl,hI.out.1⟩
end Go.Proofs.YtihiggnglmhggaaGreatDoor.L17
end
