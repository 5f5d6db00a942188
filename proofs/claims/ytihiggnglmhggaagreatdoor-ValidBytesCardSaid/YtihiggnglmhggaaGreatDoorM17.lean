/- Lemmas and walks of L4Rcheck, L5Enca, L5Pre, L5Dec: what each theorem states; conditions stand in each theorem. -/
import Derived.Test.YtihiggnglmhggaaGreatDoorL4Rten
import Derived.Test.YtihiggnglmhggaaGreatDoorL5Enc
set_option maxHeartbeats 4000000
set_option maxRecDepth 100000
section
namespace Go.Proofs.YtihiggnglmhggaaGreatDoor.L4
open Go.RowKit L3 L1
theorem rcheck_at (op:Int) (reg:Bool) (dst src off imm f:Int) (vD vS vO vI n z g y x:Bool) (w:World) (hf:frm (ix op)=f) (hD:uD f=vD) (hS:uS f reg=vS) (hO:uO f=vO) (hI:uI f reg=vI)
  (hn:decide (f<0)=n) (hz:rZ f reg vD vS vO vI dst src off imm=z) (hg:(isG dst && isG src)=g) (hy:rY off=y) (hx:rX f imm=x) :
  Calls Tryz.prog 77 #[.agg #[.int .i64 op,.bool reg,.int .i64 dst,.int .i64 src,.int .i64 off,.int .i64 imm]] w fun e w'=>e=.returned (.int .i64 (rchk n z g y x))∧Below w.heap.size w w':=by
 have HF:=Lib.hid hf
 have HD:=Lib.hid hD
 have HS:=Lib.hid hS
 have HO:=Lib.hid hO
 have HI:=Lib.hid hI
 have HZ:=Lib.hid hz
 have HY:=Lib.hid hy
 have HX:=Lib.hid hx
 obtain⟨a,ha⟩:∃ a,isG dst=a:=⟨_,rfl⟩
 obtain⟨c,hc⟩:∃ c,isG src=c:=⟨_,rfl⟩
 rw [ha,hc] at hg
 have HA:=Lib.hid ha
 have HC:=Lib.hid hc
 subst hg
 clear hf hD hS hO hI hz hy hx ha hc
 cases n
 ·go_enter Tryz.func77,Tryz.ntmps77
  go_upto_region 4 with (first|(go_at_call 29;((with_reducible refine (rform_at op _ _ HF.out).mono ?_);rintro e w1 ⟨rfl,rfl⟩)))
  have hx0:Ins6 (w.alloc (.cells #[.int .i64 op,.bool reg,.int .i64 dst,.int .i64 src,.int .i64 off,.int .i64 imm] 45)) w.heap.size op reg dst src off imm:=⟨heap_alloc_last _ _⟩
  have hb0:Below w.heap.size w (w.alloc (.cells #[.int .i64 op,.bool reg,.int .i64 dst,.int .i64 src,.int .i64 off,.int .i64 imm] 45)):=bnew _ _
  generalize w.alloc (.cells #[.int .i64 op,.bool reg,.int .i64 dst,.int .i64 src,.int .i64 off,.int .i64 imm] 45)=W at hx0 hb0 ⊢
  go_cut [66] (fun c wx=>c=.bool z∧Below w.heap.size w wx∧Hid (Ins6 wx w.heap.size op reg dst src off imm))
  case first =>
   refine wp_region_list ?_
   refine r4_at HF HD HS HO HI HZ.out (fun hb hx=>?_) _ hb0 hx0
   dsimp only
   go_wp2_with (fail)
   go_meet
   exact⟨rfl,hb,Lib.hid hx⟩
  case rest =>
   obtain⟨rfl,hbc,HXc⟩:=hcut
   obtain⟨x0,x1,x2,x3,x4,x5⟩:=cells6 HXc.out.x
   cases z
   ·cases a
    ·go_wp2_with (first|(go_at_call 124;((with_reducible refine (rreg_at _ _ _ HA.out).mono ?_);rintro e w1 ⟨rfl,rfl⟩)))
     go_ret
     exact⟨rfl,hbc⟩
    ·cases c
     ·go_wp2_with (first|(go_at_call 124;((with_reducible refine (rreg_at _ _ _ HA.out).mono ?_);rintro e w1 ⟨rfl,rfl⟩))|(go_at_call 124;((with_reducible refine (rreg_at _ _ _ HC.out).mono ?_);rintro e w1 ⟨rfl,rfl⟩)))
      go_ret
      exact⟨rfl,hbc⟩
     ·unfold rY at HY
      cases l1:decide (off < -32768)
      ·cases l2:decide (32767<off)
       ·obtain rfl:y=false:=by rw [← HY.out,l1,l2];rfl
        go_wp2_with (first|(go_at_call 124;((with_reducible refine (rreg_at _ _ _ HA.out).mono ?_);rintro e w1 ⟨rfl,rfl⟩))|(go_at_call 124;((with_reducible refine (rreg_at _ _ _ HC.out).mono ?_);rintro e w1 ⟨rfl,rfl⟩)))
        refine wp_region_noPanic ?_
        refine r10_at HX.out x5 (fun _ _ _ _ _ h=>h) (Lib.hid ?_)
        intros
        dsimp only
        cases x
        ·go_wp2
         go_ret
         exact⟨rfl,below_drewN hbc 1⟩
        ·go_wp2
         go_ret
         exact⟨rfl,below_drewN hbc 1⟩
       ·obtain rfl:y=true:=by rw [← HY.out,l1,l2];rfl
        go_wp2_with (first|(go_at_call 124;((with_reducible refine (rreg_at _ _ _ HA.out).mono ?_);rintro e w1 ⟨rfl,rfl⟩))|(go_at_call 124;((with_reducible refine (rreg_at _ _ _ HC.out).mono ?_);rintro e w1 ⟨rfl,rfl⟩)))
        go_ret
        exact⟨rfl,hbc⟩
      ·obtain rfl:y=true:=by rw [← HY.out,l1];rfl
       go_wp2_with (first|(go_at_call 124;((with_reducible refine (rreg_at _ _ _ HA.out).mono ?_);rintro e w1 ⟨rfl,rfl⟩))|(go_at_call 124;((with_reducible refine (rreg_at _ _ _ HC.out).mono ?_);rintro e w1 ⟨rfl,rfl⟩)))
       go_ret
       exact⟨rfl,hbc⟩
   ·go_wp2
    go_ret
    exact⟨rfl,hbc⟩
 ·go_enter Tryz.func77,Tryz.ntmps77
  go_wp2_with (first|(go_at_call 29;((with_reducible refine (rform_at op _ _ HF.out).mono ?_);rintro e w1 ⟨rfl,rfl⟩)))
  go_ret
  exact⟨rfl,bnew _ _⟩
end Go.Proofs.YtihiggnglmhggaaGreatDoor.L4
end
section
namespace Go.Proofs.YtihiggnglmhggaaGreatDoor.L5
open Go.RowKit L3 L1 L4
theorem tab1:∀ j,j<86→0≤sr j∧sr j≤1∧0≤of j∧of j≤64∧0≤im j∧im j≤64:=by decide +kernel
theorem tab2:∀ j,j<86→∀ r:Bool,(uS (fm j) r=true→sr j=0)∧(uO (fm j)=true→of j=0)∧(uI (fm j) r=true→im j=0):=by decide +kernel
theorem tab3:∀ j,j<86→∀ r:Bool,0≤cdV j r∧cdV j r≤255:=by decide +kernel
theorem tab4:∀ j,j<86→(slo (fm j)=1∨slo (fm j)=2)∧(slo (fm j)=2→of j=0∧im j=0∧uI (fm j) true=true∧uI (fm j) false=true):=by decide +kernel
theorem frm_lt {j:Nat} (h:frm j≠-1):j<86:=by
 by_cases hj:j<86
 ·exact hj
 ·exact absurd (by unfold frm;rw [if_neg hj]) h
theorem frm_fm {j:Nat} (h:j<86):frm j=fm j:=by unfold frm;rw [if_pos h]
def byC (l:List UInt8):Array Value:=(l.map fun c=>Value.int .u8 (c.toNat:Int)).toArray
theorem or_16 (a b:Int) (ha:0≤a) (ha2:a≤15) (hb:0≤b) (hb2:b≤15):bits .or .i64 (a*16) b=16*a+b:=by
 have h:∀ a:Fin 16,∀ b:Fin 16,bits .or .i64 (((a.val:Nat):Int)*16) ((b.val:Nat):Int)=16*((a.val:Nat):Int)+((b.val:Nat):Int):=by decide +kernel
 have:=h ⟨a.toNat,by omega⟩ ⟨b.toNat,by omega⟩
 simpa [Int.toNat_of_nonneg ha,Int.toNat_of_nonneg hb] using this
theorem wrap32_is (n:Int):wrap32 n=(n+2147483648) % 4294967296-2147483648:=by
 unfold wrap32
 omega
theorem le2_16 (z:Int):le 2 (IntKind.i16.wrap z)=le 2 z:=le_mod (by rw [wrap_i16];omega)
theorem le4_32 (z:Int):le 4 (wrap32 z)=le 4 z:=le_mod (by rw [wrap32_is];omega)
theorem le2_eq (z:Int):le 2 z=[UInt8.ofNat (z % 256).toNat,UInt8.ofNat (z / 256 % 256).toNat]:=rfl
theorem le4_eq (z:Int):le 4 z=[UInt8.ofNat (z % 256).toNat,UInt8.ofNat (z / 256 % 256).toNat,UInt8.ofNat (z / 256 / 256 % 256).toNat,UInt8.ofNat (z / 256 / 256 / 256 % 256).toNat]:=rfl
theorem encode_at (op:Int) (reg:Bool) (dst src off imm f:Int) (l:List UInt8) (n:Nat) (w:World) (hw:Wid w) (hf:frm (ix op)=f) (hc:OkI f reg dst src off imm) (i0:-9223372036854775808≤imm) (i1:imm≤9223372036854775807) (hl:encL (ix op) f reg dst src off imm=l) (hn:l.length=n) :
  Calls Tryz.prog 86 #[.agg #[.int .i64 op,.bool reg,.int .i64 dst,.int .i64 src,.int .i64 off,.int .i64 imm]] w fun e w'=>∃ k,w.heap.size≤k∧e=.returned (.tuple #[.slice (some ⟨k,0,none⟩) n n,.int .i64 0])∧w'.heap[k]?=some (.cells (byC l) 5)∧Below w.heap.size w w':=by
 subst hl hn
 have hj:ix op<86:=frm_lt (by rw [hf];exact hc.hop)
 have hfm:fm (ix op)=f:=(frm_fm hj).symm.trans hf
 have hchk:=(chk_ok f reg dst src off imm).2 hc
 have t1:=tab1 _ hj
 have t2:=tab2 _ hj reg
 have t3:=tab3 _ hj reg
 have t4:=tab4 _ hj
 rw [hfm] at t2 t4
 have hK:cdB (ix op) reg=true:=by
  unfold cdB
  rw [hfm]
  simpa [hj,isR,Bool.or_assoc] using hc.hreg
 have gd:=hc.gd
 have gs:=hc.gs
 have ro:=hc.ro
 have hor:=or_16 (src+sr (ix op)) dst (by omega) (by omega) (by omega) (by omega)
 have m0:cdV (ix op) reg % 256=cdV (ix op) reg:=by omega
 have m1:(16*(src+sr (ix op))+dst) % 256=16*(src+sr (ix op))+dst:=by omega
 have him:-9223372036854775808≤imm+im (ix op)∧imm+im (ix op)≤9223372036854775807:=by
  rcases hc.ui with h|h
  ·have:=t2.2.2 h
   omega
  ·omega
 rcases t4.1 with hs|hs
 ·refine (encode_8 op reg dst src off imm f w hw hf hchk hs _ _ _ _ rfl hK rfl rfl rfl _ (by omega) (by omega) hor (by omega) (by omega) (by omega) him.1 him.2 _ _ _ _ _ _ rfl rfl rfl rfl rfl rfl).mono fun e w' h=>?_
  obtain⟨k,hk,he,hh,hb⟩:=h
  refine⟨k,hk,?_,?_,hb⟩
  ·rw [encL_length,if_neg (by omega)];exact he
  ·rw [hh]
   unfold encL byC
   rw [if_neg (by omega),← le2_16,← le4_32,le2_eq,le4_eq]
   simp only [List.append_nil,List.cons_append,List.nil_append,List.map_cons,List.map_nil,byte_nat]
   rw [m0,m1]
 ·refine (encode_16 op reg dst src off imm f w hw hf hchk hs _ _ _ _ rfl hK rfl rfl rfl _ (by omega) (by omega) hor (by omega) (by omega) (by omega) him.1 him.2 i0 i1 _ _ _ _ _ _ _ _ _ _ rfl rfl rfl rfl rfl rfl rfl rfl rfl rfl).mono fun e w' h=>?_
  obtain⟨k,hk,he,hh,hb⟩:=h
  refine⟨k,hk,?_,?_,hb⟩
  ·rw [encL_length,if_pos hs];exact he
  ·rw [hh]
   unfold encL byC
   rw [if_pos hs,← le2_16,← le4_32 (imm+_),le2_eq,le4_eq,le4_eq]
   simp only [List.cons_append,List.nil_append,List.map_cons,List.map_nil,byte_nat]
   rw [m0,m1]
   rfl
def Bytes (w:World) (k o:Nat) (l:List UInt8):Prop:=∀ j,(h:j<l.length)→w.cell? ⟨k,o+j,none⟩=some (.int .u8 (l[j].toNat:Int))
theorem equal_at (k o n cap k2 o2 m cap2:Nat) (l l2:List UInt8) (r:Bool) (w:World) (hn:l.length=n) (hm:l2.length=m) (h:Bytes w k o l) (h2:Bytes w k2 o2 l2) (hr:(l==l2)=r) :
  Calls Tryz.prog 68 #[.slice (some ⟨k,o,none⟩) n cap,.slice (some ⟨k2,o2,none⟩) m cap2] w fun e w'=>e=.returned (.bool r)∧w=w':=by
 subst hn;subst hm
 have c1:=run_convert_bytes_back w 23 9 5 ⟨k,o,none⟩ cap l Tryz.underlying23 Tryz.underlying5 Tryz.underlying9 (fun j hj=>by rw [show (⟨k,o,none⟩:Addr).add j=⟨k,o+j,none⟩ by unfold Addr.add;split <;> simp_all];exact h j hj)
 have c2:=run_convert_bytes_back w 23 9 5 ⟨k2,o2,none⟩ cap2 l2 Tryz.underlying23 Tryz.underlying5 Tryz.underlying9 (fun j hj=>by rw [show (⟨k2,o2,none⟩:Addr).add j=⟨k2,o2+j,none⟩ by unfold Addr.add;split <;> simp_all];exact h2 j hj)
 have HR:=Lib.hid hr
 clear h h2 hr
 go_enter Tryz.func68,Tryz.ntmps68
 go_wp2
 go_ret
 exact⟨ret_bool HR.out,rfl⟩
theorem sl_to (k o n cap m:Nat) (h:m≤cap) (w:World):(Instr.slice 23 (.slice (some ⟨k,o,none⟩) n cap) none (some (.int .i64 (m:Int))) none).run Tryz.prog w=.ok (.slice (some ⟨k,o,none⟩) m cap) w:=by
 simp [go_sem,Tryz.underlying23,h]
theorem Bytes.take {w:World} {k o:Nat} {l:List UInt8} (h:Bytes w k o l) (m:Nat):Bytes w k o (l.take m):=fun j hj=>by
 rw [List.length_take] at hj
 rw [List.getElem_take]
 exact h j (by omega)
theorem pre_yes (k o n cap k2 m cap2:Nat) (l l2:List UInt8) (r:Bool) (w:World) (hn:l.length=n) (hm:l2.length=m) (h:Bytes w k o l) (h2:Bytes w k2 0 l2) (hc:m≤cap) (hmn:m≤n) (hr:(l.take m==l2)=r) :
  Calls Tryz.prog 180 #[.slice (some ⟨k,o,none⟩) n cap,.slice (some ⟨k2,0,none⟩) m cap2] w fun e w'=>e=.returned (.bool r)∧w=w':=by
 have s1:=sl_to k o n cap m hc
 have HE:=Lib.hid (equal_at k o m cap k2 0 m cap2 (l.take m) l2 r w (by rw [List.length_take];omega) hm (h.take m) h2 hr)
 have h3:m≤n:=hmn
 have h3':(m:Int)≤(n:Int):=by omega
 clear h h2 hr hn hm hc hmn
 go_enter Tryz.func180,Tryz.ntmps180
 go_wp2_with (go_at_call 68;((with_reducible refine (HE.out).mono ?_);rintro e w1 ⟨rfl,rfl⟩))
 go_ret
 exact⟨rfl,rfl⟩
end Go.Proofs.YtihiggnglmhggaaGreatDoor.L5
end
section
namespace Go.Proofs.YtihiggnglmhggaaGreatDoor.L5
open Go.RowKit L3 L1 L4
theorem ident_is (code src off imm n:Int) (r ok:Bool) (w:World) (h:idF code src off imm 86 0=(n,r,ok)):Calls Tryz.prog 197 #[.int .u8 code,.int .i64 src,.int .i64 off,.int .i64 imm] w fun e w' =>
  e=.returned (.tuple #[.int .i64 n,.bool r,.bool ok])∧Below w.heap.size w w':=by
 have:=ident_any code src off imm w
 rw [h] at this
 exact this
structure DecS (w W:World) (g:Nat) (X:Array Value):Prop where
 hb:Below w.heap.size w W
 hg:W.heap[g]?=some (.cells X 45)
 le:w.heap.size≤g
theorem DecS.below {w W W':World} {g:Nat} {X:Array Value} (h:DecS w W g X) (hb:Below W.heap.size W W'):DecS w W' g X :=
 ⟨bch h.hb hb,(hb.block _ (lt_of_block h.hg)).trans h.hg,h.le⟩
theorem DecS.set {w W:World} {g:Nat} {X:Array Value} (h:DecS w W g X) (cs:Array Value):DecS w (W.setRow g cs) g cs :=
 ⟨below_setRow h.hb h.le cs,setRow_heap W g _ cs _ _ h.hg,h.le⟩
theorem DecS.setc {w W:World} {g:Nat} {X:Array Value} (h:DecS w W g X) (i:Nat) (v:Value):DecS w (W.setCell ⟨g,i,none⟩ v) g (X.setIfInBounds i v) :=
 ⟨h.hb.setCell h.le v,cells_set h.hg,h.le⟩
theorem DecS.start (w:World) (X:Array Value):DecS w (w.alloc (.cells X 45)) w.heap.size X:=⟨bnew w _,heap_alloc_last w _,Nat.le_refl _⟩
def DecK (w:World) (g g5:Nat) (X X5:Array Value) (W:World):Prop:=DecS w W g X∧W.heap[g5]?=some (.cells X5 45)
theorem DecK.below {w W W':World} {g g5:Nat} {X X5:Array Value} (h:DecK w g g5 X X5 W) (hb:Below W.heap.size W W'):DecK w g g5 X X5 W' :=
 ⟨h.1.below hb,(hb.block _ (lt_of_block h.2)).trans h.2⟩
theorem keepI {w W W':World} {g g5 k o:Nat} {X:Array Value} {op dst src off imm:Int} {reg:Bool} {c0:Value} (hb:Below W.heap.size W W') (h:DecK w g g5 X (insA op reg dst src off imm) W) (hc:W.cell? ⟨k,o,none⟩=some c0) :
  DecK w g g5 X (insA op reg dst src off imm) W'∧W'.cell? ⟨k,o,none⟩=some c0∧W'.cell? ⟨g5,3,none⟩=some (.int .i64 src)∧W'.cell? ⟨g5,4,none⟩=some (.int .i64 off)∧W'.cell? ⟨g5,5,none⟩=some (.int .i64 imm):=by
 have h2:=h.below hb
 obtain⟨-,-,-,a3,a4,a5⟩:=cells6 h2.2
 exact⟨h2,(hb.cell (p:=⟨k,o,none⟩) (World.block_lt_of_cell? W _ hc)).trans hc,a3,a4,a5⟩
theorem keepJ {w W W':World} {g g5 k o:Nat} {X:Array Value} {op dst src off imm:Int} {reg:Bool} {c0:Value} (hb:Below W.heap.size W W')
  (h:DecK w g g5 X (insA op reg dst src off imm) W∧W.cell? ⟨k,o,none⟩=some c0∧W.cell? ⟨g5,3,none⟩=some (.int .i64 src)∧W.cell? ⟨g5,4,none⟩=some (.int .i64 off)∧W.cell? ⟨g5,5,none⟩=some (.int .i64 imm)) :
  DecK w g g5 X (insA op reg dst src off imm) W'∧W'.cell? ⟨k,o,none⟩=some c0∧W'.cell? ⟨g5,3,none⟩=some (.int .i64 src)∧W'.cell? ⟨g5,4,none⟩=some (.int .i64 off)∧W'.cell? ⟨g5,5,none⟩=some (.int .i64 imm):=keepI hb h.1 h.2.1
section
variable (k o n cap:Nat) (c0 c1 c2 c3 c4 c5 c6 c7:UInt8) (off imm:Int) (w:World) (hw:Wid w) (h:Eight w k o c0 c1 c2 c3 c4 c5 c6 c7) (hn:8≤n) (hc:n≤cap) (hm:n≤9223372036854775807) (ho:sx 16 ((c2.toNat:Int)*1+(c3.toNat:Int)*256)=off) (hi:sx 32 ((c4.toNat:Int)*1+(c5.toNat:Int)*256+(c6.toNat:Int)*65536+(c7.toNat:Int)*16777216)=imm) (op:Int) (r ok:Bool) (hid:idF (c0.toNat:Int) ((c1.toNat:Int) / 16) off imm 86 0=(op,r,ok))
include k o n cap c0 c1 c2 c3 c4 c5 c6 c7 off imm w hw h hn hc hm ho hi op r ok hid
theorem dec_op (hok:ok=false) :
  Calls Tryz.prog 171 #[.slice (some ⟨k,o,none⟩) n cap] w fun e w'=>e=.returned (.tuple #[.agg #[.int .i64 0,.bool false,.int .i64 0,.int .i64 0,.int .i64 0,.int .i64 0],.int .i64 0,.int .i64 6])∧Below w.heap.size w w':=by
 have HH:=Lib.hid h
 have HW:=Lib.hid hw
 have HF:=Lib.hid (fun (W:World) (hb:Below w.heap.size w W)=>fields_at k o n cap c0 c1 c2 c3 c4 c5 c6 c7 off imm W (wid_below hw hb) (h.below hb) hn hc hm ho hi)
 have HD:=Lib.hid (fun (W:World)=>ident_is (c0.toNat:Int) ((c1.toNat:Int) / 16) off imm op r ok W hid)
 have n8:¬ (n:Int)<8:=by omega
 have n0:0<n:=by omega
 have b1:=c1.toNat_lt
 clear hw h ho hi hid hn hc hm
 go_enter Tryz.func171,Tryz.ntmps171
 go_upto_region 4 with (go_at_call 196;((with_reducible refine (HF.out _ (bnew _ _)).mono ?_);rintro e w1 ⟨rfl,hb1⟩))
 have S:=(DecS.start w #[.int .i64 0,.bool false,.int .i64 0,.int .i64 0,.int .i64 0,.int .i64 0]).below (bch hb1 (bnew w1 (.cells (insA 0 false ((c1.toNat:Int) % 16) ((c1.toNat:Int) / 16) off imm) 45)))
 have h5:=heap_alloc_last w1 (.cells (insA 0 false ((c1.toNat:Int) % 16) ((c1.toNat:Int) / 16) off imm) 45)
 obtain⟨g,hg⟩:∃ g,g=w.heap.size:=⟨_,rfl⟩
 obtain⟨g5,hg5⟩:∃ g5,g5=w1.heap.size:=⟨_,rfl⟩
 have hs1:=hb1.size
 simp only [World.size_alloc] at hs1
 have hne:g≠g5:=by omega
 have hle5:w.heap.size≤g5:=by omega
 rw [← hg] at S ⊢
 rw [← hg5] at h5 ⊢
 generalize w1.alloc (.cells _ 45)=W at S h5 ⊢
 clear hb1 hg hg5 hs1
 have n8':=n8
 have K:DecK w g g5 #[.int .i64 0,.bool false,.int .i64 0,.int .i64 0,.int .i64 0,.int .i64 0] (insA 0 false ((c1.toNat:Int) % 16) ((c1.toNat:Int) / 16) off imm) W:=⟨S,h5⟩
 have d0:=(HH.out.below S.hb).a0
 have HL:=Lib.hid hle5
 have HN:=Lib.hid hne
 clear S h5 hle5 hne
 go_region_held3 (fun w'=>DecK w g g5 #[.int .i64 0,.bool false,.int .i64 0,.int .i64 0,.int .i64 0,.int .i64 0] (insA 0 false ((c1.toNat:Int) % 16) ((c1.toNat:Int) / 16) off imm) w'∧w'.cell? ⟨k,o,none⟩=some (.int .u8 (c0.toNat:Int))∧w'.cell? ⟨g5,3,none⟩=some (.int .i64 ((c1.toNat:Int) / 16))∧w'.cell? ⟨g5,4,none⟩=some (.int .i64 off)∧w'.cell? ⟨g5,5,none⟩=some (.int .i64 imm))
  (first|exact keepI (Below.refl _ _).drew K d0|exact keepJ hb9 (by assumption)|assumption)
  (first|(go_at_call 197;((with_reducible refine (HD.out _).mono ?_);rintro e w9 ⟨rfl,hb9⟩)))
 all_goals
  rename_i hh
  replace K:=hh.1
  clear hh d0
  have S:=K.1
  go_wp2_with (first|(refine wpList_store_row rfl _ _ _ rfl g #[.int .i64 0,.bool false,.int .i64 0,.int .i64 0,.int .i64 0,.int .i64 0] rfl rfl 45 _ S.hg (by kernel_rfl) rfl (ins_one _ _ _ _ _ _) ?_;replace S:=S.set #[.int .i64 0,.bool false,.int .i64 0,.int .i64 0,.int .i64 0,.int .i64 0];obtain⟨x0,x1,x2,x3,x4,x5⟩:=cells6 S.hg))
  exact bodyPost_ret (v:=.tuple #[.agg #[.int .i64 0,.bool false,.int .i64 0,.int .i64 0,.int .i64 0,.int .i64 0],.int .i64 0,.int .i64 6]) (by simp [results,Tryz.results171,go_sem,x0,x1,x2,x3,x4,x5]) rfl ⟨rfl,S.hb⟩
theorem dec_short2 (hok:ok=true) (f:Int) (hf:frm (ix op)=f) (hs:slo f=2) (h16:n<16) :
  Calls Tryz.prog 171 #[.slice (some ⟨k,o,none⟩) n cap] w fun e w'=>e=.returned (.tuple #[.agg #[.int .i64 0,.bool false,.int .i64 0,.int .i64 0,.int .i64 0,.int .i64 0],.int .i64 0,.int .i64 17])∧Below w.heap.size w w':=by
 have HT:=Lib.hid (fun (W:World)=>slots_at op f 2 W hf hs)
 have n16:(n:Int)<16:=by omega
 clear hf hs h16
 have HH:=Lib.hid h
 have HW:=Lib.hid hw
 have HF:=Lib.hid (fun (W:World) (hb:Below w.heap.size w W)=>fields_at k o n cap c0 c1 c2 c3 c4 c5 c6 c7 off imm W (wid_below hw hb) (h.below hb) hn hc hm ho hi)
 have HD:=Lib.hid (fun (W:World)=>ident_is (c0.toNat:Int) ((c1.toNat:Int) / 16) off imm op r ok W hid)
 have n8:¬ (n:Int)<8:=by omega
 have n0:0<n:=by omega
 have b1:=c1.toNat_lt
 clear hw h ho hi hid hn hc hm
 go_enter Tryz.func171,Tryz.ntmps171
 go_upto_region 4 with (go_at_call 196;((with_reducible refine (HF.out _ (bnew _ _)).mono ?_);rintro e w1 ⟨rfl,hb1⟩))
 have S:=(DecS.start w #[.int .i64 0,.bool false,.int .i64 0,.int .i64 0,.int .i64 0,.int .i64 0]).below (bch hb1 (bnew w1 (.cells (insA 0 false ((c1.toNat:Int) % 16) ((c1.toNat:Int) / 16) off imm) 45)))
 have h5:=heap_alloc_last w1 (.cells (insA 0 false ((c1.toNat:Int) % 16) ((c1.toNat:Int) / 16) off imm) 45)
 obtain⟨g,hg⟩:∃ g,g=w.heap.size:=⟨_,rfl⟩
 obtain⟨g5,hg5⟩:∃ g5,g5=w1.heap.size:=⟨_,rfl⟩
 have hs1:=hb1.size
 simp only [World.size_alloc] at hs1
 have hne:g≠g5:=by omega
 have hle5:w.heap.size≤g5:=by omega
 rw [← hg] at S ⊢
 rw [← hg5] at h5 ⊢
 generalize w1.alloc (.cells _ 45)=W at S h5 ⊢
 clear hb1 hg hg5 hs1
 have n8':=n8
 have K:DecK w g g5 #[.int .i64 0,.bool false,.int .i64 0,.int .i64 0,.int .i64 0,.int .i64 0] (insA 0 false ((c1.toNat:Int) % 16) ((c1.toNat:Int) / 16) off imm) W:=⟨S,h5⟩
 have d0:=(HH.out.below S.hb).a0
 have HL:=Lib.hid hle5
 have HN:=Lib.hid hne
 clear S h5 hle5 hne
 go_region_held3 (fun w'=>DecK w g g5 #[.int .i64 0,.bool false,.int .i64 0,.int .i64 0,.int .i64 0,.int .i64 0] (insA 0 false ((c1.toNat:Int) % 16) ((c1.toNat:Int) / 16) off imm) w'∧w'.cell? ⟨k,o,none⟩=some (.int .u8 (c0.toNat:Int))∧w'.cell? ⟨g5,3,none⟩=some (.int .i64 ((c1.toNat:Int) / 16))∧w'.cell? ⟨g5,4,none⟩=some (.int .i64 off)∧w'.cell? ⟨g5,5,none⟩=some (.int .i64 imm))
  (first|exact keepI (Below.refl _ _).drew K d0|exact keepJ hb9 (by assumption)|assumption)
  (first|(go_at_call 197;((with_reducible refine (HD.out _).mono ?_);rintro e w9 ⟨rfl,hb9⟩)))
 all_goals
  rename_i hh
  replace K:=hh.1
  clear hh d0
  go_wp2_with (first|(go_at_call 42;((with_reducible refine (HT.out _).mono ?_);rintro e w2 ⟨rfl,hb2⟩;replace K:=K.below hb2;obtain⟨a0,a1,a2,a3,a4,a5⟩:=cells6 K.2))|(have S:=K.1;refine wpList_store_row rfl _ _ _ rfl g #[.int .i64 0,.bool false,.int .i64 0,.int .i64 0,.int .i64 0,.int .i64 0] rfl rfl 45 _ S.hg (by kernel_rfl) rfl (ins_one _ _ _ _ _ _) ?_;replace S:=S.set #[.int .i64 0,.bool false,.int .i64 0,.int .i64 0,.int .i64 0,.int .i64 0];obtain⟨x0,x1,x2,x3,x4,x5⟩:=cells6 S.hg))
  exact bodyPost_ret (v:=.tuple #[.agg #[.int .i64 0,.bool false,.int .i64 0,.int .i64 0,.int .i64 0,.int .i64 0],.int .i64 0,.int .i64 17]) (by simp [results,Tryz.results171,go_sem,x0,x1,x2,x3,x4,x5]) rfl ⟨rfl,S.hb⟩
theorem dec_reg1 (hok:ok=true) (f:Int) (hf:frm (ix op)=f) (hs:slo f=1) (hr:11≤(c1.toNat:Int) % 16∨11≤(c1.toNat:Int) / 16) :
  Calls Tryz.prog 171 #[.slice (some ⟨k,o,none⟩) n cap] w fun e w'=>e=.returned (.tuple #[.agg #[.int .i64 0,.bool false,.int .i64 0,.int .i64 0,.int .i64 0,.int .i64 0],.int .i64 0,.int .i64 5])∧Below w.heap.size w w':=by
 have HT:=Lib.hid (fun (W:World)=>slots_at op f 1 W hf hs)
 clear hf hs
 have HH:=Lib.hid h
 have HW:=Lib.hid hw
 have HF:=Lib.hid (fun (W:World) (hb:Below w.heap.size w W)=>fields_at k o n cap c0 c1 c2 c3 c4 c5 c6 c7 off imm W (wid_below hw hb) (h.below hb) hn hc hm ho hi)
 have HD:=Lib.hid (fun (W:World)=>ident_is (c0.toNat:Int) ((c1.toNat:Int) / 16) off imm op r ok W hid)
 have n8:¬ (n:Int)<8:=by omega
 have n0:0<n:=by omega
 have b1:=c1.toNat_lt
 clear hw h ho hi hid hn hc hm
 go_enter Tryz.func171,Tryz.ntmps171
 go_upto_region 4 with (go_at_call 196;((with_reducible refine (HF.out _ (bnew _ _)).mono ?_);rintro e w1 ⟨rfl,hb1⟩))
 have S:=(DecS.start w #[.int .i64 0,.bool false,.int .i64 0,.int .i64 0,.int .i64 0,.int .i64 0]).below (bch hb1 (bnew w1 (.cells (insA 0 false ((c1.toNat:Int) % 16) ((c1.toNat:Int) / 16) off imm) 45)))
 have h5:=heap_alloc_last w1 (.cells (insA 0 false ((c1.toNat:Int) % 16) ((c1.toNat:Int) / 16) off imm) 45)
 obtain⟨g,hg⟩:∃ g,g=w.heap.size:=⟨_,rfl⟩
 obtain⟨g5,hg5⟩:∃ g5,g5=w1.heap.size:=⟨_,rfl⟩
 have hs1:=hb1.size
 simp only [World.size_alloc] at hs1
 have hne:g≠g5:=by omega
 have hle5:w.heap.size≤g5:=by omega
 rw [← hg] at S ⊢
 rw [← hg5] at h5 ⊢
 generalize w1.alloc (.cells _ 45)=W at S h5 ⊢
 clear hb1 hg hg5 hs1
 have n8':=n8
 have K:DecK w g g5 #[.int .i64 0,.bool false,.int .i64 0,.int .i64 0,.int .i64 0,.int .i64 0] (insA 0 false ((c1.toNat:Int) % 16) ((c1.toNat:Int) / 16) off imm) W:=⟨S,h5⟩
 have d0:=(HH.out.below S.hb).a0
 have HL:=Lib.hid hle5
 have HN:=Lib.hid hne
 clear S h5 hle5 hne
 go_region_held3 (fun w'=>DecK w g g5 #[.int .i64 0,.bool false,.int .i64 0,.int .i64 0,.int .i64 0,.int .i64 0] (insA 0 false ((c1.toNat:Int) % 16) ((c1.toNat:Int) / 16) off imm) w'∧w'.cell? ⟨k,o,none⟩=some (.int .u8 (c0.toNat:Int))∧w'.cell? ⟨g5,3,none⟩=some (.int .i64 ((c1.toNat:Int) / 16))∧w'.cell? ⟨g5,4,none⟩=some (.int .i64 off)∧w'.cell? ⟨g5,5,none⟩=some (.int .i64 imm))
  (first|exact keepI (Below.refl _ _).drew K d0|exact keepJ hb9 (by assumption)|assumption)
  (first|(go_at_call 197;((with_reducible refine (HD.out _).mono ?_);rintro e w9 ⟨rfl,hb9⟩)))
 all_goals
  rename_i hh
  replace K:=hh.1
  clear hh d0
  by_cases hd:11≤(c1.toNat:Int) % 16
  ·clear hr
   go_wp2_with (first|(go_at_call 42;((with_reducible refine (HT.out _).mono ?_);rintro e w2 ⟨rfl,hb2⟩;replace K:=K.below hb2;obtain⟨a0,a1,a2,a3,a4,a5⟩:=cells6 K.2))|(have S:=K.1;refine wpList_store_row rfl _ _ _ rfl g #[.int .i64 0,.bool false,.int .i64 0,.int .i64 0,.int .i64 0,.int .i64 0] rfl rfl 45 _ S.hg (by kernel_rfl) rfl (ins_one _ _ _ _ _ _) ?_;replace S:=S.set #[.int .i64 0,.bool false,.int .i64 0,.int .i64 0,.int .i64 0,.int .i64 0];obtain⟨x0,x1,x2,x3,x4,x5⟩:=cells6 S.hg))
   exact bodyPost_ret (v:=.tuple #[.agg #[.int .i64 0,.bool false,.int .i64 0,.int .i64 0,.int .i64 0,.int .i64 0],.int .i64 0,.int .i64 5]) (by simp [results,Tryz.results171,go_sem,x0,x1,x2,x3,x4,x5]) rfl ⟨rfl,S.hb⟩
  ·replace hr:11≤(c1.toNat:Int) / 16:=by omega
   go_wp2_with (first|(go_at_call 42;((with_reducible refine (HT.out _).mono ?_);rintro e w2 ⟨rfl,hb2⟩;replace K:=K.below hb2;obtain⟨a0,a1,a2,a3,a4,a5⟩:=cells6 K.2))|(have S:=K.1;refine wpList_store_row rfl _ _ _ rfl g #[.int .i64 0,.bool false,.int .i64 0,.int .i64 0,.int .i64 0,.int .i64 0] rfl rfl 45 _ S.hg (by kernel_rfl) rfl (ins_one _ _ _ _ _ _) ?_;replace S:=S.set #[.int .i64 0,.bool false,.int .i64 0,.int .i64 0,.int .i64 0,.int .i64 0];obtain⟨x0,x1,x2,x3,x4,x5⟩:=cells6 S.hg))
   exact bodyPost_ret (v:=.tuple #[.agg #[.int .i64 0,.bool false,.int .i64 0,.int .i64 0,.int .i64 0,.int .i64 0],.int .i64 0,.int .i64 5]) (by simp [results,Tryz.results171,go_sem,x0,x1,x2,x3,x4,x5]) rfl ⟨rfl,S.hb⟩
theorem dec_reg2 (hok:ok=true) (f:Int) (hf:frm (ix op)=f) (hs:slo f=2) (h16:16≤n) (hr:11≤(c1.toNat:Int) % 16∨11≤(c1.toNat:Int) / 16) :
  Calls Tryz.prog 171 #[.slice (some ⟨k,o,none⟩) n cap] w fun e w'=>e=.returned (.tuple #[.agg #[.int .i64 0,.bool false,.int .i64 0,.int .i64 0,.int .i64 0,.int .i64 0],.int .i64 0,.int .i64 5])∧Below w.heap.size w w':=by
 have HT:=Lib.hid (fun (W:World)=>slots_at op f 2 W hf hs)
 have n16:¬ (n:Int)<16:=by omega
 clear hf hs h16
 have HH:=Lib.hid h
 have HW:=Lib.hid hw
 have HF:=Lib.hid (fun (W:World) (hb:Below w.heap.size w W)=>fields_at k o n cap c0 c1 c2 c3 c4 c5 c6 c7 off imm W (wid_below hw hb) (h.below hb) hn hc hm ho hi)
 have HD:=Lib.hid (fun (W:World)=>ident_is (c0.toNat:Int) ((c1.toNat:Int) / 16) off imm op r ok W hid)
 have n8:¬ (n:Int)<8:=by omega
 have n0:0<n:=by omega
 have b1:=c1.toNat_lt
 clear hw h ho hi hid hn hc hm
 go_enter Tryz.func171,Tryz.ntmps171
 go_upto_region 4 with (go_at_call 196;((with_reducible refine (HF.out _ (bnew _ _)).mono ?_);rintro e w1 ⟨rfl,hb1⟩))
 have S:=(DecS.start w #[.int .i64 0,.bool false,.int .i64 0,.int .i64 0,.int .i64 0,.int .i64 0]).below (bch hb1 (bnew w1 (.cells (insA 0 false ((c1.toNat:Int) % 16) ((c1.toNat:Int) / 16) off imm) 45)))
 have h5:=heap_alloc_last w1 (.cells (insA 0 false ((c1.toNat:Int) % 16) ((c1.toNat:Int) / 16) off imm) 45)
 obtain⟨g,hg⟩:∃ g,g=w.heap.size:=⟨_,rfl⟩
 obtain⟨g5,hg5⟩:∃ g5,g5=w1.heap.size:=⟨_,rfl⟩
 have hs1:=hb1.size
 simp only [World.size_alloc] at hs1
 have hne:g≠g5:=by omega
 have hle5:w.heap.size≤g5:=by omega
 rw [← hg] at S ⊢
 rw [← hg5] at h5 ⊢
 generalize w1.alloc (.cells _ 45)=W at S h5 ⊢
 clear hb1 hg hg5 hs1
 have n8':=n8
 have K:DecK w g g5 #[.int .i64 0,.bool false,.int .i64 0,.int .i64 0,.int .i64 0,.int .i64 0] (insA 0 false ((c1.toNat:Int) % 16) ((c1.toNat:Int) / 16) off imm) W:=⟨S,h5⟩
 have d0:=(HH.out.below S.hb).a0
 have HL:=Lib.hid hle5
 have HN:=Lib.hid hne
 clear S h5 hle5 hne
 go_region_held3 (fun w'=>DecK w g g5 #[.int .i64 0,.bool false,.int .i64 0,.int .i64 0,.int .i64 0,.int .i64 0] (insA 0 false ((c1.toNat:Int) % 16) ((c1.toNat:Int) / 16) off imm) w'∧w'.cell? ⟨k,o,none⟩=some (.int .u8 (c0.toNat:Int))∧w'.cell? ⟨g5,3,none⟩=some (.int .i64 ((c1.toNat:Int) / 16))∧w'.cell? ⟨g5,4,none⟩=some (.int .i64 off)∧w'.cell? ⟨g5,5,none⟩=some (.int .i64 imm))
  (first|exact keepI (Below.refl _ _).drew K d0|exact keepJ hb9 (by assumption)|assumption)
  (first|(go_at_call 197;((with_reducible refine (HD.out _).mono ?_);rintro e w9 ⟨rfl,hb9⟩)))
 all_goals
  rename_i hh
  replace K:=hh.1
  clear hh d0
  by_cases hd:11≤(c1.toNat:Int) % 16
  ·clear hr
   go_wp2_with (first|(go_at_call 42;((with_reducible refine (HT.out _).mono ?_);rintro e w2 ⟨rfl,hb2⟩;replace K:=K.below hb2;obtain⟨a0,a1,a2,a3,a4,a5⟩:=cells6 K.2))|(have S:=K.1;refine wpList_store_row rfl _ _ _ rfl g #[.int .i64 0,.bool false,.int .i64 0,.int .i64 0,.int .i64 0,.int .i64 0] rfl rfl 45 _ S.hg (by kernel_rfl) rfl (ins_one _ _ _ _ _ _) ?_;replace S:=S.set #[.int .i64 0,.bool false,.int .i64 0,.int .i64 0,.int .i64 0,.int .i64 0];obtain⟨x0,x1,x2,x3,x4,x5⟩:=cells6 S.hg))
   exact bodyPost_ret (v:=.tuple #[.agg #[.int .i64 0,.bool false,.int .i64 0,.int .i64 0,.int .i64 0,.int .i64 0],.int .i64 0,.int .i64 5]) (by simp [results,Tryz.results171,go_sem,x0,x1,x2,x3,x4,x5]) rfl ⟨rfl,S.hb⟩
  ·replace hr:11≤(c1.toNat:Int) / 16:=by omega
   go_wp2_with (first|(go_at_call 42;((with_reducible refine (HT.out _).mono ?_);rintro e w2 ⟨rfl,hb2⟩;replace K:=K.below hb2;obtain⟨a0,a1,a2,a3,a4,a5⟩:=cells6 K.2))|(have S:=K.1;refine wpList_store_row rfl _ _ _ rfl g #[.int .i64 0,.bool false,.int .i64 0,.int .i64 0,.int .i64 0,.int .i64 0] rfl rfl 45 _ S.hg (by kernel_rfl) rfl (ins_one _ _ _ _ _ _) ?_;replace S:=S.set #[.int .i64 0,.bool false,.int .i64 0,.int .i64 0,.int .i64 0,.int .i64 0];obtain⟨x0,x1,x2,x3,x4,x5⟩:=cells6 S.hg))
   exact bodyPost_ret (v:=.tuple #[.agg #[.int .i64 0,.bool false,.int .i64 0,.int .i64 0,.int .i64 0,.int .i64 0],.int .i64 0,.int .i64 5]) (by simp [results,Tryz.results171,go_sem,x0,x1,x2,x3,x4,x5]) rfl ⟨rfl,S.hb⟩
end
end Go.Proofs.YtihiggnglmhggaaGreatDoor.L5
end
