/- Lemmas and walks of L15Fr, L15It: what each theorem states; conditions stand in each theorem. -/
import Derived.Test.YtihiggnglmhggaaGreatDoorM7
set_option maxHeartbeats 8000000
set_option maxRecDepth 100000
section
namespace Go.Proofs.YtihiggnglmhggaaGreatDoor.L15
open Go.RowKit L14
attribute [local go_sem] Oper.semAt_some
theorem rowZ_zeros (xs:List UInt8) (N:Nat):∀ k,xs.length+k≤N→rowZ eB (.int .u8 0) xs N=rowZ eB (.int .u8 0) (xs++List.replicate k 0) N
 | 0,_=>by simp
 | k+1,h=>by
  rw [rowZ_zeros xs N k (by omega),List.replicate_succ',← List.append_assoc]
  exact rowZ_zero eB (.int .u8 0) _ 0 N rfl (by simp;omega)
def At (w:World) (g N:Nat) (xs:List UInt8):Prop:=w.heap[g]?=some (.cells (rowZ eB (.int .u8 0) xs N) 5 (0,0))
theorem At.up {w w':World} {g N:Nat} {xs:List UInt8} (h:At w g N xs) (hb:Below w.heap.size w w'):At w' g N xs:=(hb.block g (lt_of_block h)).trans h
theorem put_is (g m N x:Nat) (xs ys:List UInt8) (o:Nat) (X:Int) (w:World) (h:At w g N xs) (ho:xs.length=o) (hm:m≤4) (hN:o+m≤N) (hNN:N≤1000000000) (hx:x<4294967296) (hX:X=(x:Int)) (hys:ys=xs++le m x) :
  Calls Tryz.prog 200 #[.slice (some ⟨g,o,none⟩) m m,.int .i64 X] w fun e w'=>e=.returned (.tuple #[])∧At w' g N ys∧Oth g w w':=by
 subst hX hys
 exact put_at g m N x xs o w ho hm hN hNN hx h
theorem front_at (v:Value) (l:List Sc) (H:Nat) (w:World) (hv:Ss w v l) (hs:Fw l) (hk:asc 0 l=true) (hH:hd l.length=H) :
  Calls Tryz.prog 179 #[v] w fun e w'=>(∃ g,e=.returned (.slice (some ⟨g,0,none⟩) H H)∧Rw eB w' (.slice (some ⟨g,0,none⟩) H H) (frt l))∧Below w.heap.size w w':=by
 obtain⟨ib,ki,kz0,kz1,kz2⟩:=info_parts infoByte
 have hsz8:(Tryz.prog.info? 5).map (·.size)=some 1:=by rw [ki];simp [kz1]
 obtain⟨n,hn⟩:∃ n,l.length=n:=⟨_,rfl⟩
 obtain⟨S,hS⟩:∃ S,szL l=S:=⟨_,rfl⟩
 obtain⟨a,c,rfl,-,-,hc⟩:=hv.form hn
 have hnl:=hs.n
 have htt:=hs.tot
 have hsz:=hs.sz
 rw [hn] at hnl hH
 rw [hS] at hsz
 have hHb:H≤300∧16+12*n≤H:=by
  have h1:=up_le (16+12*n)
  have h2:=up_ge (16+12*n)
  rw [← hH];unfold hd;omega
 obtain⟨hH1,hH2⟩:=hHb
 have HZ:=Lib.hid (fun W (hb:Below w.heap.size w W)=>size_at (.slice a n c) l S W (hv.below hb) hs.sml hS)
 have HDS:=Lib.hid (fun W=>dataS_at n H W (by omega) hH)
 have hs1:∀ W,(Instr.slice 23 (.slice (some ⟨w.heap.size,0,none⟩) H H) (some (.int .i64 4)) (some (.int .i64 6)) (some (.int .i64 6))).run Tryz.prog W=.ok (.slice (some ⟨w.heap.size,4,none⟩) 2 2) W:=fun W=>run_three und8 size8 w.heap.size 0 H H 4 6 (by omega) (by omega) W
 have hs2:∀ W,(Instr.slice 23 (.slice (some ⟨w.heap.size,0,none⟩) H H) (some (.int .i64 6)) (some (.int .i64 8)) (some (.int .i64 8))).run Tryz.prog W=.ok (.slice (some ⟨w.heap.size,6,none⟩) 2 2) W:=fun W=>run_three und8 size8 w.heap.size 0 H H 6 8 (by omega) (by omega) W
 have hs3:∀ W,(Instr.slice 23 (.slice (some ⟨w.heap.size,0,none⟩) H H) (some (.int .i64 8)) (some (.int .i64 12)) (some (.int .i64 12))).run Tryz.prog W=.ok (.slice (some ⟨w.heap.size,8,none⟩) 4 4) W:=fun W=>run_three und8 size8 w.heap.size 0 H H 8 12 (by omega) (by omega) W
 have G1:=Lib.hid (show (w.alloc (.cells (madeCells #[.int .u8 0] H) 5)).heap[w.heap.size]?=some (.cells (rowZ eB (.int .u8 0) [] H) 5 (0,0)) by
  rw [← rowZ_made eB]
  exact heap_alloc_new w _)
 have HX:=Lib.hid (show ((rowZ eB (.int .u8 0) [] H).toList.take 0++Lib.byteCells ([83,76,67,49]:List UInt8)++(rowZ eB (.int .u8 0) [] H).toList.drop (0+4)).toArray=rowZ eB (.int .u8 0) [83,76,67,49] H from rowZ_copy eB (.int .u8 0) [] [83,76,67,49] H (by simp;omega))
 have HSz:=Lib.hid (show (⟨#[83,76,67,49]⟩:ByteArray).size=4 from rfl)
 have HRS:=Lib.hid (rowZ_size eB (.int .u8 0) [] H (by simp))
 have P1:=Lib.hid (fun W (h:At W w.heap.size H [83,76,67,49])=>put_is w.heap.size 2 H 1 _ ([83,76,67,49]++le 2 1) 4 1 W h rfl (by omega) (by omega) (by omega) (by omega) rfl rfl)
 have P2:=Lib.hid (fun W (h:At W w.heap.size H ([83,76,67,49]++le 2 1))=>put_is w.heap.size 2 H n _ ([83,76,67,49]++le 2 1++le 2 n) 6 (n:Int) W h rfl (by omega) (by omega) (by omega) (by omega) rfl rfl)
 have P3:=Lib.hid (fun W (h:At W w.heap.size H ([83,76,67,49]++le 2 1++le 2 n))=>put_is w.heap.size 4 H S _ ([83,76,67,49]++le 2 1++le 2 n++le 4 S) 8 (S:Int) W h rfl (by omega) (by omega) (by omega) (by omega) rfl rfl)
 have HE:=Lib.hid (show rowZ eB (.int .u8 0) ([83,76,67,49]++le 2 1++le 2 n++le 4 S) H=rowZ eB (.int .u8 0) (hea l) H by
  rw [rowZ_zeros _ H 4 (by simp [le_len];omega),hea,hn,hS];rfl)
 have HC:=Lib.hid hc
 have HN:=Lib.hid hn
 have HT:=Lib.hid htt
 have HH:=Lib.hid hH
 have HM:=Lib.hid hs.d
 have HK:=Lib.hid hk
 clear hn hc hv hs hk hS htt hH
 go_enter Tryz.func179,Tryz.ntmps179
 go_wp2_with (first
  | (go_at_call 176;((with_reducible refine (HDS.out _).mono ?_);rintro e w1 ⟨rfl,rfl⟩))
  | (at_make;refine wpList_make_row _ rfl _ _ 23 rfl 5 ib (.int .u8 0) Tryz.underlying23 ki kz0 kz1 rfl .i64 .i64 H rfl rfl (by rw [kz2];omega) (by omega) ?_)
  | ((with_reducible refine wpList_copy_str rfl _ _ 23 9 rfl 5 Tryz.underlying23 hsz8 w.heap.size 0 H H ⟨#[83,76,67,49]⟩ rfl rfl _ 5 G1.out (by rw [HSz.out];omega) (by rw [HRS.out,HSz.out];omega) ?_);intro w2 hw2;have BT2:Below w.heap.size w w2:=(by rw [hw2];exact below_setRow (bnew w _) (Nat.le_refl _) _);have G2:At w2 w.heap.size H [83,76,67,49]:=(by unfold At;rw [← HX.out,hw2];exact setRow_heap _ _ _ _ _ _ G1.out);clear hw2)
  | (go_at_call 200;((with_reducible refine (P1.out _ G2).mono ?_);rintro e w3 ⟨rfl,G3,b3⟩;have BT3:=BT2.trans b3.b))
  | (go_at_call 200;((with_reducible refine (P2.out _ G3).mono ?_);rintro e w4 ⟨rfl,G4,b4⟩;have BT4:=BT3.trans b4.b)))
 have G4h:=Lib.hid G4
 have B4h:=Lib.hid BT4
 clear G2 G3 G4 BT2 BT3 BT4 b3 b4 P1 P2 hs1 hs2
 refine wp_region_held_drew (S:=fun _=>True) (by kernel_rfl) trivial (fun hH=>?_)
 refine zT0 0 23 (.move (.tmp 4)) (.slice (some ⟨w.heap.size,0,none⟩) H H) rfl hH ?_
 simp only [zz]
 refine zT1 1 24 (.slice 23 (.tmp 23) (some (.const (.int .i64 8))) (some (.const (.int .i64 12))) (some (.const (.int .i64 12)))) (.slice (some ⟨w.heap.size,8,none⟩) 4 4) rfl (fun wS hS=>by have q:=hs3 wS;go_simp) hH ?_
 simp only [zz]
 refine zT0 2 25 (.move (.tmp 0)) (.slice a n c) rfl hH ?_
 simp only [zz]
 refine wpAnyH_ready (rs:=[3]) (by kernel_rfl) (by simp) ?_
 refine AllReadyH.cons (o:=⟨some 26,.call ⟨.value (.func 148),#[.tmp 25],#[150]⟩,_,_,_,none⟩) rfl (fun K hK=>?_) AllReadyH.nil
 go_simp
 refine (HZ.out _ B4h.out.drew).mono ?_
 rintro e w5 ⟨rfl,b5⟩
 have G5:At w5 w.heap.size H _:=(show At w4.drew w.heap.size H _ from G4h.out).up b5
 have B5:=B4h.out.drew.trans (b5.mono B4h.out.size)
 refine hK.out _ _ trivial (fun hH2=>?_)
 clear hK K hH
 (try simp only [zz])
 refine wpAnyH_ready (rs:=[4]) (by kernel_rfl) (by simp) ?_
 refine AllReadyH.cons (o:=⟨some 27,.call ⟨.value (.func 200),#[.tmp 24,.tmp 26],#[23,3]⟩,_,_,_,none⟩) rfl (fun K hK=>?_) AllReadyH.nil
 go_simp
 refine (P3.out _ G5).mono ?_
 rintro e w6 ⟨rfl,G6,b6⟩
 have B6:=B5.trans b6.b
 refine hK.out _ _ trivial (fun hH3=>?_)
 clear hK K hH2
 (try simp only [zz])
 refine wpAnyH_done (by kernel_rfl) ?_ _
 have H6:=Lib.hid (show At w6 w.heap.size H (hea l)∧Below w.heap.size w w6 from ⟨by unfold At;rw [← HE.out];exact G6,B6⟩)
 clear G6 B6 b6 G5 B5 b5 hH3 P3 hs3
 go_wp2
 go_loopw [3,5,6,7,30] (fun at' _ _ _ q wr=>∃ j:Nat,j≤n∧q=.int .i64 (j:Int)∧at'=.int .i64 ((H+tot (l.take j):Nat):Int)∧Hid (At wr w.heap.size H (hea l++rows H (l.take j))∧Below w.heap.size w wr)) (fun _ _ _ _ q _=>n-(intOf q).toNat)
 case atStart=>exact⟨0,Nat.zero_le _,rfl,by simp [tot],Lib.hid ⟨by simpa [rows] using H6.out.1,H6.out.2⟩⟩
 case round =>
  clear H6
  obtain⟨j,hj,rfl,rfl,hI⟩:=hrel
  obtain⟨hA,hB⟩:=hI.out
  by_cases hlt:j<n
  ·have hjl:j<l.length:=by rw [HN.out];exact hlt
   obtain⟨bb,o,rfl,hbl,hcc⟩:=HC.out (by omega)
   obtain⟨x0,dv,x1,hr⟩:=hcc j hjl
   obtain⟨m,hm⟩:∃ m,l[j].2.length=m:=⟨_,rfl⟩
   obtain⟨da,dc,rfl,-⟩:=hr.form hm
   have hk:=asc_lt l 0 l[j] HK.out (List.getElem_mem hjl)
   obtain⟨kn,hkn⟩:∃ kn:Nat,l[j].1=(kn:Int):=⟨l[j].1.toNat,by omega⟩
   rw [hkn] at x0 hk
   have hml:=HM.out _ (List.getElem_mem hjl)
   rw [hm] at hml
   have hst:=tot_step l j hjl
   have hle:=tot_le l (j+1)
   have htt:=HT.out
   rw [hm] at hst
   obtain⟨u,hu⟩:∃ u,up m=u:=⟨_,rfl⟩
   have HP:=Lib.hid (fun W=>padded_at m u W (by omega) hu)
   rw [hu] at hst
   have hrw:=rows_snoc l j H hjl
   have hro:row l[j] (H+tot (l.take j))=le 4 kn++le 4 (H+tot (l.take j))++le 4 m:=by
    unfold row
    rw [hkn,hm,Int.toNat_natCast]
   rw [hro] at hrw
   obtain⟨t,ht⟩:∃ t,tot (l.take j)=t:=⟨_,rfl⟩
   rw [ht] at hst hrw ⊢
   have htb:t≤17000000:=by omega
   have hub:u≤17000000:=by omega
   obtain⟨A,hA'⟩:∃ A,H+t=A:=⟨_,rfl⟩
   rw [hA'] at hrw ⊢
   have hAb:A≤17000300:=by omega
   have HA2:=Lib.hid (show H+tot (l.take (j+1))=A+u by omega)
   have hln:(hea l++rows H (l.take j)).length=16+12*j:=by
    rw [List.length_append,hea_len,rows_len,List.length_take,Nat.min_eq_left (by omega)]
   have hap:hea l++rows H (l.take (j+1))=hea l++rows H (l.take j)++le 4 kn++le 4 A++le 4 m:=by
    rw [hrw];simp only [List.append_assoc]
   have HAP:=Lib.hid hap
   obtain⟨R,hR⟩:∃ R,16+12*j=R:=⟨_,rfl⟩
   obtain⟨R2,hR2⟩:∃ R2,16+12*(j+1)=R2:=⟨_,rfl⟩
   have hRR:R2=R+12:=by omega
   have hRH:R+12≤H:=by omega
   have RS1:=Lib.hid (fun W=>rowS_at j (R:Int) W (by omega) (by rw [hR]))
   have hrs2:=fun W=>rowS_at (j+1) (R2:Int) W (by omega) (by rw [hR2])
   have e1:((j+1:Nat):Int)=(j:Int)+1:=by omega
   rw [e1] at hrs2
   have RS2:=Lib.hid hrs2
   rw [hR] at hln
   have hsr:∀ W,(Instr.slice 23 (.slice (some ⟨w.heap.size,0,none⟩) H H) (some (.int .i64 (R:Int))) (some (.int .i64 (R2:Int))) (some (.int .i64 (R2:Int)))).run Tryz.prog W=.ok (.slice (some ⟨w.heap.size,R,none⟩) 12 12) W:=fun W=>by
    have:=run_three und8 size8 w.heap.size 0 H H R R2 (by omega) (by omega) W
    rw [Nat.zero_add,show R2-R=12 by omega] at this
    exact this
   have hr1:∀ W,(Instr.slice 23 (.slice (some ⟨w.heap.size,R,none⟩) 12 12) (some (.int .i64 0)) (some (.int .i64 4)) (some (.int .i64 4))).run Tryz.prog W=.ok (.slice (some ⟨w.heap.size,R,none⟩) 4 4) W:=fun W=>run_three und8 size8 w.heap.size R 12 12 0 4 (by omega) (by omega) W
   have hr2:∀ W,(Instr.slice 23 (.slice (some ⟨w.heap.size,R,none⟩) 12 12) (some (.int .i64 4)) (some (.int .i64 8)) (some (.int .i64 8))).run Tryz.prog W=.ok (.slice (some ⟨w.heap.size,R+4,none⟩) 4 4) W:=fun W=>run_three und8 size8 w.heap.size R 12 12 4 8 (by omega) (by omega) W
   have hr3:∀ W,(Instr.slice 23 (.slice (some ⟨w.heap.size,R,none⟩) 12 12) (some (.int .i64 8)) (some (.int .i64 12)) (some (.int .i64 12))).run Tryz.prog W=.ok (.slice (some ⟨w.heap.size,R+8,none⟩) 4 4) W:=fun W=>run_three und8 size8 w.heap.size R 12 12 8 12 (by omega) (by omega) W
   have Q1:=Lib.hid (fun W (h:At W w.heap.size H (hea l++rows H (l.take j)))=>put_is w.heap.size 4 H kn _ (hea l++rows H (l.take j)++le 4 kn) R (kn:Int) W h hln (by omega) (by omega) (by omega) (by omega) rfl rfl)
   have Q2:=Lib.hid (fun W (h:At W w.heap.size H (hea l++rows H (l.take j)++le 4 kn))=>put_is w.heap.size 4 H A _ (hea l++rows H (l.take j)++le 4 kn++le 4 A) (R+4) (A:Int) W h (by rw [List.length_append,hln,le_len]) (by omega) (by omega) (by omega) (by omega) rfl rfl)
   have Q3:=Lib.hid (fun W (h:At W w.heap.size H (hea l++rows H (l.take j)++le 4 kn++le 4 A))=>put_is w.heap.size 4 H m _ (hea l++rows H (l.take j)++le 4 kn++le 4 A++le 4 m) (R+8) (m:Int) W h (by rw [List.length_append,List.length_append,hln,le_len,le_len]) (by omega) (by omega) (by omega) (by omega) rfl rfl)
   have y0:=(hB.cell (p:=⟨bb,o+j*2,none⟩) (by exact hbl)).trans x0
   have y1:=(hB.cell (p:=⟨bb,o+j*2+1,none⟩) (by exact hbl)).trans x1
   have hsz1:=hB.size
   have HBA:=Lib.hid (And.intro hA hB)
   clear hcc x0 x1 hr hm hkn hk hst hle htt hu hrw hro ht hA' hap hI hA hln hR hR2 hrs2 e1 hRR
   go_upto_region 10 with (fail)
   have hx:=heap_alloc_last wr (.cells #[.int .i64 (kn:Int),.slice da m dc] 199)
   have B1:=bch HBA.out.2 (bnew wr (.cells #[.int .i64 (kn:Int),.slice da m dc] 199))
   have A1:=HBA.out.1.up (bnew wr (.cells #[.int .i64 (kn:Int),.slice da m dc] 199))
   have hgb:wr.heap.size≠w.heap.size:=by
    have:=lt_of_block HBA.out.1
    omega
   obtain⟨gb,hg⟩:∃ gb,gb=wr.heap.size:=⟨_,rfl⟩
   rw [← hg] at hx hgb ⊢
   generalize wr.alloc (.cells _ 199)=W1 at hx B1 A1 ⊢
   have z0:W1.cell? ⟨gb,0,none⟩=some (.int .i64 (kn:Int)):=by simp [World.cell?,hx]
   have z1:W1.cell? ⟨gb,1,none⟩=some (.slice da m dc):=by simp [World.cell?,hx]
   have hlb:gb<W1.heap.size:=lt_of_block hx
   have HGB:=Lib.hid hgb
   have HA1:=Lib.hid A1
   have HB1:=Lib.hid B1
   clear hg y0 y1 hB hsz1 hx B1 A1 hgb HBA
   go_upto_region 11 with (first
    | (go_at_call 175;((with_reducible refine (RS1.out _).mono ?_);rintro e w7 ⟨rfl,rfl⟩))
    | (go_at_call 175;((with_reducible refine (RS2.out _).mono ?_);rintro e w7 ⟨rfl,rfl⟩)))
   refine wp_region_held_drew (S:=fun W=>W.cell? ⟨gb,0,none⟩=some (.int .i64 (kn:Int))∧W.cell? ⟨gb,1,none⟩=some (.slice da m dc)) (by kernel_rfl) ⟨z0,z1⟩ (fun hH=>?_)
   refine zT0 0 45 (.move (.tmp 7)) (.slice (some ⟨w.heap.size,R,none⟩) 12 12) rfl hH ?_
   simp only [zz]
   refine zT1 1 46 (.slice 23 (.tmp 45) (some (.const (.int .i64 0))) (some (.const (.int .i64 4))) (some (.const (.int .i64 4)))) (.slice (some ⟨w.heap.size,R,none⟩) 4 4) rfl (fun wS hS=>by have q:=hr1 wS;go_simp) hH ?_
   simp only [zz]
   refine zT1 2 47 (.fieldAddr 199 (.tmp 6) 0) (.pointer (some ⟨gb,0,none⟩)) rfl (fun wS hS=>by obtain⟨q0,q1⟩:=hS;go_simp) hH ?_
   simp only [zz]
   refine zT1 3 48 (.load 3 (.tmp 47)) (.int .i64 (kn:Int)) rfl (fun wS hS=>by obtain⟨q0,q1⟩:=hS;go_simp) hH ?_
   simp only [zz]
   refine wpAnyH_ready (rs:=[4]) (by kernel_rfl) (by simp) ?_
   refine AllReadyH.cons (o:=⟨some 49,.call ⟨.value (.func 200),#[.tmp 46,.tmp 48],#[23,3]⟩,_,_,_,none⟩) rfl (fun K hK=>?_) AllReadyH.nil
   go_simp
   refine (Q1.out _ (show At W1.drew _ _ _ from HA1.out)).mono ?_
   rintro e w7 ⟨rfl,G7,b7⟩
   refine hK.out _ _ ⟨(b7.cell HGB.out).trans hH.1,(b7.cell HGB.out).trans hH.2⟩ (fun hH2=>?_)
   clear hK K hH
   (try simp only [zz])
   refine wpAnyH_done (by kernel_rfl) ?_ _
   have HG7:=Lib.hid G7
   have HB7:=Lib.hid ((HB1.out.drew).trans b7.b)
   have y7:=hH2.1
   have z7:=hH2.2
   have hlb7:gb<w7.heap.size:=World.block_lt_of_cell? _ _ y7
   clear G7 b7 hH2 z0 z1 hlb RS1 RS2 hsr hr1 Q1
   go_upto_region 13 with (go_at_call 200;((with_reducible refine (Q2.out _ HG7.out).mono ?_);rintro e w8 ⟨rfl,G8,b8⟩;have y8:=(b8.cell HGB.out).trans y7;have z8:=(b8.cell HGB.out).trans z7))
   have HB8:=Lib.hid (HB7.out.trans b8.b)
   clear y7 z7 hlb7 Q2 hr2
   refine wp_region_held_drew (S:=fun W=>W.cell? ⟨gb,0,none⟩=some (.int .i64 (kn:Int))∧W.cell? ⟨gb,1,none⟩=some (.slice da m dc)) (by kernel_rfl) ⟨y8,z8⟩ (fun hH=>?_)
   refine zT0 0 54 (.move (.tmp 7)) (.slice (some ⟨w.heap.size,R,none⟩) 12 12) rfl hH ?_
   simp only [zz]
   refine zT1 1 55 (.slice 23 (.tmp 54) (some (.const (.int .i64 8))) (some (.const (.int .i64 12))) (some (.const (.int .i64 12)))) (.slice (some ⟨w.heap.size,R+8,none⟩) 4 4) rfl (fun wS hS=>by have q:=hr3 wS;go_simp) hH ?_
   simp only [zz]
   refine zT1 2 56 (.fieldAddr 199 (.tmp 6) 1) (.pointer (some ⟨gb,1,none⟩)) rfl (fun wS hS=>by obtain⟨q0,q1⟩:=hS;go_simp) hH ?_
   simp only [zz]
   refine zT1 3 57 (.load 23 (.tmp 56)) (.slice da m dc) rfl (fun wS hS=>by obtain⟨q0,q1⟩:=hS;go_simp) hH ?_
   simp only [zz]
   refine zT3 4 58 (.call ⟨.builtin .len,#[.tmp 57],#[23]⟩) (.int .i64 (m:Int)) rfl hH ?_
   simp only [zz]
   refine wpAnyH_ready (rs:=[5]) (by kernel_rfl) (by simp) ?_
   refine AllReadyH.cons (o:=⟨some 59,.call ⟨.value (.func 200),#[.tmp 55,.tmp 58],#[23,3]⟩,_,_,_,none⟩) rfl (fun K hK=>?_) AllReadyH.nil
   go_simp
   refine (Q3.out _ (show At w8.drew _ _ _ from G8)).mono ?_
   rintro e w9 ⟨rfl,G9,b9⟩
   refine hK.out _ _ ⟨(b9.cell HGB.out).trans hH.1,(b9.cell HGB.out).trans hH.2⟩ (fun hH3=>?_)
   clear hK K hH
   (try simp only [zz])
   refine wpAnyH_done (by kernel_rfl) ?_ _
   have HG9:=Lib.hid G9
   have HB9:=Lib.hid ((HB8.out.drew).trans b9.b)
   have y9:=hH3.1
   have z9:=hH3.2
   have hlb9:gb<w9.heap.size:=World.block_lt_of_cell? _ _ y9
   clear G9 b9 hH3 G8 b8 y8 z8 Q3 hr3
   go_wp2_with (go_at_call 177;((with_reducible refine (HP.out _).mono ?_);rintro e w10 ⟨rfl,rfl⟩))
   go_roundw
   case rel=>exact⟨j+1,hlt,by go_num,by rw [HA2.out];go_num,Lib.hid ⟨by rw [HAP.out];exact HG9.out,HB9.out⟩⟩
   case measure=>simp [intOf];omega
  ·obtain rfl:j=n:=by omega
   have hto:l.take j=l:=List.take_of_length_le (by rw [HN.out];exact Nat.le_refl _)
   rw [hto] at hA
   have hfr:At wr w.heap.size H (frt l):=by
    have e:rowZ eB (.int .u8 0) (hea l++rows H l) H=rowZ eB (.int .u8 0) (frt l) H:=by
     rw [rowZ_zeros (hea l++rows H l) H (H-(16+12*j)) (by rw [List.length_append,hea_len,rows_len,HN.out];omega),frt,tab,HN.out,HH.out,zs]
     congr 4
     rw [← HH.out];rfl
    unfold At
    rw [← e]
    exact hA
   have HR:=Lib.hid (Rw.rowZ (z:=.int .u8 0) hfr (by rw [frt_len,HN.out,HH.out]))
   have HBB:=Lib.hid hB
   clear hto hA hfr hI hB
   go_wp2
   go_ret
   exact⟨⟨_,rfl,HR.out⟩,HBB.out⟩
end Go.Proofs.YtihiggnglmhggaaGreatDoor.L15
end
section
namespace Go.Proofs.YtihiggnglmhggaaGreatDoor.L15
open Go.RowKit Go.Shelf L14
attribute [local go_sem] Oper.semAt_some
def dps (l:List Sc):List (List UInt8):=l.flatMap fun s=>[s.2,zs s.2.length]
def prt (l:List Sc):List (List UInt8):=frt l::dps l
theorem dps_snoc (l:List Sc) (k:Nat) (h:k<l.length):dps (l.take (k+1))=dps (l.take k)++[l[k].2,zs l[k].2.length]:=by
 unfold dps
 rw [take_snoc l k h]
 simp only [List.flatMap_append,List.flatMap_cons,List.flatMap_nil,List.append_nil]
theorem dps_pre (l:List Sc) (k:Nat):dps (l.take k) <+: dps l:=by
 refine⟨dps (l.drop k),?_⟩
 unfold dps
 rw [← List.flatMap_append,List.take_append_drop]
theorem dps_body:∀ l:List Sc,(dps l).flatten=body l
 | []=>rfl
 | s::r=>by
  have:=dps_body r
  unfold dps at this ⊢
  rw [List.flatMap_cons,body,← this]
  simp [List.append_assoc]
theorem prt_wr (l:List Sc):(prt l).flatten=wr l:=by
 unfold prt wr
 rw [List.flatten_cons,dps_body]
abbrev Pa:=Value × List UInt8
abbrev byt (xs:List Pa):List (List UInt8):=xs.map (·.2)
def RelP (x:Pa) (W:World):Prop:=Rw eB W x.1 x.2
theorem rw_grown {A B:World} {row:Option Nat} {v:Value} {d:List UInt8} (h:Rw eB A v d) (hg:A.grownBy B row) (hr:∀ r,row=some r→∃ o:Obj,A.heap[r]?=some o∧o.isCells=false):Rw eB B v d:=by
 obtain⟨a,c,hv,h1,h2,h3⟩:=h
 refine⟨a,c,hv,h1,h2,fun hp=>?_⟩
 obtain⟨b,o,e,hb,hc⟩:=h3 hp
 refine⟨b,o,e,Nat.lt_of_lt_of_le hb hg.size,fun j hj=>?_⟩
 have hcj:=hc j hj
 rw [← hcj]
 have hbl:B.heap[b]?=A.heap[b]?:=by
  refine hg.block b hb fun e=>?_
  obtain⟨o',ho,hf⟩:=hr b e.symm
  unfold World.cell? at hcj
  rw [ho] at hcj
  cases o' <;> simp_all [Obj.isCells]
 unfold World.cell?
 simp only [hbl]
theorem relP_own (d:Nat):OwnFrom d RelP:=fun _ _ _ _ h hg hr=>rw_grown h hg fun r e=>(hr r e).2
structure KP (n:Nat) (A B:World):Prop where
 b:Below n A B
 s:∀ (k:Nat) (cs:Array Value) (fr:Nat × Nat),A.heap[k]?=some (Obj.cells cs 150 fr)→B.heap[k]?=some (Obj.cells cs 150 fr)
 z:∀ (k:Nat) (cs:Array Value) (fr:Nat × Nat),A.heap[k]?=some (Obj.cells cs 229 fr)→B.heap[k]?=some (Obj.cells cs 229 fr)
theorem KP.t {n:Nat} {A B C:World} (h:KP n A B) (k:KP n B C):KP n A C:=⟨h.b.trans k.b,fun j cs fr x=>k.s j cs fr (h.s j cs fr x),fun j cs fr x=>k.z j cs fr (h.z j cs fr x)⟩
theorem KP.p {n:Nat} {w:World} (hn:n≤w.heap.size) (W:World) (l:Nat) (o o':Obj) (hl:w.heap.size≤l) (h:W.heap[l]?=some o) (ho:o.isCells=false) (hw:o.isWalk=false):KP n W (W.putObj l o'):=by
 refine⟨belowK_b hn W l o o' hl h ho hw,fun k cs fr x=>?_,fun k cs fr x=>?_⟩
 all_goals
  rw [World.putObj_heap_other ?_]
  ·exact x
  ·rintro rfl
   rw [h] at x
   cases x
   cases ho
theorem parts_fn (v:Value) (a:Option Addr) (n c:Nat) (hv:v=.slice a n c) (w:World):Calls Tryz.prog 149 #[v] w fun e w'=>e=.returned (.func (.func 178) #[] #[.pointer (some ⟨w.heap.size,0,none⟩)])∧w'=w.alloc (.cells #[v] 150):=by
 subst hv
 have hmf:(Instr.makeFunc (.func 178) #[] #[.pointer (some ⟨w.heap.size,0,none⟩)]).run Tryz.prog (w.alloc (.cells #[.slice a n c] 150))=.ok (.func (.func 178) #[] #[.pointer (some ⟨w.heap.size,0,none⟩)]) (w.alloc (.cells #[.slice a n c] 150)):=by rfl
 go_enter Tryz.func149,Tryz.ntmps149
 go_wp2
 go_ret
 exact⟨rfl,rfl⟩
theorem rw_zeros {W:World} {g k m:Nat} {cs:Array Value} {t:TypeId} {fr:Nat × Nat} (h:W.heap[g]?=some (.cells cs t fr)) (hcs:∀ j,j<8→cs[j]?=some (.int .u8 0)) (hm:up m-m=k):Rw eB W (.slice (some ⟨g,0,none⟩) k 8) (zs m):=by
 have hk:k≤7:=by have:=up_le m;omega
 refine⟨_,_,by rw [zs_len,hm],by rw [zs_len,hm];omega,fun e=>(by cases e),fun _=>⟨g,0,rfl,lt_of_block h,fun j hj=>?_⟩⟩
 rw [zs_len,hm] at hj
 have e:eB (zs m)[j]=.int .u8 0:=by simp [zs,eB]
 rw [Nat.zero_add,e]
 unfold World.cell?
 simp only [h]
 exact hcs j (by omega)
theorem Ss.form' {w:World} {a:Option Addr} {n c:Nat} {l:List Sc} (h:Ss w (.slice a n c) l) (hn:l.length=n):l.length=n∧n≤c∧(a=none→c=0)∧(0<n→∃ b o,a=some ⟨b,o,none⟩∧b<w.heap.size∧∀ j,(h:j<l.length)→w.cell? ⟨b,o+j*2,none⟩=some (.int .i64 l[j].1)∧∃ dv,w.cell? ⟨b,o+j*2+1,none⟩=some dv∧Rw eB w dv l[j].2):=by
 obtain⟨a',c',e,h1,h2,h3⟩:=h.form hn
 cases e
 exact⟨hn,h1,h2,h3⟩
theorem parts_in (n:Nat) (hn:2≤n) (lp Bn n₀:Nat) (a:Option Addr) (N c:Nat) (l:List Sc) (hN:l.length=N) (hs:Fw l) (hk:asc 0 l=true) (J X:List Pa→World→Prop) (W:World) (hJ:AbidesFrom W.heap.size J)
  (hY:∀ pre x A,J pre A→RelP x A→byt (pre++[x]) <+: prt l→YieldAt Fence.wide (n-1) Tryz.prog lp #[x.1] A fun e B=>(e=.returned (.bool true)∧J (pre++[x]) B∧KP n₀ A B)∨(e=.returned (.bool false)∧X (pre++[x]) B))
  (hBn:Boxed W Bn 150 (.slice a N c)) (hn₀:n₀≤W.heap.size) (hd:∀ A,Below n₀ W A→Ss A (.slice a N c) l) (h0:J [] W) :
  CallsIn Fence.wide n Tryz.prog 178 #[.func (.yield lp) #[] #[],.pointer (some ⟨Bn,0,none⟩)] W fun e B=>(∃ v,e=.returned v)∧((∃ xs,byt xs=prt l∧J xs B)∨∃ pre,byt pre <+: prt l∧X pre B):=by
 have hNl:=hs.n
 rw [hN] at hNl
 obtain⟨H,hH⟩:∃ H,L15.hd l.length=H:=⟨_,rfl⟩
 have HF:=Lib.hid (callsIn_wide (n:=n-1).2 (front_at (.slice a N c) l H W (hd W (Below.refl _ _)) hs hk hH))
 have HD:=Lib.hid hd
 have HY:=Lib.hid hY
 have HJ:=Lib.hid hJ
 have HM:=Lib.hid hs.d
 have HN:=Lib.hid hN
 have h0':=Lib.hid h0
 have hc0:=hBn.cell
 have HB:=Lib.hid hBn
 have h1n:1≤n:=by omega
 clear hd hY hJ hs hN hk hH h0
 refine callsIn_of_wp Tryz.func178 rfl trivial ?_ rfl
 simp only [Tryz.ntmps178,List.size_toArray,List.length_cons,List.length_nil,Nat.reduceAdd,Nat.reduceSub,Array.replicate_succ,Array.replicate_zero,List.push_toArray,List.append_toArray,List.nil_append,List.cons_append]
 gi_wp2_with (refine⟨trivial,?_⟩;gi_at_call 179;((with_reducible refine (HF.out).mono ?_);rintro e w1 ⟨⟨g,rfl,r1⟩,b1⟩;obtain⟨fn,tmps,assign,body,hy,hYR⟩:=HY.out [] (.slice (some ⟨g,0,none⟩) H H,frt l) w1 (HJ.out [] W w1 none h0'.out (grown_of_below b1) (fun r e=>by cases e)) r1 ⟨dps l,rfl⟩))
 refine hYR.mono ?_
 rintro e W3 (⟨rfl,hJ3,hk3⟩|⟨rfl,hX3⟩)
 case inr =>
  have HX:=Lib.hid hX3
  clear hy hYR HF hX3
  gi_wp2
  refine bodyPost_ret (results_none rfl _ _ _) rfl ?_
  exact⟨⟨_,rfl⟩,.inr ⟨_,⟨dps l,rfl⟩,HX.out⟩⟩
 have hbx3:Boxed W3 Bn 150 (.slice a N c):=hk3.s Bn _ _ (L14.Boxed.below HB.out b1)
 have hB3:=(b1.mono hn₀).trans hk3.b
 have hz3:W.heap.size≤W3.heap.size:=Nat.le_trans b1.size hk3.b.size
 have HJ3:=Lib.hid hJ3
 have c3:=hbx3.cell
 have HBX3:=Lib.hid hbx3
 have HB3:=Lib.hid hB3
 have HZ3:=Lib.hid hz3
 have hl3:Bn<W3.heap.size:=lt_of_block hbx3
 clear hy hYR HF hJ3 hk3 hbx3 b1 r1 hc0 hB3 hz3
 gi_wp2
 have hz0:(W3.alloc (.cells #[.int .u8 0,.int .u8 0,.int .u8 0,.int .u8 0,.int .u8 0,.int .u8 0,.int .u8 0,.int .u8 0] 229)).heap[W3.heap.size]?=some (.cells #[.int .u8 0,.int .u8 0,.int .u8 0,.int .u8 0,.int .u8 0,.int .u8 0,.int .u8 0,.int .u8 0] 229 (0,0)):=heap_alloc_new W3 _
 have bz:=bnew W3 (.cells #[.int .u8 0,.int .u8 0,.int .u8 0,.int .u8 0,.int .u8 0,.int .u8 0,.int .u8 0,.int .u8 0] 229)
 have H5:=Lib.hid (show byt [((.slice (some ⟨g,0,none⟩) H H,frt l):Pa)]=frt l::dps (l.take 0)∧J [(.slice (some ⟨g,0,none⟩) H H,frt l)] (W3.alloc (.cells #[.int .u8 0,.int .u8 0,.int .u8 0,.int .u8 0,.int .u8 0,.int .u8 0,.int .u8 0,.int .u8 0] 229))∧(W3.alloc (.cells #[.int .u8 0,.int .u8 0,.int .u8 0,.int .u8 0,.int .u8 0,.int .u8 0,.int .u8 0,.int .u8 0] 229)).heap[W3.heap.size]?=some (Obj.cells #[.int .u8 0,.int .u8 0,.int .u8 0,.int .u8 0,.int .u8 0,.int .u8 0,.int .u8 0,.int .u8 0] 229 (0,0))∧Below n₀ W (W3.alloc (.cells #[.int .u8 0,.int .u8 0,.int .u8 0,.int .u8 0,.int .u8 0,.int .u8 0,.int .u8 0,.int .u8 0] 229))∧W.heap.size≤(W3.alloc (.cells #[.int .u8 0,.int .u8 0,.int .u8 0,.int .u8 0,.int .u8 0,.int .u8 0,.int .u8 0,.int .u8 0] 229)).heap.size from
  ⟨by simp [byt,dps],HJ.out _ _ _ none HJ3.out (grown_of_below bz) (fun r e=>by cases e),hz0,HB3.out.trans (bz.mono (Nat.le_trans hn₀ HZ3.out)),Nat.le_trans HZ3.out (by simp)⟩)
 obtain⟨Z,hZ⟩:∃ Z,W3.heap.size=Z:=⟨_,rfl⟩
 rw [hZ] at H5 ⊢
 obtain⟨W4,hW4⟩:∃ W4,W3.alloc (.cells #[.int .u8 0,.int .u8 0,.int .u8 0,.int .u8 0,.int .u8 0,.int .u8 0,.int .u8 0,.int .u8 0] 229)=W4:=⟨_,rfl⟩
 simp only [hW4] at H5 ⊢
 clear hZ hW4 hz0 bz c3 hl3 HJ3 HBX3 HB3 HZ3
 gi_loopw [5,6,14] (fun _ _ q wr=>∃ (j:Nat) (pre:List Pa),j≤N∧q=.int .i64 (j:Int)∧Hid (byt pre=frt l::dps (l.take j)∧J pre wr∧wr.heap[Z]?=some (Obj.cells #[.int .u8 0,.int .u8 0,.int .u8 0,.int .u8 0,.int .u8 0,.int .u8 0,.int .u8 0,.int .u8 0] 229 (0,0))∧Below n₀ W wr∧W.heap.size≤wr.heap.size)) (fun _ _ q _=>N-(intOf q).toNat)
 case atStart=>exact⟨0,_,Nat.zero_le _,rfl,H5⟩
 case round =>
  clear H5
  obtain⟨j,pre,hj,rfl,hI⟩:=hrel
  obtain⟨hpre,hJr,hzr,hBr,hsr⟩:=hI.out
  by_cases hlt:j<N
  ·have hjl:j<l.length:=by rw [HN.out];exact hlt
   obtain⟨-,h1,h2,h3⟩:=(HD.out wr hBr).form' HN.out
   obtain⟨bb,o,rfl,hbl,hcc⟩:=h3 (by omega)
   obtain⟨y0,dv,y1,hr⟩:=hcc j hjl
   obtain⟨m,hm⟩:∃ m,l[j].2.length=m:=⟨_,rfl⟩
   obtain⟨da,dc,rfl,-⟩:=hr.form hm
   have hml:=HM.out _ (List.getElem_mem hjl)
   rw [hm] at hml
   obtain⟨kk,hkk⟩:∃ kk,l[j].1=kk:=⟨_,rfl⟩
   rw [hkk] at y0
   have bn:=bnew wr (.cells #[.int .i64 kk,.slice da m dc] 199)
   have hds:=dps_snoc l j hjl
   rw [hm] at hds
   have hpl:=dps_pre l (j+1)
   obtain⟨D,hD⟩:∃ D,l[j].2=D:=⟨_,rfl⟩
   rw [hD] at hr hds
   obtain⟨u,hu⟩:∃ u,up m=u:=⟨_,rfl⟩
   have hu1:=up_ge m
   have hu2:=up_le m
   rw [hu] at hu1 hu2
   have HPd:=Lib.hid (fun W=>callsIn_wide (n:=n-1).2 (padded_at m u W (by omega) hu))
   have hp1:byt (pre++[((.slice da m dc,D):Pa)]) <+: prt l:=by
    obtain⟨r,hr'⟩:=hpl
    refine⟨zs m::r,?_⟩
    unfold byt at hpre ⊢
    rw [List.map_append,hpre,prt,← hr',hds]
    simp
   have hp2:∀ v2,byt (pre++[((.slice da m dc,D):Pa)]++[((v2,zs m):Pa)]) <+: prt l:=fun v2=>by
    obtain⟨r,hr'⟩:=hpl
    refine⟨r,?_⟩
    unfold byt at hpre ⊢
    rw [List.map_append,List.map_append,hpre,prt,← hr',hds]
    simp
   have hp3:∀ v2,byt (pre++[((.slice da m dc,D):Pa)]++[((v2,zs m):Pa)])=frt l::dps (l.take (j+1)):=fun v2=>by
    unfold byt at hpre ⊢
    rw [List.map_append,List.map_append,hpre,hds]
    simp
   obtain⟨fn,tmps,assign,body,hy,hYR⟩:=HY.out pre (.slice da m dc,D) _ (HJ.out pre wr (wr.alloc (.cells #[.int .i64 kk,.slice da m dc] 199)) none hJr (grown_of_below bn) (fun r e=>by cases e)) (hr.below bn) hp1
   have HP1:=Lib.hid hp1
   have HP2:=Lib.hid hp2
   have HP3:=Lib.hid hp3
   have HZr:=Lib.hid ((bn.block _ (lt_of_block hzr)).trans hzr)
   have HBr:=Lib.hid (hBr.trans (bn.mono (Nat.le_trans hn₀ hsr)))
   have HSr:=Lib.hid hsr
   have HU:=Lib.hid hu
   clear hcc hr hm hkk hds hpl hD hp1 hp2 hp3 bn hpre hJr hzr hBr hI h1 h2 h3 hu
   gi_wp2
   refine hYR.mono ?_
   rintro e W5 (⟨rfl,hJ5,hk5⟩|⟨rfl,hX5⟩)
   case inr =>
    have HX:=Lib.hid hX5
    clear hy hYR hX5
    gi_wp2
    refine⟨trivial,?_⟩
    gi_wp2
    refine⟨fun f h=>(by cases h),?_⟩
    gi_wp2
    refine bodyPost_ret (results_none rfl _ _ _) rfl ?_
    exact⟨⟨_,rfl⟩,.inr ⟨_,HP1.out,HX.out⟩⟩
   have hz5:=hk5.z _ _ _ HZr.out
   have HB5:=Lib.hid (HBr.out.trans hk5.b)
   have hs5:W.heap.size≤W5.heap.size:=Nat.le_trans HSr.out (Nat.le_trans (by simp) hk5.b.size)
   have hzr5:Rw eB W5 (.slice (some ⟨Z,0,none⟩) (u-m) 8) (zs m):=rw_zeros hz5 (by
    intro i hi
    match i,hi with
    | 0,_=>rfl
    | 1,_=>rfl
    | 2,_=>rfl
    | 3,_=>rfl
    | 4,_=>rfl
    | 5,_=>rfl
    | 6,_=>rfl
    | 7,_=>rfl) (by rw [HU.out])
   clear hy hYR
   obtain⟨fn,tmps,assign,body,hy,hYR⟩:=HY.out _ (.slice (some ⟨Z,0,none⟩) (u-m) 8,zs m) W5 hJ5 hzr5 (HP2.out _)
   have hsl:∀ A,(Instr.sliceAt 229 (.pointer (some ⟨Z,0,none⟩)) none (some (.int .i64 ((u:Int)-(m:Int)))) none).run Tryz.prog A=.ok (.slice (some ⟨Z,0,none⟩) (u-m) 8) A:=fun A=>by
    have hal:Tryz.prog.arrayLen 229=8:=by kernel_rfl
    have hsz:∀ w,(Go.sizeOf (Tryz.prog.elem 229)).run Tryz.prog w=.ok 1 w:=fun w=>by kernel_rfl
    rw [run_sliceAt_array_h A 229 ⟨Z,0,none⟩ Tryz.underlying229 .i64 ((u:Int)-(m:Int)) (by omega) (by rw [hal];omega),hsz]
    simp only [Result.andThen,slicedAt,hal]
    have e1:((u:Int)-(m:Int)).toNat=u-m:=by omega
    simp [e1,Addr.add]
   have HS5:=Lib.hid hs5
   have HZ5:=Lib.hid hz5
   have hwr:IntKind.i64.wrap ((u:Int)-(m:Int))=(u:Int)-(m:Int):=by rw [IntKind.wrap_i64];omega
   clear hJ5 hk5 hz5 hs5 hzr5
   gi_wp2_with (refine⟨trivial,?_⟩;gi_at_call 177;((with_reducible refine (HPd.out _).mono ?_);rintro e w6 ⟨rfl,rfl⟩))
   refine hYR.mono ?_
   rintro e W7 (⟨rfl,hJ7,hk7⟩|⟨rfl,hX7⟩)
   case inr =>
    have HX:=Lib.hid hX7
    clear hy hYR hX7 hsl
    gi_wp2
    refine bodyPost_ret (results_none rfl _ _ _) rfl ?_
    exact⟨⟨_,rfl⟩,.inr ⟨_,HP2.out _,HX.out⟩⟩
   have H7:=Lib.hid (show byt _=frt l::dps (l.take (j+1))∧J _ W7∧W7.heap[Z]?=some (Obj.cells #[.int .u8 0,.int .u8 0,.int .u8 0,.int .u8 0,.int .u8 0,.int .u8 0,.int .u8 0,.int .u8 0] 229 (0,0))∧Below n₀ W W7∧W.heap.size≤W7.heap.size from
    ⟨HP3.out (.slice (some ⟨Z,0,none⟩) (u-m) 8),hJ7,hk7.z _ _ _ HZ5.out,HB5.out.trans hk7.b,Nat.le_trans HS5.out hk7.b.size⟩)
   clear hy hYR hsl hJ7 hk7
   gi_wp2
   go_roundw
   case rel=>exact⟨j+1,_,hlt,by go_num,H7⟩
   case measure=>simp [intOf];omega
  ·obtain rfl:j=N:=by omega
   have hto:l.take j=l:=List.take_of_length_le (by rw [HN.out];exact Nat.le_refl _)
   rw [hto] at hpre
   have HE:=Lib.hid (And.intro hpre hJr)
   clear hto hpre hJr hzr hBr hsr hI
   gi_wp2
   go_end0
   exact⟨⟨_,rfl⟩,.inl ⟨_,HE.out.1,HE.out.2⟩⟩
theorem tells_at (n:Nat) (hn:2≤n) (Bn n₀:Nat) (a:Option Addr) (N c:Nat) (l:List Sc) (hN:l.length=N) (hs:Fw l) (hk:asc 0 l=true) (w:World) (hn₀:n₀≤w.heap.size) (hBn:Boxed w Bn 150 (.slice a N c)) (hv:∀ A,Below n₀ w A→Ss A (.slice a N c) l) :
  Told Fence.wide n Tryz.prog 178 #[.pointer (some ⟨Bn,0,none⟩)] (fun x:Pa=>#[x.1]) RelP (KP n₀) (fun xs=>byt xs=prt l) (fun pre=>byt pre <+: prt l) w:=fun lp J X W hW hJ _ hj hY =>
 parts_in n hn lp Bn n₀ a N c l hN hs hk J X W hJ hY (L14.Boxed.below hBn hW) (Nat.le_trans hn₀ hW.size) (fun A hA=>hv A ((hW.mono hn₀).trans hA)) hj
end Go.Proofs.YtihiggnglmhggaaGreatDoor.L15
end
