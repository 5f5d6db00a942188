/- Lemmas and walks of L1Base, L12Sl, L12Mem, L5Alive, L5Rput, L5Renca, L17Rj, L14Op, L16Op, L5Rdecf, L3Rix, L5Rdec, L5Rdecg, L5Rdech, L5Rdecn, L5Rall, L17Rf, L16Rn, L16Rk, L17Rc: what each theorem states; conditions stand in each theorem. -/
import Derived.Test.YtihiggnglmhggaaGreatDoorM32
set_option maxHeartbeats 16000000
set_option maxRecDepth 100000
section
section
namespace Go.Proofs.YtihiggnglmhggaaGreatDoor
section
variable {P:Program} {ops:Array Oper} {Q:Exit→Act→World→Prop} {md:Region.Mode} {S:World→Prop} {fuel:Nat} {listed:Array Bool} {a:Act} {w:World} {ty:TypeId} {po:String} {af:Array Edge} {g:Option (Nat × Bool)}
end
end Go.Proofs.YtihiggnglmhggaaGreatDoor
namespace Go.Proofs.YtihiggnglmhggaaGreatDoor.L1
open Go.RowKit
theorem rextend_16 (x:Int) (w:World) (h0:0≤x) (h1:x<18446744073709551616) :
  Calls Tryz.prog 74 #[.int .u64 x,.int .i64 16] w fun e w'=>e=.returned (.int .i64 (sx 16 x))∧w=w':=by
 go_enter Tryz.func74,Tryz.ntmps74
 go_wp2_with (first|(go_at_call 117;refine (width_is _ _ true (by decide)).mono ?_;rintro e w' ⟨rfl,rfl⟩)|((with_reducible go_at_call 118);((with_reducible refine (power_at 16 16 65536 _ rfl (by decide) rfl).mono ?_);rintro e w' ⟨rfl,rfl⟩))|(go_at_call 118;((with_reducible refine (power_at 15 15 32768 _ rfl (by decide) rfl).mono ?_);rintro e w' ⟨rfl,rfl⟩)))
 all_goals
  go_ret
  refine⟨ret_int ?_,rfl⟩
  simp only [sx]
  first|omega|(simp;omega)
theorem rextend_64 (x:Int) (w:World) :
  Calls Tryz.prog 74 #[.int .u64 x,.int .i64 64] w fun e w'=>e=.returned (.int .i64 (sx 64 x))∧w=w':=by
 go_enter Tryz.func74,Tryz.ntmps74
 go_wp2_with (go_at_call 117;refine (width_is _ _ true (by decide)).mono ?_;rintro e w' ⟨rfl,rfl⟩)
 go_ret
 refine⟨ret_int ?_,rfl⟩
 simp only [sx,wrap64]
 first|omega|(simp;omega)
theorem rextend_yes (x b:Int) (w:World) (h0:0≤x) (h1:x<18446744073709551616) (h:b=8∨b=16∨b=32∨b=64) :
  Calls Tryz.prog 74 #[.int .u64 x,.int .i64 b] w fun e w'=>e=.returned (.int .i64 (sx b x))∧w=w':=by
 rcases h with rfl|rfl|rfl|rfl
 ·exact rextend_8 x w h0 h1
 ·exact rextend_16 x w h0 h1
 ·exact rextend_32 x w h0 h1
 ·exact rextend_64 x w
end Go.Proofs.YtihiggnglmhggaaGreatDoor.L1
end
section
namespace Go.Proofs.YtihiggnglmhggaaGreatDoor.L12
open L3 L4
theorem atN_ge:∀ (l:List L9.Ins) (k a:Nat) (s:Int),atN k a l s=-1∨((k:Int)≤atN k a l s∧atN k a l s<(k:Int)+l.length)
 | [],_,_,_=>.inl rfl
 | x::r,k,a,s=>by
  rw [atN]
  split
  ·exact .inr ⟨by omega,by simp only [List.length_cons];omega⟩
  ·rcases atN_ge r (k+1) (a+slN x) s with h|⟨h1,h2⟩
   ·exact .inl h
   ·exact .inr ⟨by omega,by simp only [List.length_cons];omega⟩
end Go.Proofs.YtihiggnglmhggaaGreatDoor.L12
end
section
namespace Go.Proofs.YtihiggnglmhggaaGreatDoor.L12
open Go.RowKit L3 L4
attribute [local go_sem] Oper.semAt_some
theorem rat_at (v:Value) (l:List L9.Ins) (s R:Int) (w:World) (hv:IsAt w v l) (hl:l.length≤1000000) (hR:atN 0 0 l s=R) :
  Calls Tryz.prog 25 #[v,.int .i64 s] w fun e w'=>e=.returned (.int .i64 R)∧w=w':=by
 obtain⟨n,hn⟩:∃ n,l.length=n:=⟨_,rfl⟩
 obtain⟨a,c,rfl,hc⟩:=is_form hn hv
 rw [hn] at hl
 have HC:=Lib.hid hc
 have HN:=Lib.hid hn
 have HR:Hid (atN 0 (stN l 0) (l.drop 0) s=R):=Lib.hid (by simpa [stN,smN] using hR)
 clear hv hc hn hR
 go_enter Tryz.func25,Tryz.ntmps25
 go_wp2
 go_loop [5,6] (fun t j=>∃ k:Nat,k≤n∧j=.int .i64 (k:Int)∧t=.int .i64 (stN l k:Int)∧Hid (atN k (stN l k) (l.drop k) s=R)) (fun _ j=>n-(RowKit.intOf j).toNat)
 case atStart=>exact⟨0,Nat.zero_le _,rfl,by simp [stN,smN],HR⟩
 case round =>
  obtain⟨k,hk,rfl,rfl,hT⟩:=hrel
  clear HR
  by_cases hlt:k<n
  ·have hkl:k<l.length:=by rw [HN.out];omega
   obtain⟨b,o,rfl,hbl,hc⟩:=HC.out (by omega)
   obtain⟨y0,-⟩:=hc k hkl
   have hle:=stN_le l k
   rw [HN.out] at hle
   have hs2:=slN_le l[k]
   have hsu:=stN_succ l k hkl
   have hst:=hT.out
   rw [List.drop_eq_getElem_cons hkl,atN,← hsu] at hst
   have HS:=Lib.hid (fun W=>rslots_at l[k].op _ (slN l[k]:Int) W rfl (slN_int _))
   obtain⟨m,hm⟩:∃ m,slN l[k]=m:=⟨_,rfl⟩
   rw [hm] at HS hs2 hsu
   have HU:=Lib.hid hsu
   generalize l[k].op=op at y0 HS
   by_cases he:(stN l k:Int)=s
   ·rw [if_pos he] at hst
    obtain⟨t,ht⟩:∃ t,stN l k=t:=⟨_,rfl⟩
    rw [ht] at he hle ⊢
    subst he hst
    clear hc hm hsu hT HU ht
    go_wp2
    go_ret
    exact⟨rfl,rfl⟩
   ·rw [if_neg he] at hst
    have HT:=Lib.hid hst
    obtain⟨t,ht⟩:∃ t,stN l k=t:=⟨_,rfl⟩
    rw [ht] at he hle HU ⊢
    have he2:((t:Int)==s)=false:=by simpa using he
    clear hc hm hsu hT ht hst
    go_wp2_with (go_at_call 50;((with_reducible refine (HS.out _).mono ?_);rintro e w1 ⟨rfl,rfl⟩))
    go_round
    case rel=>exact⟨k+1,by omega,by go_num,by rw [HU.out];go_num,HT⟩
    case measure=>simp [RowKit.intOf];omega
  ·obtain rfl:k=n:=by omega
   have hst:=hT.out
   rw [List.drop_eq_nil_of_le (by rw [HN.out];exact Nat.le_refl _),atN] at hst
   subst hst
   clear hT
   go_wp2
   go_ret
   exact⟨rfl,rfl⟩
end Go.Proofs.YtihiggnglmhggaaGreatDoor.L12
end
section
namespace Go.Proofs.YtihiggnglmhggaaGreatDoor.L5
open Go.RowKit L3 L1 L4
theorem row_up {w w':World} {k:Nat} {cs:Array Value} {t:TypeId} (h:w.heap[k]?=some (.cells cs t)) (hb:Below w.heap.size w w'):w'.heap[k]?=some (.cells cs t):=(hb.block _ (lt_of_block h)).trans h
end Go.Proofs.YtihiggnglmhggaaGreatDoor.L5
end
section
namespace Go.Proofs.YtihiggnglmhggaaGreatDoor.L5
open Go.RowKit L3 L1 L4
theorem rget_2 (k o len cap:Nat) (c0 c1:UInt8) (v:Int) (w:World) (hn:4≤len) (h0:w.cell? ⟨k,o+2,none⟩=some (.int .u8 (c0.toNat:Int))) (h1:w.cell? ⟨k,o+3,none⟩=some (.int .u8 (c1.toNat:Int))) (hv:(c0.toNat:Int)*1+(c1.toNat:Int)*256=v) :
  Calls Tryz.prog 71 #[.slice (some ⟨k,o,none⟩) len cap,.int .i64 2,.int .i64 2] w fun e w'=>e=.returned (.int .u64 v)∧w=w':=by
 have HV:=Lib.hid hv
 clear hv
 have b0:=c0.toNat_lt
 have b1:=c1.toNat_lt
 have n0:2<len:=by omega
 have n1:3<len:=by omega
 have m0:(2:Int)<(len:Int):=by omega
 have m1:(3:Int)<(len:Int):=by omega
 go_enter Tryz.func71,Tryz.ntmps71
 go_wp2
 refine wp_loop_rounds 3 ?_
 repeat (rw [rounds_succ];go_wp2)
 go_ret
 exact⟨ret_int (by have:=HV.out;omega),rfl⟩
theorem rget_4 (k o len cap:Nat) (c0 c1 c2 c3:UInt8) (v:Int) (w:World) (hn:8≤len) (h0:w.cell? ⟨k,o+4,none⟩=some (.int .u8 (c0.toNat:Int))) (h1:w.cell? ⟨k,o+5,none⟩=some (.int .u8 (c1.toNat:Int))) (h2:w.cell? ⟨k,o+6,none⟩=some (.int .u8 (c2.toNat:Int))) (h3:w.cell? ⟨k,o+7,none⟩=some (.int .u8 (c3.toNat:Int))) (hv:(c0.toNat:Int)*1+(c1.toNat:Int)*256+(c2.toNat:Int)*65536+(c3.toNat:Int)*16777216=v) :
  Calls Tryz.prog 71 #[.slice (some ⟨k,o,none⟩) len cap,.int .i64 4,.int .i64 4] w fun e w'=>e=.returned (.int .u64 v)∧w=w':=by
 have HV:=Lib.hid hv
 clear hv
 have b0:=c0.toNat_lt
 have b1:=c1.toNat_lt
 have b2:=c2.toNat_lt
 have b3:=c3.toNat_lt
 have n0:4<len:=by omega
 have n1:5<len:=by omega
 have n2:6<len:=by omega
 have n3:7<len:=by omega
 have m0:(4:Int)<(len:Int):=by omega
 have m1:(5:Int)<(len:Int):=by omega
 have m2:(6:Int)<(len:Int):=by omega
 have m3:(7:Int)<(len:Int):=by omega
 go_enter Tryz.func71,Tryz.ntmps71
 go_wp2
 refine wp_loop_rounds 5 ?_
 repeat (rw [rounds_succ];go_wp2)
 go_ret
 exact⟨ret_int (by have:=HV.out;omega),rfl⟩
theorem rget_8 (k o len cap:Nat) (c0 c1 c2 c3:UInt8) (v:Int) (w:World) (hn:12≤len) (h0:w.cell? ⟨k,o+8,none⟩=some (.int .u8 (c0.toNat:Int))) (h1:w.cell? ⟨k,o+9,none⟩=some (.int .u8 (c1.toNat:Int))) (h2:w.cell? ⟨k,o+10,none⟩=some (.int .u8 (c2.toNat:Int))) (h3:w.cell? ⟨k,o+11,none⟩=some (.int .u8 (c3.toNat:Int))) (hv:(c0.toNat:Int)*1+(c1.toNat:Int)*256+(c2.toNat:Int)*65536+(c3.toNat:Int)*16777216=v) :
  Calls Tryz.prog 71 #[.slice (some ⟨k,o,none⟩) len cap,.int .i64 8,.int .i64 4] w fun e w'=>e=.returned (.int .u64 v)∧w=w':=by
 have HV:=Lib.hid hv
 clear hv
 have b0:=c0.toNat_lt
 have b1:=c1.toNat_lt
 have b2:=c2.toNat_lt
 have b3:=c3.toNat_lt
 have n0:8<len:=by omega
 have n1:9<len:=by omega
 have n2:10<len:=by omega
 have n3:11<len:=by omega
 have m0:(8:Int)<(len:Int):=by omega
 have m1:(9:Int)<(len:Int):=by omega
 have m2:(10:Int)<(len:Int):=by omega
 have m3:(11:Int)<(len:Int):=by omega
 go_enter Tryz.func71,Tryz.ntmps71
 go_wp2
 refine wp_loop_rounds 5 ?_
 repeat (rw [rounds_succ];go_wp2)
 go_ret
 exact⟨ret_int (by have:=HV.out;omega),rfl⟩
theorem rget_12 (k o len cap:Nat) (c0 c1 c2 c3:UInt8) (v:Int) (w:World) (hn:16≤len) (h0:w.cell? ⟨k,o+12,none⟩=some (.int .u8 (c0.toNat:Int))) (h1:w.cell? ⟨k,o+13,none⟩=some (.int .u8 (c1.toNat:Int))) (h2:w.cell? ⟨k,o+14,none⟩=some (.int .u8 (c2.toNat:Int))) (h3:w.cell? ⟨k,o+15,none⟩=some (.int .u8 (c3.toNat:Int))) (hv:(c0.toNat:Int)*1+(c1.toNat:Int)*256+(c2.toNat:Int)*65536+(c3.toNat:Int)*16777216=v) :
  Calls Tryz.prog 71 #[.slice (some ⟨k,o,none⟩) len cap,.int .i64 12,.int .i64 4] w fun e w'=>e=.returned (.int .u64 v)∧w=w':=by
 have HV:=Lib.hid hv
 clear hv
 have b0:=c0.toNat_lt
 have b1:=c1.toNat_lt
 have b2:=c2.toNat_lt
 have b3:=c3.toNat_lt
 have n0:12<len:=by omega
 have n1:13<len:=by omega
 have n2:14<len:=by omega
 have n3:15<len:=by omega
 have m0:(12:Int)<(len:Int):=by omega
 have m1:(13:Int)<(len:Int):=by omega
 have m2:(14:Int)<(len:Int):=by omega
 have m3:(15:Int)<(len:Int):=by omega
 go_enter Tryz.func71,Tryz.ntmps71
 go_wp2
 refine wp_loop_rounds 5 ?_
 repeat (rw [rounds_succ];go_wp2)
 go_ret
 exact⟨ret_int (by have:=HV.out;omega),rfl⟩
end Go.Proofs.YtihiggnglmhggaaGreatDoor.L5
end
section
namespace Go.Proofs.YtihiggnglmhggaaGreatDoor.L5
open Go.RowKit L3 L1 L4
theorem rchk_is (x:Ix) (R:Int) (w:World) (hx:x.fits) (h:x.err=R) :
  Calls Tryz.prog 77 #[.agg #[.int .i64 x.op,.bool x.reg,.int .i64 x.dst,.int .i64 x.src,.int .i64 x.off,.int .i64 x.imm]] w fun e w'=>e=.returned (.int .i64 R)∧Below w.heap.size w w' :=
 rcheck_is x.op x.reg x.dst x.src x.off x.imm x.f R w rfl ((chk_eq x.f (frm_isF x.op) x.reg x.dst x.src x.off x.imm hx.1 hx.2).symm.trans h)
end Go.Proofs.YtihiggnglmhggaaGreatDoor.L5
end
section
namespace Go.Proofs.YtihiggnglmhggaaGreatDoor.L17
open Go.RowKit L3 L1 L4 L5
open L13 (Ob)
theorem allP_ok {w:World} {r:List Rdg} {e:Ending} {w':World} (h:AllP w r e w') (h0:(la r).e=0) :
  ∃ a c,e=.returned (.tuple #[.slice a r.length c,.int .i64 0,.int .i64 0])∧L5.InAt w' (.slice a r.length c) (r.map fun x=>x.x)∧Below w.heap.size w w':=by
 obtain⟨h,hb⟩:=h
 rcases h with ⟨h,-⟩|⟨-,v',rfl,ho⟩
 ·exact absurd h0 h
 ·obtain⟨a,c,rfl⟩:=owns_slice ho
  rw [insL_map] at ho
  exact⟨a,c,rfl,own_ins ho,hb⟩
end Go.Proofs.YtihiggnglmhggaaGreatDoor.L17
end
section
namespace Go.Proofs.YtihiggnglmhggaaGreatDoor.L14
open Go.ChangeShapes Go.WideShapes Go.ChangeAt Go.RowKit Go.Deep
theorem cells5:Tryz.prog.cellsOf 5=1:=by kernel_rfl
theorem byte_of {z:Int} (h:(Lit.int .u8 z).wf=true):((UInt8.ofNat z.toNat).toNat:Int)=z:=by
 have:=bounds_u8 h
 rw [UInt8.toNat_ofNat',Nat.mod_eq_of_lt (by omega)]
 omega
section
variable {H:Type} {enc:TypeId × Value→H} {W:World} {base:Nat} {sp:Nat→Bool} {held:Bool} {r:Reach} {b0:Nat} {v:Value} {d:DataW H} {ps:List MemPlace}
end
end Go.Proofs.YtihiggnglmhggaaGreatDoor.L14
end
section
namespace Go.Proofs.YtihiggnglmhggaaGreatDoor.L16
open Go.ChangeShapes Go.WideShapes Go.ChangeAt Go.RowKit Go.Deep L14 L15
open L13 (Ob)
attribute [local go_sem] Oper.semAt_some
section
variable {H:Type} {enc:TypeId × Value→H} {W:World} {base:Nat} {sp:Nat→Bool} {held:Bool}
end
theorem gt_t {a b:Int} (h:b<a):decide (b<a)=true:=by simpa using h
theorem gt_f {a b:Int} (h:¬ b<a):decide (b<a)=false:=by simpa using h
end Go.Proofs.YtihiggnglmhggaaGreatDoor.L16
end
section
namespace Go.Proofs.YtihiggnglmhggaaGreatDoor.L5
open Go.RowKit L3 L1 L4
theorem cdV_of {code s o i:Int} {j:Nat} {r:Bool} (hj:j<86) (h:hitK code s o i j=true) (hr:r=regK code j):cdV j r=code:=by
 subst hr
 unfold hitK at h
 simp only [Bool.and_eq_true,Bool.or_eq_true,beq_iff_eq] at h
 obtain⟨h,-⟩:=h
 unfold cdV cdB
 rw [decide_eq_true hj]
 cases e:regK code j
 ·rw [e] at h
  simp at h ⊢
  exact h.symm
 ·have e':=e
  unfold regK at e'
  simp only [Bool.and_eq_true,beq_iff_eq] at e'
  simp [e'.1,e'.2.symm]
theorem bytes_one (x:Ix) (hs:slo x.f=1):x.bytes=[UInt8.ofNat (cdV (ix x.op) x.reg % 256).toNat,UInt8.ofNat ((16*(x.src+sr (ix x.op))+x.dst) % 256).toNat]++le 2 (x.off+of (ix x.op))++le 4 (x.imm+im (ix x.op)):=by
 unfold Ix.bytes encL
 rw [if_neg (by omega)]
 simp
theorem bytes_two (x:Ix) (hs:slo x.f=2):x.bytes=[UInt8.ofNat (cdV (ix x.op) x.reg % 256).toNat,UInt8.ofNat ((16*(x.src+sr (ix x.op))+x.dst) % 256).toNat]++le 2 (x.off+of (ix x.op))++le 4 (x.imm+im (ix x.op))++le 4 0++le 4 (x.imm / 4294967296):=by
 unfold Ix.bytes encL
 rw [if_pos hs]
 simp [le4_zero]
theorem take8 (l:List UInt8) (h:8≤l.length):l.take 8=[bt' l 0,bt' l 1]++[bt' l 2,bt' l 3]++[bt' l 4,bt' l 5,bt' l 6,bt' l 7]:=by
 match l,h with
 | _::_::_::_::_::_::_::_::_,_=>rfl
theorem take16 (l:List UInt8) (h:16≤l.length):l.take 16=[bt' l 0,bt' l 1]++[bt' l 2,bt' l 3]++[bt' l 4,bt' l 5,bt' l 6,bt' l 7]++[bt' l 8,bt' l 9,bt' l 10,bt' l 11]++[bt' l 12,bt' l 13,bt' l 14,bt' l 15]:=by
 match l,h with
 | _::_::_::_::_::_::_::_::_::_::_::_::_::_::_::_::_,_=>rfl
theorem le2_iff (z:Int) (a b:UInt8):le 2 z=[a,b]↔z % 65536=(a.toNat:Int)*1+(b.toNat:Int)*256:=by
 constructor
 ·intro h
  have:=congrArg va h
  rw [va_le] at this
  simp only [va] at this
  omega
 ·intro h
  refine le_va [a,b] z ?_
  simp only [va,List.length_cons,List.length_nil]
  omega
theorem le4_iff (z:Int) (a b c d:UInt8):le 4 z=[a,b,c,d]↔z % 4294967296=(a.toNat:Int)*1+(b.toNat:Int)*256+(c.toNat:Int)*65536+(d.toNat:Int)*16777216:=by
 constructor
 ·intro h
  have:=congrArg va h
  rw [va_le] at this
  simp only [va] at this
  omega
 ·intro h
  refine le_va [a,b,c,d] z ?_
  simp only [va,List.length_cons,List.length_nil]
  omega
theorem one_parts {A B b0 b1 b2 b3 b4 b5 b6 b7:UInt8} {U I:Int} (h:[A,B]++le 2 U++le 4 I=[b0,b1]++[b2,b3]++[b4,b5,b6,b7]):A=b0∧B=b1∧le 2 U=[b2,b3]∧le 4 I=[b4,b5,b6,b7]:=by
 have h1:=List.append_inj h (by simp [le_length])
 have h2:=List.append_inj h1.1 (by simp)
 have h3:=h2.1
 simp at h3
 exact⟨h3.1,h3.2,h2.2,h1.2⟩
theorem two_parts {A B b0 b1 b2 b3 b4 b5 b6 b7 b8 b9 b10 b11 b12 b13 b14 b15:UInt8} {U I J K:Int} (h:[A,B]++le 2 U++le 4 I++le 4 J++le 4 K=[b0,b1]++[b2,b3]++[b4,b5,b6,b7]++[b8,b9,b10,b11]++[b12,b13,b14,b15]) :
  A=b0∧B=b1∧le 2 U=[b2,b3]∧le 4 I=[b4,b5,b6,b7]∧le 4 J=[b8,b9,b10,b11]∧le 4 K=[b12,b13,b14,b15]:=by
 have h1:=List.append_inj h (by simp [le_length])
 have h2:=List.append_inj h1.1 (by simp [le_length])
 obtain⟨a,b,c,d⟩:=one_parts h2.1
 exact⟨a,b,c,d,h2.2,h1.2⟩
theorem sx16_at (s z:Int) (h0:-32768≤z) (h1:z≤32767) (h:z % 65536=s):sx 16 s=z:=by
 subst h
 unfold sx
 simp
 omega
theorem sx32_at (s z:Int) (h0:-2147483648≤z) (h1:z≤2147483647) (h:z % 4294967296=s):sx 32 s=z:=by
 subst h
 unfold sx
 simp
 omega
theorem sx16_m (s:Int) (h0:0≤s) (h1:s<65536):sx 16 s % 65536=s:=by
 unfold sx
 simp
 omega
theorem sx32_m (s:Int) (h0:0≤s) (h1:s<4294967296):sx 32 s % 4294967296=s:=by
 unfold sx
 simp
 omega
theorem byte_eq (z:Int) (c:UInt8) (h0:0≤z) (h1:z≤255):UInt8.ofNat (z % 256).toNat=c↔z=(c.toNat:Int):=by
 constructor
 ·intro h
  have:=congrArg (fun c:UInt8=>(c.toNat:Int)) h
  simp only [byte_nat] at this
  omega
 ·intro h
  exact byte_mk c z (by have:=c.toNat_lt;omega)
theorem sum2 (a b:UInt8):0≤(a.toNat:Int)*1+(b.toNat:Int)*256∧(a.toNat:Int)*1+(b.toNat:Int)*256<18446744073709551616:=by
 have:=a.toNat_lt
 have:=b.toNat_lt
 omega
theorem sum4 (a b c d:UInt8):0≤(a.toNat:Int)*1+(b.toNat:Int)*256+(c.toNat:Int)*65536+(d.toNat:Int)*16777216∧(a.toNat:Int)*1+(b.toNat:Int)*256+(c.toNat:Int)*65536+(d.toNat:Int)*16777216<18446744073709551616:=by
 have:=a.toNat_lt
 have:=b.toNat_lt
 have:=c.toNat_lt
 have:=d.toNat_lt
 omega
theorem hi8 (c:UInt8):0≤(c.toNat:Int)∧(c.toNat:Int)≤255:=by have:=c.toNat_lt;omega
theorem id_row {l:List UInt8} {op:Int} {r:Bool} (hid:idL l=(op,r,true)):ix op<86∧cdV (ix op) r=((bt' l 0).toNat:Int):=by
 obtain⟨j,-,hj,hop,hh,hr⟩:=id_ok _ _ _ _ _ _ _ _ (show idF _ _ _ _ 86 0=_ from hid)
 have hj':ix op=j:=by rw [hop,ix_nat (by omega)]
 rw [hj']
 exact⟨by omega,cdV_of (by omega) hh hr⟩
theorem decF_way {l:List UInt8} {op:Int} {r:Bool} (hid:idL l=(op,r,true)) (h8:8≤l.length) (h16:slo (frm (ix op))=2→16≤l.length) (g1:((bt' l 1).toNat:Int) % 16≤10) (g2:((bt' l 1).toNat:Int) / 16≤10) :
  decF l=(rdL l,slo (frm (ix op)),0)∨decF l=(.z,0,12):=by
 have hfL:fL l=frm (ix op):=by unfold fL;rw [hid]
 unfold decF
 rw [if_neg (by omega),hid,hfL,if_neg (by simp),if_neg (by intro h;have:=h16 h.1;omega),if_neg (by omega)]
 split
 ·exact .inl rfl
 ·exact .inr rfl
end Go.Proofs.YtihiggnglmhggaaGreatDoor.L5
end
section
namespace Go.Proofs.YtihiggnglmhggaaGreatDoor.L3
open Go.RowKit
theorem grp1:∀ k,k<86→35≤k→k≤43→fm k=1∧im k≠0:=by decide +kernel
theorem grp2:∀ k,k<86→84≤k→fm k=10∨fm k=11:=by decide +kernel
theorem grp3:∀ k,k<84→k<35∨43<k→fm k≠10∧fm k≠11∧(fm k=1→im k=0)∧(fm k=2→k<35):=by decide +kernel
theorem grp (k:Nat) (hk:k<86):((35≤k∧k≤43)∧fm k=1∧im k≠0)∨(84≤k∧(fm k=10∨fm k=11))∨(k<35∧fm k=0)∨((43<k∧k<84)∧fm k=0)∨(k<35∧fm k=2) ∨
  (k<35∧fm k≠0∧fm k≠2∧fm k≠10∧fm k≠11∧(fm k=1→im k=0))∨((43<k∧k<84)∧fm k≠0∧fm k≠2∧fm k≠10∧fm k≠11∧(fm k=1→im k=0)):=by
 by_cases h1:35≤k∧k≤43
 ·exact Or.inl ⟨h1,grp1 k hk h1.1 h1.2⟩
 ·by_cases h2:84≤k
  ·exact Or.inr (Or.inl ⟨h2,grp2 k hk h2⟩)
  ·obtain⟨a,b,c,d⟩:=grp3 k (by omega) (by omega)
   by_cases h3:k<35
   ·by_cases h4:fm k=0
    ·exact Or.inr (Or.inr (Or.inl ⟨h3,h4⟩))
    ·by_cases h5:fm k=2
     ·exact Or.inr (Or.inr (Or.inr (Or.inr (Or.inl ⟨h3,h5⟩))))
     ·exact Or.inr (Or.inr (Or.inr (Or.inr (Or.inr (Or.inl ⟨h3,h4,h5,a,b,c⟩)))))
   ·by_cases h4:fm k=0
    ·exact Or.inr (Or.inr (Or.inr (Or.inl ⟨⟨by omega,by omega⟩,h4⟩)))
    ·exact Or.inr (Or.inr (Or.inr (Or.inr (Or.inr (Or.inr ⟨⟨by omega,by omega⟩,h4,fun e=>h3 (d e),a,b,c⟩)))))
theorem sm_a {src off imm r o i:Int} {e:Bool} (hi:i≠0) (he:(i != imm)=e):((wiR 1 src r==r) && (wiO 1 off o==o) && (wiI 1 imm i==i))=!e:=by
 have h:wiI 1 imm i=imm:=by simp [wiI,hi]
 rw [h,← he,show wiR 1 src r=r from rfl,show wiO 1 off o=o from rfl]
 simp only [bne,beq_self_eq_true,Bool.true_and,Bool.not_not]
 rw [Bool.eq_iff_iff]
 simp only [beq_iff_eq]
 exact eq_comm
theorem sm_b {f src off imm r o i:Int} {e:Bool} (hf:f=10∨f=11) (he:(r != src)=e):((wiR f src r==r) && (wiO f off o==o) && (wiI f imm i==i))=!e:=by
 have h:wiR f src r=src∧wiO f off o=o∧wiI f imm i=i:=by rcases hf with rfl|rfl <;> exact⟨rfl,rfl,rfl⟩
 rw [h.1,h.2.1,h.2.2,← he]
 simp only [bne,beq_self_eq_true,Bool.and_true,Bool.not_not]
 rw [Bool.eq_iff_iff]
 simp only [beq_iff_eq]
 exact eq_comm
theorem sm_c {f src off imm r o i:Int} {e:Bool} (hf:f=0∨f=2) (he:(o != off)=e):((wiR f src r==r) && (wiO f off o==o) && (wiI f imm i==i))=!e:=by
 have h:wiR f src r=r∧wiO f off o=off∧wiI f imm i=i:=by rcases hf with rfl|rfl <;> exact⟨rfl,rfl,rfl⟩
 rw [h.1,h.2.1,h.2.2,← he]
 simp only [bne,beq_self_eq_true,Bool.and_true,Bool.true_and,Bool.not_not]
 rw [Bool.eq_iff_iff]
 simp only [beq_iff_eq]
 exact eq_comm
theorem sm_r {f src off imm r o i:Int} (h0:f≠0) (h2:f≠2) (h10:f≠10) (h11:f≠11) (h1:f=1→i=0):((wiR f src r==r) && (wiO f off o==o) && (wiI f imm i==i))=!false:=by
 have a:wiR f src r=r:=by simp [wiR,h10,h11]
 have b:wiO f off o=o:=by simp [wiO,h0,h2]
 have c:wiI f imm i=i:=by
  by_cases hf:f=1
  ·simp [wiI,h1 hf]
  ·simp [wiI,hf]
 rw [a,b,c]
 simp
theorem hit_r {code src off imm:Int} {k:Nat} {s:ByteArray} {f b c r o i v:Int} {t b8 bc e:Bool} (h:Is k s f b c r o i) (hk:k<86) (ht:isR f=t) (hv:cdV k true=v) (h8:(v==code)=b8) (hc:(c==code)=bc)
  (hs:((wiR f src r==r) && (wiO f off o==o) && (wiI f imm i==i))=!e) {n:Nat} {R:Int × Bool × Bool} (hR:idF code src off imm (n+1) k=R) :
  R=if e then idF code src off imm n (k+1) else if bc then ((k:Int),false,true) else if t && b8 then ((k:Int),true,true) else idF code src off imm n (k+1):=by
 have hB:cdB k true=t:=by rw [cdB,decide_eq_true hk,h.fm,ht];rfl
 have hV:t=true→v=(c+8) % 256:=by
  intro e;rw [← hv,cdV,hB,e,← h.cd];rfl
 have hw:=hit_is h ht rfl ((Bool.beq_comm (a:=code) (b:=c)).trans hc) hs hR
 rw [hw]
 cases e
 ·cases bc
  ·cases t
   ·rfl
   ·have e8:(code==(c+8) % 256)=b8:=by rw [← hV rfl,← h8];exact Bool.beq_comm
    rw [e8]
    cases b8 <;> rfl
  ·obtain rfl:c=code:=by simpa using hc
   have e8:(c==(c+8) % 256)=false:=by rw [beq_eq_false_iff_ne];omega
   rw [e8]
   cases t <;> rfl
 ·cases t <;> cases bc <;> simp
theorem rident_any (code src off imm:Int) (w:World):Calls Tryz.prog 75 #[.int .u8 code,.int .i64 src,.int .i64 off,.int .i64 imm] w fun e w' =>
  e=.returned (.tuple #[.int .i64 (idF code src off imm 86 0).1,.bool (idF code src off imm 86 0).2.1,.bool (idF code src off imm 86 0).2.2])∧Below w.heap.size w w':=by
 obtain⟨R,hR⟩:∃ R,idF code src off imm 86 0=R:=⟨_,rfl⟩
 have HR:=Lib.hid hR
 rw [hR]
 clear hR
 go_enter Tryz.func75,Tryz.ntmps75
 go_wp2
 go_loopw [11] (fun i wr=>∃ k:Nat,k≤86∧i=.int .i64 k∧Below w.heap.size w wr∧Hid (idF code src off imm (86-k) k=R)) (fun i _=>86-(RowKit.intOf i).toNat)
 case atStart=>exact⟨0,by omega,rfl,Below.refl _ _,HR⟩
 case round =>
  obtain⟨k,hk,rfl,hnx,hQ⟩:=hrel
  by_cases hlt:k<86
  ·have hle:decide ((k:Int)≤85)=true:=by rw [decide_eq_true_iff];omega
   obtain⟨s,f,b,c,r,o,i,hI⟩:=Is.some k
   obtain⟨t,ht⟩:∃ t,isR f=t:=⟨_,rfl⟩
   obtain⟨v,hv⟩:∃ v,cdV k true=v:=⟨_,rfl⟩
   obtain⟨b8,h8⟩:∃ b8,(v==code)=b8:=⟨_,rfl⟩
   obtain⟨bc,hbc⟩:∃ bc,(c==code)=bc:=⟨_,rfl⟩
   have H1:Hid (sr (ix (k:Int))=r):=Lib.hid (by rw [ix_nat hlt];exact hI.sr)
   have H2:Hid (of (ix (k:Int))=o):=Lib.hid (by rw [ix_nat hlt];exact hI.of)
   have H3:Hid (im (ix (k:Int))=i):=Lib.hid (by rw [ix_nat hlt];exact hI.im)
   have H4:Hid (frm (ix (k:Int))=f):=Lib.hid (by rw [ix_nat hlt,frm,if_pos hlt];exact hI.fm)
   have H5:Hid (cdB (ix (k:Int)) false=true):=Lib.hid (by rw [ix_nat hlt,cdB,decide_eq_true hlt];rfl)
   have H6:Hid (cdV (ix (k:Int)) false=c):=Lib.hid (by rw [ix_nat hlt,cdV,show cdB k false=true by rw [cdB,decide_eq_true hlt];rfl];exact hI.cd)
   have H7:Hid (cdB (ix (k:Int)) true=t):=Lib.hid (by rw [ix_nat hlt,cdB,decide_eq_true hlt,hI.fm,ht];rfl)
   have H8:Hid (cdV (ix (k:Int)) true=v):=Lib.hid (by rw [ix_nat hlt];exact hv)
   have HL:=Lib.hid hlt
   have hg:=grp k hlt
   rw [hI.fm,hI.im] at hg
   have hQ2:idF code src off imm (86-(k+1)+1) k=R:=by rw [← hQ.out,show 86-k=86-(k+1)+1 by omega]
   have hb64:(k:Int)<86:=by omega
   rcases hg with ⟨hr,rfl,hi⟩|⟨hr,hf⟩|⟨hr,rfl⟩|⟨hr,rfl⟩|⟨hr,rfl⟩|⟨hr,h0,h2,h10,h11,h1⟩|⟨hr,h0,h2,h10,h11,h1⟩
   focus
    obtain⟨e,he⟩:∃ e,(i != imm)=e:=⟨_,rfl⟩
    have HG:=Lib.hid (hit_r hI hlt ht hv h8 hbc (sm_a hi he) hQ2)
    have f3:decide ((35:Int)≤(k:Int))=true:=by rw [decide_eq_true_iff];omega
    have f4:decide ((k:Int)≤43)=true:=by rw [decide_eq_true_iff];omega
    have f5:decide ((84:Int)≤(k:Int))=false:=by rw [decide_eq_false_iff_not];omega
    clear hI ht hv hk hQ2 hr hi
   rotate_left
   focus
    obtain⟨e,he⟩:∃ e,(r != src)=e:=⟨_,rfl⟩
    have HG:=Lib.hid (hit_r hI hlt ht hv h8 hbc (sm_b hf he) hQ2)
    have f1:(f==0)=false:=by rw [beq_eq_false_iff_ne];omega
    have f2:(f==2)=false:=by rw [beq_eq_false_iff_ne];omega
    have f3:decide ((35:Int)≤(k:Int))=true:=by rw [decide_eq_true_iff];omega
    have f4:decide ((k:Int)≤43)=false:=by rw [decide_eq_false_iff_not];omega
    have f5:decide ((84:Int)≤(k:Int))=true:=by rw [decide_eq_true_iff];omega
    clear hI ht hv hk hQ2 hr hf
   rotate_left
   focus
    obtain⟨e,he⟩:∃ e,(o != off)=e:=⟨_,rfl⟩
    have HG:=Lib.hid (hit_r hI hlt ht hv h8 hbc (sm_c (Or.inl rfl) he) hQ2)
    have f3:decide ((35:Int)≤(k:Int))=false:=by rw [decide_eq_false_iff_not];omega
    have f5:decide ((84:Int)≤(k:Int))=false:=by rw [decide_eq_false_iff_not];omega
    clear hI ht hv hk hQ2 hr
   rotate_left
   focus
    obtain⟨e,he⟩:∃ e,(o != off)=e:=⟨_,rfl⟩
    have HG:=Lib.hid (hit_r hI hlt ht hv h8 hbc (sm_c (Or.inl rfl) he) hQ2)
    have f3:decide ((35:Int)≤(k:Int))=true:=by rw [decide_eq_true_iff];omega
    have f4:decide ((k:Int)≤43)=false:=by rw [decide_eq_false_iff_not];omega
    have f5:decide ((84:Int)≤(k:Int))=false:=by rw [decide_eq_false_iff_not];omega
    clear hI ht hv hk hQ2 hr
   rotate_left
   focus
    obtain⟨e,he⟩:∃ e,(o != off)=e:=⟨_,rfl⟩
    have HG:=Lib.hid (hit_r hI hlt ht hv h8 hbc (sm_c (Or.inr rfl) he) hQ2)
    have f3:decide ((35:Int)≤(k:Int))=false:=by rw [decide_eq_false_iff_not];omega
    have f5:decide ((84:Int)≤(k:Int))=false:=by rw [decide_eq_false_iff_not];omega
    clear hI ht hv hk hQ2 hr
   rotate_left
   focus
    have HG:=Lib.hid (hit_r hI hlt ht hv h8 hbc (sm_r h0 h2 h10 h11 h1) hQ2)
    have f1:(f==0)=false:=by rw [beq_eq_false_iff_ne];omega
    have f2:(f==2)=false:=by rw [beq_eq_false_iff_ne];omega
    have f3:decide ((35:Int)≤(k:Int))=false:=by rw [decide_eq_false_iff_not];omega
    have f5:decide ((84:Int)≤(k:Int))=false:=by rw [decide_eq_false_iff_not];omega
    clear hI ht hv hk hQ2 hr h0 h2 h10 h11 h1
   rotate_left
   focus
    have HG:=Lib.hid (hit_r hI hlt ht hv h8 hbc (sm_r h0 h2 h10 h11 h1) hQ2)
    have f1:(f==0)=false:=by rw [beq_eq_false_iff_ne];omega
    have f2:(f==2)=false:=by rw [beq_eq_false_iff_ne];omega
    have f3:decide ((35:Int)≤(k:Int))=true:=by rw [decide_eq_true_iff];omega
    have f4:decide ((k:Int)≤43)=false:=by rw [decide_eq_false_iff_not];omega
    have f5:decide ((84:Int)≤(k:Int))=false:=by rw [decide_eq_false_iff_not];omega
    clear hI ht hv hk hQ2 hr h0 h2 h10 h11 h1
   rotate_left
   all_goals
    try
     cases e
     rotate_left
     ·clear h8 hbc
      have HN:Hid (idF code src off imm (86-(k+1)) (k+1)=R):=Lib.hid (by rw [HG.out];rfl)
      go_wp2_with (first|(go_at_call 76;((with_reducible refine (rfixed_at _ _ _ _ _ H1.out H2.out H3.out).mono ?_);rintro e w1 ⟨rfl,hb1⟩))|(go_at_call 29;((with_reducible refine (rform_at _ _ _ H4.out).mono ?_);rintro e w' ⟨rfl,rfl⟩))|(go_at_call 89;((with_reducible refine (rcode_at _ _ _ _ _ H6.out H5.out).mono ?_);rintro e w2 ⟨rfl,hb2⟩))|(go_at_call 89;((with_reducible refine (rcode_at _ _ _ _ _ H8.out H7.out).mono ?_);rintro e w3 ⟨rfl,hb3⟩)))
      go_roundw
      case rel=>exact⟨k+1,HL.out,by go_num,bch hnx hb1,HN⟩
      case measure=>simp [RowKit.intOf];omega
    cases bc
    ·cases t
     ·clear h8
      have HN:Hid (idF code src off imm (86-(k+1)) (k+1)=R):=Lib.hid (by rw [HG.out];rfl)
      go_wp2_with (first|(go_at_call 76;((with_reducible refine (rfixed_at _ _ _ _ _ H1.out H2.out H3.out).mono ?_);rintro e w1 ⟨rfl,hb1⟩))|(go_at_call 29;((with_reducible refine (rform_at _ _ _ H4.out).mono ?_);rintro e w' ⟨rfl,rfl⟩))|(go_at_call 89;((with_reducible refine (rcode_at _ _ _ _ _ H6.out H5.out).mono ?_);rintro e w2 ⟨rfl,hb2⟩))|(go_at_call 89;((with_reducible refine (rcode_at _ _ _ _ _ H8.out H7.out).mono ?_);rintro e w3 ⟨rfl,hb3⟩)))
      go_roundw
      case rel=>exact⟨k+1,HL.out,by go_num,bch (bch (bch hnx hb1) hb2) hb3,HN⟩
      case measure=>simp [RowKit.intOf];omega
     ·cases b8
      ·have HN:Hid (idF code src off imm (86-(k+1)) (k+1)=R):=Lib.hid (by rw [HG.out];rfl)
       go_wp2_with (first|(go_at_call 76;((with_reducible refine (rfixed_at _ _ _ _ _ H1.out H2.out H3.out).mono ?_);rintro e w1 ⟨rfl,hb1⟩))|(go_at_call 29;((with_reducible refine (rform_at _ _ _ H4.out).mono ?_);rintro e w' ⟨rfl,rfl⟩))|(go_at_call 89;((with_reducible refine (rcode_at _ _ _ _ _ H6.out H5.out).mono ?_);rintro e w2 ⟨rfl,hb2⟩))|(go_at_call 89;((with_reducible refine (rcode_at _ _ _ _ _ H8.out H7.out).mono ?_);rintro e w3 ⟨rfl,hb3⟩)))
       go_roundw
       case rel=>exact⟨k+1,HL.out,by go_num,bch (bch (bch hnx hb1) hb2) hb3,HN⟩
       case measure=>simp [RowKit.intOf];omega
      ·go_wp2_with (first|(go_at_call 76;((with_reducible refine (rfixed_at _ _ _ _ _ H1.out H2.out H3.out).mono ?_);rintro e w1 ⟨rfl,hb1⟩))|(go_at_call 29;((with_reducible refine (rform_at _ _ _ H4.out).mono ?_);rintro e w' ⟨rfl,rfl⟩))|(go_at_call 89;((with_reducible refine (rcode_at _ _ _ _ _ H6.out H5.out).mono ?_);rintro e w2 ⟨rfl,hb2⟩))|(go_at_call 89;((with_reducible refine (rcode_at _ _ _ _ _ H8.out H7.out).mono ?_);rintro e w3 ⟨rfl,hb3⟩)))
       go_ret3
       exact⟨by rw [HG.out] <;> rfl,bch (bch (bch hnx hb1) hb2) hb3⟩
    ·go_wp2_with (first|(go_at_call 76;((with_reducible refine (rfixed_at _ _ _ _ _ H1.out H2.out H3.out).mono ?_);rintro e w1 ⟨rfl,hb1⟩))|(go_at_call 29;((with_reducible refine (rform_at _ _ _ H4.out).mono ?_);rintro e w' ⟨rfl,rfl⟩))|(go_at_call 89;((with_reducible refine (rcode_at _ _ _ _ _ H6.out H5.out).mono ?_);rintro e w2 ⟨rfl,hb2⟩))|(go_at_call 89;((with_reducible refine (rcode_at _ _ _ _ _ H8.out H7.out).mono ?_);rintro e w3 ⟨rfl,hb3⟩)))
     go_ret3
     exact⟨by rw [HG.out] <;> rfl,bch (bch hnx hb1) hb2⟩
  ·have hle:decide ((k:Int)≤85)=false:=by rw [decide_eq_false_iff_not];omega
   go_wp2
   go_ret3
   have hR:idF code src off imm 0 k=R:=by have:=hQ.out;rwa [show 86-k=0 by omega] at this
   exact⟨by rw [← hR] <;> rfl,hnx⟩
theorem rident_at (code src off imm n:Int) (r ok:Bool) (w:World) (h:idF code src off imm 86 0=(n,r,ok)):Calls Tryz.prog 75 #[.int .u8 code,.int .i64 src,.int .i64 off,.int .i64 imm] w fun e w' =>
  e=.returned (.tuple #[.int .i64 n,.bool r,.bool ok])∧Below w.heap.size w w':=by
 have:=rident_any code src off imm w
 rwa [h] at this
end Go.Proofs.YtihiggnglmhggaaGreatDoor.L3
end
section
namespace Go.Proofs.YtihiggnglmhggaaGreatDoor.L5
open Go.RowKit L3 L1 L4
theorem rext_is (x b v:Int) (w:World) (h0:0≤x) (h1:x<18446744073709551616) (hb:b=8∨b=16∨b=32∨b=64) (hv:sx b x=v) :
  Calls Tryz.prog 74 #[.int .u64 x,.int .i64 b] w fun e w'=>e=.returned (.int .i64 v)∧w=w':=by
 subst hv
 exact rextend_yes x b w h0 h1 hb
structure TwoS (w W:World) (X:Array Value):Prop where
 hb:Below w.heap.size w W
 hg:W.heap[w.heap.size]?=some (.cells X 45)
 hz:W.heap[w.heap.size+1]?=some (.cells #[.int .i64 0,.bool false,.int .i64 0,.int .i64 0,.int .i64 0,.int .i64 0] 45)
theorem TwoS.start (w:World):TwoS w ((w.alloc (.cells #[.int .i64 0,.bool false,.int .i64 0,.int .i64 0,.int .i64 0,.int .i64 0] 45)).alloc (.cells #[.int .i64 0,.bool false,.int .i64 0,.int .i64 0,.int .i64 0,.int .i64 0] 45)) #[.int .i64 0,.bool false,.int .i64 0,.int .i64 0,.int .i64 0,.int .i64 0] :=
 ⟨bch (bnew w _) (bnew _ _),(Below.heap_alloc _ _ _ (by simp)).trans (heap_alloc_last w _),by have:=heap_alloc_last (w.alloc (.cells #[.int .i64 0,.bool false,.int .i64 0,.int .i64 0,.int .i64 0,.int .i64 0] 45)) (.cells #[.int .i64 0,.bool false,.int .i64 0,.int .i64 0,.int .i64 0,.int .i64 0] 45);rwa [World.size_alloc] at this⟩
theorem TwoS.below {w W W':World} {X:Array Value} (h:TwoS w W X) (hb:Below W.heap.size W W'):TwoS w W' X :=
 ⟨bch h.hb hb,row_up h.hg hb,row_up h.hz hb⟩
theorem TwoS.set {w W:World} {X:Array Value} (h:TwoS w W X) (cs:Array Value):TwoS w (W.setRow w.heap.size cs) cs :=
 ⟨below_setRow h.hb (Nat.le_refl _) cs,setRow_heap W _ _ cs _ _ h.hg,(setRow_other W _ _ cs (by omega)).trans h.hz⟩
theorem TwoS.size {w W:World} {X:Array Value} (h:TwoS w W X):w.heap.size+1<W.heap.size:=by
 have:=h.hz
 rw [Array.getElem?_eq_some_iff] at this
 exact this.1
theorem TwoS.setc {w W:World} {X:Array Value} (h:TwoS w W X) (g i:Nat) (v:Value) (hg:w.heap.size+1<g):TwoS w (W.setCell ⟨g,i,none⟩ v) X:=by
 have hb:Below (w.heap.size+2) W (W.setCell ⟨g,i,none⟩ v):=(Below.refl _ _).setCell (show w.heap.size+2≤g by omega) v
 exact⟨h.hb.setCell (show w.heap.size≤g by omega) v,(hb.block w.heap.size (by omega)).trans h.hg,(hb.block (w.heap.size+1) (by omega)).trans h.hz⟩
theorem rdec_op (k o n cap:Nat) (c0 c1 c2 c3 c4 c5 c6 c7:UInt8) (off imm:Int) (w:World) (h:Eight w k o c0 c1 c2 c3 c4 c5 c6 c7) (hn:8≤n)
  (ho:sx 16 ((c2.toNat:Int)*1+(c3.toNat:Int)*256)=off) (hi:sx 32 ((c4.toNat:Int)*1+(c5.toNat:Int)*256+(c6.toNat:Int)*65536+(c7.toNat:Int)*16777216)=imm)
  (op:Int) (r ok:Bool) (hid:idF (c0.toNat:Int) ((c1.toNat:Int) / 16) off imm 86 0=(op,r,ok)) (hok:ok=false) :
  Calls Tryz.prog 38 #[.slice (some ⟨k,o,none⟩) n cap] w fun e w'=>e=.returned (.tuple #[.agg #[.int .i64 0,.bool false,.int .i64 0,.int .i64 0,.int .i64 0,.int .i64 0],.int .i64 0,.int .i64 6])∧Below w.heap.size w w':=by
 have S:=TwoS.start w
 have h8:=h.below S.hb
 have d0:=h8.a0
 have d1:=h8.a1
 obtain⟨s2,hs2⟩:∃ s2,(c2.toNat:Int)*1+(c3.toNat:Int)*256=s2:=⟨_,rfl⟩
 obtain⟨s4,hs4⟩:∃ s4,(c4.toNat:Int)*1+(c5.toNat:Int)*256+(c6.toNat:Int)*65536+(c7.toNat:Int)*16777216=s4:=⟨_,rfl⟩
 have HG2:=Lib.hid (fun (W:World) (hb:Below w.heap.size w W)=>rget_2 k o n cap c2 c3 s2 W (by omega) (h.below hb).a2 (h.below hb).a3 hs2)
 have HG4:=Lib.hid (fun (W:World) (hb:Below w.heap.size w W)=>rget_4 k o n cap c4 c5 c6 c7 s4 W (by omega) (h.below hb).a4 (h.below hb).a5 (h.below hb).a6 (h.below hb).a7 hs4)
 have HX2:=Lib.hid (fun (W:World)=>rext_is s2 16 off W (hs2 ▸ (sum2 c2 c3).1) (hs2 ▸ (sum2 c2 c3).2) (by decide) (hs2 ▸ ho))
 have HX4:=Lib.hid (fun (W:World)=>rext_is s4 32 imm W (hs4 ▸ (sum4 c4 c5 c6 c7).1) (hs4 ▸ (sum4 c4 c5 c6 c7).2) (by decide) (hs4 ▸ hi))
 have HD:=Lib.hid (fun (W:World)=>rident_at (c0.toNat:Int) ((c1.toNat:Int) / 16) off imm op r ok W hid)
 have n8:¬ (n:Int)<8:=by omega
 have n0:0<n:=by omega
 have n1:1<n:=by omega
 have n0':(0:Int)<(n:Int):=by omega
 have n1':(1:Int)<(n:Int):=by omega
 have b1:=c1.toNat_lt
 clear h ho hi hid hn h8 hs2 hs4
 go_enter Tryz.func38,Tryz.ntmps38
 obtain⟨y0,y1,y2,y3,y4,y5⟩:=cells6 S.hz
 go_wp2_with (first|(go_at_call 71;((with_reducible refine (HG2.out _ S.hb).mono ?_);rintro e w1 ⟨rfl,rfl⟩))|(go_at_call 71;((with_reducible refine (HG4.out _ S.hb).mono ?_);rintro e w1 ⟨rfl,rfl⟩))|(go_at_call 74;((with_reducible refine (HX2.out _).mono ?_);rintro e w1 ⟨rfl,rfl⟩))|(go_at_call 74;((with_reducible refine (HX4.out _).mono ?_);rintro e w1 ⟨rfl,rfl⟩))|(go_at_call 75;((with_reducible refine (HD.out _).mono ?_);rintro e w2 ⟨rfl,b2⟩;replace S:=S.below b2;clear y0 y1 y2 y3 y4 y5;obtain⟨y0,y1,y2,y3,y4,y5⟩:=cells6 S.hz))|(refine wpList_store_row rfl _ _ _ rfl w.heap.size #[.int .i64 0,.bool false,.int .i64 0,.int .i64 0,.int .i64 0,.int .i64 0] rfl rfl 45 _ S.hg (by kernel_rfl) rfl (ins_one _ _ _ _ _ _) ?_;replace S:=S.set #[.int .i64 0,.bool false,.int .i64 0,.int .i64 0,.int .i64 0,.int .i64 0];obtain⟨x0,x1,x2,x3,x4,x5⟩:=cells6 S.hg))
 exact bodyPost_ret (v:=.tuple #[.agg #[.int .i64 0,.bool false,.int .i64 0,.int .i64 0,.int .i64 0,.int .i64 0],.int .i64 0,.int .i64 6]) (by simp [results,Tryz.results38,go_sem,x0,x1,x2,x3,x4,x5]) rfl ⟨rfl,S.hb⟩
theorem rdec_short (a:Option Addr) (n cap:Nat) (w:World) (hn:n<8):Calls Tryz.prog 38 #[.slice a n cap] w fun e w'=>e=.returned (.tuple #[.agg #[.int .i64 0,.bool false,.int .i64 0,.int .i64 0,.int .i64 0,.int .i64 0],.int .i64 0,.int .i64 17])∧Below w.heap.size w w':=by
 have S:=TwoS.start w
 have n8:(n:Int)<8:=by omega
 clear hn
 go_enter Tryz.func38,Tryz.ntmps38
 obtain⟨y0,y1,y2,y3,y4,y5⟩:=cells6 S.hz
 go_wp2_with (refine wpList_store_row rfl _ _ _ rfl w.heap.size #[.int .i64 0,.bool false,.int .i64 0,.int .i64 0,.int .i64 0,.int .i64 0] rfl rfl 45 _ S.hg (by kernel_rfl) rfl (ins_one _ _ _ _ _ _) ?_;replace S:=S.set #[.int .i64 0,.bool false,.int .i64 0,.int .i64 0,.int .i64 0,.int .i64 0];obtain⟨x0,x1,x2,x3,x4,x5⟩:=cells6 S.hg)
 exact bodyPost_ret (v:=.tuple #[.agg #[.int .i64 0,.bool false,.int .i64 0,.int .i64 0,.int .i64 0,.int .i64 0],.int .i64 0,.int .i64 17]) (by simp [results,Tryz.results38,go_sem,x0,x1,x2,x3,x4,x5]) rfl ⟨rfl,S.hb⟩
theorem rdec_short2 (k o n cap:Nat) (c0 c1 c2 c3 c4 c5 c6 c7:UInt8) (off imm:Int) (w:World) (h:Eight w k o c0 c1 c2 c3 c4 c5 c6 c7) (hn:8≤n)
  (ho:sx 16 ((c2.toNat:Int)*1+(c3.toNat:Int)*256)=off) (hi:sx 32 ((c4.toNat:Int)*1+(c5.toNat:Int)*256+(c6.toNat:Int)*65536+(c7.toNat:Int)*16777216)=imm)
  (op:Int) (r ok:Bool) (hid:idF (c0.toNat:Int) ((c1.toNat:Int) / 16) off imm 86 0=(op,r,ok)) (hok:ok=true) (f:Int) (hf:frm (ix op)=f) (hs:slo f=2) (h16:n<16) :
  Calls Tryz.prog 38 #[.slice (some ⟨k,o,none⟩) n cap] w fun e w'=>e=.returned (.tuple #[.agg #[.int .i64 0,.bool false,.int .i64 0,.int .i64 0,.int .i64 0,.int .i64 0],.int .i64 0,.int .i64 17])∧Below w.heap.size w w':=by
 have HT:=Lib.hid (fun (W:World)=>rslots_at op f 2 W hf hs)
 have n16:(n:Int)<16:=by omega
 clear hf hs
 have S:=TwoS.start w
 have h8:=h.below S.hb
 have d0:=h8.a0
 have d1:=h8.a1
 obtain⟨s2,hs2⟩:∃ s2,(c2.toNat:Int)*1+(c3.toNat:Int)*256=s2:=⟨_,rfl⟩
 obtain⟨s4,hs4⟩:∃ s4,(c4.toNat:Int)*1+(c5.toNat:Int)*256+(c6.toNat:Int)*65536+(c7.toNat:Int)*16777216=s4:=⟨_,rfl⟩
 have HG2:=Lib.hid (fun (W:World) (hb:Below w.heap.size w W)=>rget_2 k o n cap c2 c3 s2 W (by omega) (h.below hb).a2 (h.below hb).a3 hs2)
 have HG4:=Lib.hid (fun (W:World) (hb:Below w.heap.size w W)=>rget_4 k o n cap c4 c5 c6 c7 s4 W (by omega) (h.below hb).a4 (h.below hb).a5 (h.below hb).a6 (h.below hb).a7 hs4)
 have HX2:=Lib.hid (fun (W:World)=>rext_is s2 16 off W (hs2 ▸ (sum2 c2 c3).1) (hs2 ▸ (sum2 c2 c3).2) (by decide) (hs2 ▸ ho))
 have HX4:=Lib.hid (fun (W:World)=>rext_is s4 32 imm W (hs4 ▸ (sum4 c4 c5 c6 c7).1) (hs4 ▸ (sum4 c4 c5 c6 c7).2) (by decide) (hs4 ▸ hi))
 have HD:=Lib.hid (fun (W:World)=>rident_at (c0.toNat:Int) ((c1.toNat:Int) / 16) off imm op r ok W hid)
 have n8:¬ (n:Int)<8:=by omega
 have n0:0<n:=by omega
 have n1:1<n:=by omega
 have n0':(0:Int)<(n:Int):=by omega
 have n1':(1:Int)<(n:Int):=by omega
 have b1:=c1.toNat_lt
 clear h16 h ho hi hid hn h8 hs2 hs4
 go_enter Tryz.func38,Tryz.ntmps38
 obtain⟨y0,y1,y2,y3,y4,y5⟩:=cells6 S.hz
 go_wp2_with (first|(go_at_call 71;((with_reducible refine (HG2.out _ S.hb).mono ?_);rintro e w1 ⟨rfl,rfl⟩))|(go_at_call 71;((with_reducible refine (HG4.out _ S.hb).mono ?_);rintro e w1 ⟨rfl,rfl⟩))|(go_at_call 74;((with_reducible refine (HX2.out _).mono ?_);rintro e w1 ⟨rfl,rfl⟩))|(go_at_call 74;((with_reducible refine (HX4.out _).mono ?_);rintro e w1 ⟨rfl,rfl⟩))|(go_at_call 75;((with_reducible refine (HD.out _).mono ?_);rintro e w2 ⟨rfl,b2⟩;replace S:=S.below b2;clear y0 y1 y2 y3 y4 y5;obtain⟨y0,y1,y2,y3,y4,y5⟩:=cells6 S.hz))|(go_at_call 50;((with_reducible refine (HT.out _).mono ?_);rintro e w3 ⟨rfl,rfl⟩))|(refine wpList_store_row rfl _ _ _ rfl w.heap.size #[.int .i64 0,.bool false,.int .i64 0,.int .i64 0,.int .i64 0,.int .i64 0] rfl rfl 45 _ S.hg (by kernel_rfl) rfl (ins_one _ _ _ _ _ _) ?_;replace S:=S.set #[.int .i64 0,.bool false,.int .i64 0,.int .i64 0,.int .i64 0,.int .i64 0];obtain⟨x0,x1,x2,x3,x4,x5⟩:=cells6 S.hg))
 exact bodyPost_ret (v:=.tuple #[.agg #[.int .i64 0,.bool false,.int .i64 0,.int .i64 0,.int .i64 0,.int .i64 0],.int .i64 0,.int .i64 17]) (by simp [results,Tryz.results38,go_sem,x0,x1,x2,x3,x4,x5]) rfl ⟨rfl,S.hb⟩
theorem rdec_reg1 (k o n cap:Nat) (c0 c1 c2 c3 c4 c5 c6 c7:UInt8) (off imm:Int) (w:World) (h:Eight w k o c0 c1 c2 c3 c4 c5 c6 c7) (hn:8≤n)
  (ho:sx 16 ((c2.toNat:Int)*1+(c3.toNat:Int)*256)=off) (hi:sx 32 ((c4.toNat:Int)*1+(c5.toNat:Int)*256+(c6.toNat:Int)*65536+(c7.toNat:Int)*16777216)=imm)
  (op:Int) (r ok:Bool) (hid:idF (c0.toNat:Int) ((c1.toNat:Int) / 16) off imm 86 0=(op,r,ok)) (hok:ok=true) (f:Int) (hf:frm (ix op)=f) (hs:slo f=1) (hreg:11≤(c1.toNat:Int) % 16∨11≤(c1.toNat:Int) / 16) :
  Calls Tryz.prog 38 #[.slice (some ⟨k,o,none⟩) n cap] w fun e w'=>e=.returned (.tuple #[.agg #[.int .i64 0,.bool false,.int .i64 0,.int .i64 0,.int .i64 0,.int .i64 0],.int .i64 0,.int .i64 5])∧Below w.heap.size w w':=by
 have HT:=Lib.hid (fun (W:World)=>rslots_at op f 1 W hf hs)
 clear hf hs
 have S:=TwoS.start w
 have h8:=h.below S.hb
 have d0:=h8.a0
 have d1:=h8.a1
 obtain⟨s2,hs2⟩:∃ s2,(c2.toNat:Int)*1+(c3.toNat:Int)*256=s2:=⟨_,rfl⟩
 obtain⟨s4,hs4⟩:∃ s4,(c4.toNat:Int)*1+(c5.toNat:Int)*256+(c6.toNat:Int)*65536+(c7.toNat:Int)*16777216=s4:=⟨_,rfl⟩
 have HG2:=Lib.hid (fun (W:World) (hb:Below w.heap.size w W)=>rget_2 k o n cap c2 c3 s2 W (by omega) (h.below hb).a2 (h.below hb).a3 hs2)
 have HG4:=Lib.hid (fun (W:World) (hb:Below w.heap.size w W)=>rget_4 k o n cap c4 c5 c6 c7 s4 W (by omega) (h.below hb).a4 (h.below hb).a5 (h.below hb).a6 (h.below hb).a7 hs4)
 have HX2:=Lib.hid (fun (W:World)=>rext_is s2 16 off W (hs2 ▸ (sum2 c2 c3).1) (hs2 ▸ (sum2 c2 c3).2) (by decide) (hs2 ▸ ho))
 have HX4:=Lib.hid (fun (W:World)=>rext_is s4 32 imm W (hs4 ▸ (sum4 c4 c5 c6 c7).1) (hs4 ▸ (sum4 c4 c5 c6 c7).2) (by decide) (hs4 ▸ hi))
 have HD:=Lib.hid (fun (W:World)=>rident_at (c0.toNat:Int) ((c1.toNat:Int) / 16) off imm op r ok W hid)
 have n8:¬ (n:Int)<8:=by omega
 have n0:0<n:=by omega
 have n1:1<n:=by omega
 have n0':(0:Int)<(n:Int):=by omega
 have n1':(1:Int)<(n:Int):=by omega
 have b1:=c1.toNat_lt
 clear h ho hi hid hn h8 hs2 hs4
 go_enter Tryz.func38,Tryz.ntmps38
 obtain⟨y0,y1,y2,y3,y4,y5⟩:=cells6 S.hz
 go_wp2_with (first|(go_at_call 71;((with_reducible refine (HG2.out _ S.hb).mono ?_);rintro e w1 ⟨rfl,rfl⟩))|(go_at_call 71;((with_reducible refine (HG4.out _ S.hb).mono ?_);rintro e w1 ⟨rfl,rfl⟩))|(go_at_call 74;((with_reducible refine (HX2.out _).mono ?_);rintro e w1 ⟨rfl,rfl⟩))|(go_at_call 74;((with_reducible refine (HX4.out _).mono ?_);rintro e w1 ⟨rfl,rfl⟩))|(go_at_call 75;((with_reducible refine (HD.out _).mono ?_);rintro e w2 ⟨rfl,b2⟩;replace S:=S.below b2;clear y0 y1 y2 y3 y4 y5;obtain⟨y0,y1,y2,y3,y4,y5⟩:=cells6 S.hz))|(go_at_call 50;((with_reducible refine (HT.out _).mono ?_);rintro e w3 ⟨rfl,rfl⟩))|(refine wpList_store_row rfl _ _ _ rfl w.heap.size #[.int .i64 0,.bool false,.int .i64 0,.int .i64 0,.int .i64 0,.int .i64 0] rfl rfl 45 _ S.hg (by kernel_rfl) rfl (ins_one _ _ _ _ _ _) ?_;replace S:=S.set #[.int .i64 0,.bool false,.int .i64 0,.int .i64 0,.int .i64 0,.int .i64 0];obtain⟨x0,x1,x2,x3,x4,x5⟩:=cells6 S.hg))
 all_goals exact bodyPost_ret (v:=.tuple #[.agg #[.int .i64 0,.bool false,.int .i64 0,.int .i64 0,.int .i64 0,.int .i64 0],.int .i64 0,.int .i64 5]) (by simp [results,Tryz.results38,go_sem,x0,x1,x2,x3,x4,x5]) rfl ⟨rfl,S.hb⟩
theorem rdec_reg2 (k o n cap:Nat) (c0 c1 c2 c3 c4 c5 c6 c7:UInt8) (off imm:Int) (w:World) (h:Eight w k o c0 c1 c2 c3 c4 c5 c6 c7) (hn:8≤n)
  (ho:sx 16 ((c2.toNat:Int)*1+(c3.toNat:Int)*256)=off) (hi:sx 32 ((c4.toNat:Int)*1+(c5.toNat:Int)*256+(c6.toNat:Int)*65536+(c7.toNat:Int)*16777216)=imm)
  (op:Int) (r ok:Bool) (hid:idF (c0.toNat:Int) ((c1.toNat:Int) / 16) off imm 86 0=(op,r,ok)) (hok:ok=true) (f:Int) (hf:frm (ix op)=f) (hs:slo f=2) (h16:16≤n) (hreg:11≤(c1.toNat:Int) % 16∨11≤(c1.toNat:Int) / 16) :
  Calls Tryz.prog 38 #[.slice (some ⟨k,o,none⟩) n cap] w fun e w'=>e=.returned (.tuple #[.agg #[.int .i64 0,.bool false,.int .i64 0,.int .i64 0,.int .i64 0,.int .i64 0],.int .i64 0,.int .i64 5])∧Below w.heap.size w w':=by
 have HT:=Lib.hid (fun (W:World)=>rslots_at op f 2 W hf hs)
 have n16:¬ (n:Int)<16:=by omega
 clear hf hs
 have S:=TwoS.start w
 have h8:=h.below S.hb
 have d0:=h8.a0
 have d1:=h8.a1
 obtain⟨s2,hs2⟩:∃ s2,(c2.toNat:Int)*1+(c3.toNat:Int)*256=s2:=⟨_,rfl⟩
 obtain⟨s4,hs4⟩:∃ s4,(c4.toNat:Int)*1+(c5.toNat:Int)*256+(c6.toNat:Int)*65536+(c7.toNat:Int)*16777216=s4:=⟨_,rfl⟩
 have HG2:=Lib.hid (fun (W:World) (hb:Below w.heap.size w W)=>rget_2 k o n cap c2 c3 s2 W (by omega) (h.below hb).a2 (h.below hb).a3 hs2)
 have HG4:=Lib.hid (fun (W:World) (hb:Below w.heap.size w W)=>rget_4 k o n cap c4 c5 c6 c7 s4 W (by omega) (h.below hb).a4 (h.below hb).a5 (h.below hb).a6 (h.below hb).a7 hs4)
 have HX2:=Lib.hid (fun (W:World)=>rext_is s2 16 off W (hs2 ▸ (sum2 c2 c3).1) (hs2 ▸ (sum2 c2 c3).2) (by decide) (hs2 ▸ ho))
 have HX4:=Lib.hid (fun (W:World)=>rext_is s4 32 imm W (hs4 ▸ (sum4 c4 c5 c6 c7).1) (hs4 ▸ (sum4 c4 c5 c6 c7).2) (by decide) (hs4 ▸ hi))
 have HD:=Lib.hid (fun (W:World)=>rident_at (c0.toNat:Int) ((c1.toNat:Int) / 16) off imm op r ok W hid)
 have n8:¬ (n:Int)<8:=by omega
 have n0:0<n:=by omega
 have n1:1<n:=by omega
 have n0':(0:Int)<(n:Int):=by omega
 have n1':(1:Int)<(n:Int):=by omega
 have b1:=c1.toNat_lt
 clear h16 h ho hi hid hn h8 hs2 hs4
 go_enter Tryz.func38,Tryz.ntmps38
 obtain⟨y0,y1,y2,y3,y4,y5⟩:=cells6 S.hz
 go_wp2_with (first|(go_at_call 71;((with_reducible refine (HG2.out _ S.hb).mono ?_);rintro e w1 ⟨rfl,rfl⟩))|(go_at_call 71;((with_reducible refine (HG4.out _ S.hb).mono ?_);rintro e w1 ⟨rfl,rfl⟩))|(go_at_call 74;((with_reducible refine (HX2.out _).mono ?_);rintro e w1 ⟨rfl,rfl⟩))|(go_at_call 74;((with_reducible refine (HX4.out _).mono ?_);rintro e w1 ⟨rfl,rfl⟩))|(go_at_call 75;((with_reducible refine (HD.out _).mono ?_);rintro e w2 ⟨rfl,b2⟩;replace S:=S.below b2;clear y0 y1 y2 y3 y4 y5;obtain⟨y0,y1,y2,y3,y4,y5⟩:=cells6 S.hz))|(go_at_call 50;((with_reducible refine (HT.out _).mono ?_);rintro e w3 ⟨rfl,rfl⟩))|(refine wpList_store_row rfl _ _ _ rfl w.heap.size #[.int .i64 0,.bool false,.int .i64 0,.int .i64 0,.int .i64 0,.int .i64 0] rfl rfl 45 _ S.hg (by kernel_rfl) rfl (ins_one _ _ _ _ _ _) ?_;replace S:=S.set #[.int .i64 0,.bool false,.int .i64 0,.int .i64 0,.int .i64 0,.int .i64 0];obtain⟨x0,x1,x2,x3,x4,x5⟩:=cells6 S.hg))
 all_goals exact bodyPost_ret (v:=.tuple #[.agg #[.int .i64 0,.bool false,.int .i64 0,.int .i64 0,.int .i64 0,.int .i64 0],.int .i64 0,.int .i64 5]) (by simp [results,Tryz.results38,go_sem,x0,x1,x2,x3,x4,x5]) rfl ⟨rfl,S.hb⟩
theorem rdec_one (k o n cap:Nat) (c0 c1 c2 c3 c4 c5 c6 c7:UInt8) (off imm:Int) (w:World) (h:Eight w k o c0 c1 c2 c3 c4 c5 c6 c7) (hn:8≤n)
  (ho:sx 16 ((c2.toNat:Int)*1+(c3.toNat:Int)*256)=off) (hi:sx 32 ((c4.toNat:Int)*1+(c5.toNat:Int)*256+(c6.toNat:Int)*65536+(c7.toNat:Int)*16777216)=imm)
  (op:Int) (r ok:Bool) (hid:idF (c0.toNat:Int) ((c1.toNat:Int) / 16) off imm 86 0=(op,r,ok)) (hok:ok=true) (f:Int) (hf:frm (ix op)=f) (hs:slo f=1) (g1:(c1.toNat:Int) % 16≤10) (g2:(c1.toNat:Int) / 16≤10) (sr' of' im':Int) (e1:sr (ix op)=sr') (e2:of (ix op)=of') (e3:im (ix op)=im') (bs:0≤sr'∧sr'≤10) (bo:-32768≤of'∧of'≤32767) (bi:-2147483648≤im'∧im'≤2147483647) (bo':-32768≤off∧off≤32767) (bi':-2147483648≤imm∧imm≤2147483647) (S' O' V':Int) (q1:(c1.toNat:Int) / 16-sr'=S') (q2:off-of'=O') (q3:imm-im'=V') (hR:(Ix.mk op r ((c1.toNat:Int) % 16) S' O' V').err=0) (hfit:(Ix.mk op r ((c1.toNat:Int) % 16) S' O' V').fits) :
  Calls Tryz.prog 38 #[.slice (some ⟨k,o,none⟩) n cap] w fun e w'=>e=.returned (.tuple #[.agg #[.int .i64 op,.bool r,.int .i64 ((c1.toNat:Int) % 16),.int .i64 S',.int .i64 O',.int .i64 V'],.int .i64 1,.int .i64 0])∧Below w.heap.size w w':=by
 have HT:=Lib.hid (fun (W:World)=>rslots_at op f 1 W hf hs)
 have HFX:=Lib.hid (fun (W:World)=>rfixed_at op sr' of' im' W e1 e2 e3)
 clear e1 e2 e3
 have HC:=Lib.hid (fun W=>rchk_is (Ix.mk op r ((c1.toNat:Int) % 16) S' O' V') 0 W hfit hR)
 clear hR hfit
 clear hf hs
 have S:=TwoS.start w
 have h8:=h.below S.hb
 have d0:=h8.a0
 have d1:=h8.a1
 obtain⟨s2,hs2⟩:∃ s2,(c2.toNat:Int)*1+(c3.toNat:Int)*256=s2:=⟨_,rfl⟩
 obtain⟨s4,hs4⟩:∃ s4,(c4.toNat:Int)*1+(c5.toNat:Int)*256+(c6.toNat:Int)*65536+(c7.toNat:Int)*16777216=s4:=⟨_,rfl⟩
 have HG2:=Lib.hid (fun (W:World) (hb:Below w.heap.size w W)=>rget_2 k o n cap c2 c3 s2 W (by omega) (h.below hb).a2 (h.below hb).a3 hs2)
 have HG4:=Lib.hid (fun (W:World) (hb:Below w.heap.size w W)=>rget_4 k o n cap c4 c5 c6 c7 s4 W (by omega) (h.below hb).a4 (h.below hb).a5 (h.below hb).a6 (h.below hb).a7 hs4)
 have HX2:=Lib.hid (fun (W:World)=>rext_is s2 16 off W (hs2 ▸ (sum2 c2 c3).1) (hs2 ▸ (sum2 c2 c3).2) (by decide) (hs2 ▸ ho))
 have HX4:=Lib.hid (fun (W:World)=>rext_is s4 32 imm W (hs4 ▸ (sum4 c4 c5 c6 c7).1) (hs4 ▸ (sum4 c4 c5 c6 c7).2) (by decide) (hs4 ▸ hi))
 have HD:=Lib.hid (fun (W:World)=>rident_at (c0.toNat:Int) ((c1.toNat:Int) / 16) off imm op r ok W hid)
 have n8:¬ (n:Int)<8:=by omega
 have n0:0<n:=by omega
 have n1:1<n:=by omega
 have n0':(0:Int)<(n:Int):=by omega
 have n1':(1:Int)<(n:Int):=by omega
 have b1:=c1.toNat_lt
 clear h ho hi hid hn h8 hs2 hs4
 go_enter Tryz.func38,Tryz.ntmps38
 obtain⟨y0,y1,y2,y3,y4,y5⟩:=cells6 S.hz
 go_wp2_with (first|(go_at_call 71;((with_reducible refine (HG2.out _ S.hb).mono ?_);rintro e w1 ⟨rfl,rfl⟩))|(go_at_call 71;((with_reducible refine (HG4.out _ S.hb).mono ?_);rintro e w1 ⟨rfl,rfl⟩))|(go_at_call 74;((with_reducible refine (HX2.out _).mono ?_);rintro e w1 ⟨rfl,rfl⟩))|(go_at_call 74;((with_reducible refine (HX4.out _).mono ?_);rintro e w1 ⟨rfl,rfl⟩))|(go_at_call 75;((with_reducible refine (HD.out _).mono ?_);rintro e w2 ⟨rfl,b2⟩;replace S:=S.below b2;clear y0 y1 y2 y3 y4 y5;obtain⟨y0,y1,y2,y3,y4,y5⟩:=cells6 S.hz))|(go_at_call 50;((with_reducible refine (HT.out _).mono ?_);rintro e w3 ⟨rfl,rfl⟩))|(go_at_call 76;((with_reducible refine (HFX.out _).mono ?_);rintro e w4 ⟨rfl,b4⟩;replace S:=S.below b4;clear y0 y1 y2 y3 y4 y5;obtain⟨y0,y1,y2,y3,y4,y5⟩:=cells6 S.hz))|(go_at_call 77;((with_reducible refine (HC.out _).mono ?_);rintro e w5 ⟨rfl,b5⟩;have hx:=row_up (heap_alloc_last w4 (.cells #[.int .i64 op,.bool r,.int .i64 ((c1.toNat:Int) % 16),.int .i64 S',.int .i64 O',.int .i64 V'] 45)) b5;replace S:=S.below (bch (bnew w4 (.cells #[.int .i64 op,.bool r,.int .i64 ((c1.toNat:Int) % 16),.int .i64 S',.int .i64 O',.int .i64 V'] 45)) b5);clear y0 y1 y2 y3 y4 y5;obtain⟨y0,y1,y2,y3,y4,y5⟩:=cells6 S.hz;obtain⟨z0,z1,z2,z3,z4,z5⟩:=cells6 hx))|(refine wpList_store_row rfl _ _ _ rfl w.heap.size #[.int .i64 op,.bool r,.int .i64 ((c1.toNat:Int) % 16),.int .i64 S',.int .i64 O',.int .i64 V'] rfl rfl 45 _ S.hg (by kernel_rfl) rfl (ins_one _ _ _ _ _ _) ?_;replace S:=S.set #[.int .i64 op,.bool r,.int .i64 ((c1.toNat:Int) % 16),.int .i64 S',.int .i64 O',.int .i64 V'];obtain⟨x0,x1,x2,x3,x4,x5⟩:=cells6 S.hg))
 exact bodyPost_ret (v:=.tuple #[.agg #[.int .i64 op,.bool r,.int .i64 ((c1.toNat:Int) % 16),.int .i64 S',.int .i64 O',.int .i64 V'],.int .i64 1,.int .i64 0]) (by simp [results,Tryz.results38,go_sem,x0,x1,x2,x3,x4,x5]) rfl ⟨rfl,S.hb⟩
theorem rdec_one_bad (k o n cap:Nat) (c0 c1 c2 c3 c4 c5 c6 c7:UInt8) (off imm:Int) (w:World) (h:Eight w k o c0 c1 c2 c3 c4 c5 c6 c7) (hn:8≤n)
  (ho:sx 16 ((c2.toNat:Int)*1+(c3.toNat:Int)*256)=off) (hi:sx 32 ((c4.toNat:Int)*1+(c5.toNat:Int)*256+(c6.toNat:Int)*65536+(c7.toNat:Int)*16777216)=imm)
  (op:Int) (r ok:Bool) (hid:idF (c0.toNat:Int) ((c1.toNat:Int) / 16) off imm 86 0=(op,r,ok)) (hok:ok=true) (f:Int) (hf:frm (ix op)=f) (hs:slo f=1) (g1:(c1.toNat:Int) % 16≤10) (g2:(c1.toNat:Int) / 16≤10) (sr' of' im':Int) (e1:sr (ix op)=sr') (e2:of (ix op)=of') (e3:im (ix op)=im') (bs:0≤sr'∧sr'≤10) (bo:-32768≤of'∧of'≤32767) (bi:-2147483648≤im'∧im'≤2147483647) (bo':-32768≤off∧off≤32767) (bi':-2147483648≤imm∧imm≤2147483647) (S' O' V':Int) (q1:(c1.toNat:Int) / 16-sr'=S') (q2:off-of'=O') (q3:imm-im'=V') (R:Int) (hR:(Ix.mk op r ((c1.toNat:Int) % 16) S' O' V').err=R) (hfit:(Ix.mk op r ((c1.toNat:Int) % 16) S' O' V').fits) (h0:(R != 0)=true) :
  Calls Tryz.prog 38 #[.slice (some ⟨k,o,none⟩) n cap] w fun e w'=>e=.returned (.tuple #[.agg #[.int .i64 0,.bool false,.int .i64 0,.int .i64 0,.int .i64 0,.int .i64 0],.int .i64 0,.int .i64 12])∧Below w.heap.size w w':=by
 have HT:=Lib.hid (fun (W:World)=>rslots_at op f 1 W hf hs)
 have HFX:=Lib.hid (fun (W:World)=>rfixed_at op sr' of' im' W e1 e2 e3)
 clear e1 e2 e3
 have HC:=Lib.hid (fun W=>rchk_is (Ix.mk op r ((c1.toNat:Int) % 16) S' O' V') R W hfit hR)
 clear hR hfit
 clear hf hs
 have S:=TwoS.start w
 have h8:=h.below S.hb
 have d0:=h8.a0
 have d1:=h8.a1
 obtain⟨s2,hs2⟩:∃ s2,(c2.toNat:Int)*1+(c3.toNat:Int)*256=s2:=⟨_,rfl⟩
 obtain⟨s4,hs4⟩:∃ s4,(c4.toNat:Int)*1+(c5.toNat:Int)*256+(c6.toNat:Int)*65536+(c7.toNat:Int)*16777216=s4:=⟨_,rfl⟩
 have HG2:=Lib.hid (fun (W:World) (hb:Below w.heap.size w W)=>rget_2 k o n cap c2 c3 s2 W (by omega) (h.below hb).a2 (h.below hb).a3 hs2)
 have HG4:=Lib.hid (fun (W:World) (hb:Below w.heap.size w W)=>rget_4 k o n cap c4 c5 c6 c7 s4 W (by omega) (h.below hb).a4 (h.below hb).a5 (h.below hb).a6 (h.below hb).a7 hs4)
 have HX2:=Lib.hid (fun (W:World)=>rext_is s2 16 off W (hs2 ▸ (sum2 c2 c3).1) (hs2 ▸ (sum2 c2 c3).2) (by decide) (hs2 ▸ ho))
 have HX4:=Lib.hid (fun (W:World)=>rext_is s4 32 imm W (hs4 ▸ (sum4 c4 c5 c6 c7).1) (hs4 ▸ (sum4 c4 c5 c6 c7).2) (by decide) (hs4 ▸ hi))
 have HD:=Lib.hid (fun (W:World)=>rident_at (c0.toNat:Int) ((c1.toNat:Int) / 16) off imm op r ok W hid)
 have n8:¬ (n:Int)<8:=by omega
 have n0:0<n:=by omega
 have n1:1<n:=by omega
 have n0':(0:Int)<(n:Int):=by omega
 have n1':(1:Int)<(n:Int):=by omega
 have b1:=c1.toNat_lt
 clear h ho hi hid hn h8 hs2 hs4
 go_enter Tryz.func38,Tryz.ntmps38
 obtain⟨y0,y1,y2,y3,y4,y5⟩:=cells6 S.hz
 go_wp2_with (first|(go_at_call 71;((with_reducible refine (HG2.out _ S.hb).mono ?_);rintro e w1 ⟨rfl,rfl⟩))|(go_at_call 71;((with_reducible refine (HG4.out _ S.hb).mono ?_);rintro e w1 ⟨rfl,rfl⟩))|(go_at_call 74;((with_reducible refine (HX2.out _).mono ?_);rintro e w1 ⟨rfl,rfl⟩))|(go_at_call 74;((with_reducible refine (HX4.out _).mono ?_);rintro e w1 ⟨rfl,rfl⟩))|(go_at_call 75;((with_reducible refine (HD.out _).mono ?_);rintro e w2 ⟨rfl,b2⟩;replace S:=S.below b2;clear y0 y1 y2 y3 y4 y5;obtain⟨y0,y1,y2,y3,y4,y5⟩:=cells6 S.hz))|(go_at_call 50;((with_reducible refine (HT.out _).mono ?_);rintro e w3 ⟨rfl,rfl⟩))|(go_at_call 76;((with_reducible refine (HFX.out _).mono ?_);rintro e w4 ⟨rfl,b4⟩;replace S:=S.below b4;clear y0 y1 y2 y3 y4 y5;obtain⟨y0,y1,y2,y3,y4,y5⟩:=cells6 S.hz))|(go_at_call 77;((with_reducible refine (HC.out _).mono ?_);rintro e w5 ⟨rfl,b5⟩;have hx:=row_up (heap_alloc_last w4 (.cells #[.int .i64 op,.bool r,.int .i64 ((c1.toNat:Int) % 16),.int .i64 S',.int .i64 O',.int .i64 V'] 45)) b5;replace S:=S.below (bch (bnew w4 (.cells #[.int .i64 op,.bool r,.int .i64 ((c1.toNat:Int) % 16),.int .i64 S',.int .i64 O',.int .i64 V'] 45)) b5);clear y0 y1 y2 y3 y4 y5;obtain⟨y0,y1,y2,y3,y4,y5⟩:=cells6 S.hz;obtain⟨z0,z1,z2,z3,z4,z5⟩:=cells6 hx))|(refine wpList_store_row rfl _ _ _ rfl w.heap.size #[.int .i64 0,.bool false,.int .i64 0,.int .i64 0,.int .i64 0,.int .i64 0] rfl rfl 45 _ S.hg (by kernel_rfl) rfl (ins_one _ _ _ _ _ _) ?_;replace S:=S.set #[.int .i64 0,.bool false,.int .i64 0,.int .i64 0,.int .i64 0,.int .i64 0];obtain⟨x0,x1,x2,x3,x4,x5⟩:=cells6 S.hg))
 exact bodyPost_ret (v:=.tuple #[.agg #[.int .i64 0,.bool false,.int .i64 0,.int .i64 0,.int .i64 0,.int .i64 0],.int .i64 0,.int .i64 12]) (by simp [results,Tryz.results38,go_sem,x0,x1,x2,x3,x4,x5]) rfl ⟨rfl,S.hb⟩
theorem rdec_two_nz (k o n cap:Nat) (c0 c1 c2 c3 c4 c5 c6 c7:UInt8) (off imm:Int) (w:World) (h:Eight w k o c0 c1 c2 c3 c4 c5 c6 c7) (hn:8≤n)
  (ho:sx 16 ((c2.toNat:Int)*1+(c3.toNat:Int)*256)=off) (hi:sx 32 ((c4.toNat:Int)*1+(c5.toNat:Int)*256+(c6.toNat:Int)*65536+(c7.toNat:Int)*16777216)=imm)
  (op:Int) (r ok:Bool) (hid:idF (c0.toNat:Int) ((c1.toNat:Int) / 16) off imm 86 0=(op,r,ok)) (hok:ok=true) (f:Int) (hf:frm (ix op)=f) (hs:slo f=2) (g1:(c1.toNat:Int) % 16≤10) (g2:(c1.toNat:Int) / 16≤10) (sr' of' im':Int) (e1:sr (ix op)=sr') (e2:of (ix op)=of') (e3:im (ix op)=im') (bs:0≤sr'∧sr'≤10) (bo:-32768≤of'∧of'≤32767) (bi:-2147483648≤im'∧im'≤2147483647) (bo':-32768≤off∧off≤32767) (bi':-2147483648≤imm∧imm≤2147483647) (S' O' V':Int) (q1:(c1.toNat:Int) / 16-sr'=S') (q2:off-of'=O') (q3:imm-im'=V') (h16:16≤n) (c8 c9 c10 c11 c12 c13 c14 c15:UInt8) (h8':∀ W:World,Below w.heap.size w W→W.cell? ⟨k,o+8,none⟩=some (.int .u8 (c8.toNat:Int))∧W.cell? ⟨k,o+9,none⟩=some (.int .u8 (c9.toNat:Int))∧W.cell? ⟨k,o+10,none⟩=some (.int .u8 (c10.toNat:Int))∧W.cell? ⟨k,o+11,none⟩=some (.int .u8 (c11.toNat:Int))∧W.cell? ⟨k,o+12,none⟩=some (.int .u8 (c12.toNat:Int))∧W.cell? ⟨k,o+13,none⟩=some (.int .u8 (c13.toNat:Int))∧W.cell? ⟨k,o+14,none⟩=some (.int .u8 (c14.toNat:Int))∧W.cell? ⟨k,o+15,none⟩=some (.int .u8 (c15.toNat:Int))) (s8 s12:Int) (hs8:(c8.toNat:Int)*1+(c9.toNat:Int)*256+(c10.toNat:Int)*65536+(c11.toNat:Int)*16777216=s8) (hs12:(c12.toNat:Int)*1+(c13.toNat:Int)*256+(c14.toNat:Int)*65536+(c15.toNat:Int)*16777216=s12) (h0:(s8 != 0)=true) :
  Calls Tryz.prog 38 #[.slice (some ⟨k,o,none⟩) n cap] w fun e w'=>e=.returned (.tuple #[.agg #[.int .i64 0,.bool false,.int .i64 0,.int .i64 0,.int .i64 0,.int .i64 0],.int .i64 0,.int .i64 12])∧Below w.heap.size w w':=by
 have HT:=Lib.hid (fun (W:World)=>rslots_at op f 2 W hf hs)
 have HFX:=Lib.hid (fun (W:World)=>rfixed_at op sr' of' im' W e1 e2 e3)
 clear e1 e2 e3
 have HG8:=Lib.hid (fun (W:World) (hb:Below w.heap.size w W)=>rget_8 k o n cap c8 c9 c10 c11 s8 W (by omega) (h8' W hb).1 (h8' W hb).2.1 (h8' W hb).2.2.1 (h8' W hb).2.2.2.1 hs8)
 have HG12:=Lib.hid (fun (W:World) (hb:Below w.heap.size w W)=>rget_12 k o n cap c12 c13 c14 c15 s12 W (by omega) (h8' W hb).2.2.2.2.1 (h8' W hb).2.2.2.2.2.1 (h8' W hb).2.2.2.2.2.2.1 (h8' W hb).2.2.2.2.2.2.2 hs12)
 have n16:¬ (n:Int)<16:=by omega
 clear h8' hs8 hs12
 clear hf hs
 have S:=TwoS.start w
 have h8:=h.below S.hb
 have d0:=h8.a0
 have d1:=h8.a1
 obtain⟨s2,hs2⟩:∃ s2,(c2.toNat:Int)*1+(c3.toNat:Int)*256=s2:=⟨_,rfl⟩
 obtain⟨s4,hs4⟩:∃ s4,(c4.toNat:Int)*1+(c5.toNat:Int)*256+(c6.toNat:Int)*65536+(c7.toNat:Int)*16777216=s4:=⟨_,rfl⟩
 have HG2:=Lib.hid (fun (W:World) (hb:Below w.heap.size w W)=>rget_2 k o n cap c2 c3 s2 W (by omega) (h.below hb).a2 (h.below hb).a3 hs2)
 have HG4:=Lib.hid (fun (W:World) (hb:Below w.heap.size w W)=>rget_4 k o n cap c4 c5 c6 c7 s4 W (by omega) (h.below hb).a4 (h.below hb).a5 (h.below hb).a6 (h.below hb).a7 hs4)
 have HX2:=Lib.hid (fun (W:World)=>rext_is s2 16 off W (hs2 ▸ (sum2 c2 c3).1) (hs2 ▸ (sum2 c2 c3).2) (by decide) (hs2 ▸ ho))
 have HX4:=Lib.hid (fun (W:World)=>rext_is s4 32 imm W (hs4 ▸ (sum4 c4 c5 c6 c7).1) (hs4 ▸ (sum4 c4 c5 c6 c7).2) (by decide) (hs4 ▸ hi))
 have HD:=Lib.hid (fun (W:World)=>rident_at (c0.toNat:Int) ((c1.toNat:Int) / 16) off imm op r ok W hid)
 have n8:¬ (n:Int)<8:=by omega
 have n0:0<n:=by omega
 have n1:1<n:=by omega
 have n0':(0:Int)<(n:Int):=by omega
 have n1':(1:Int)<(n:Int):=by omega
 have b1:=c1.toNat_lt
 clear h16 h ho hi hid hn h8 hs2 hs4
 go_enter Tryz.func38,Tryz.ntmps38
 obtain⟨y0,y1,y2,y3,y4,y5⟩:=cells6 S.hz
 go_wp2_with (first|(go_at_call 71;((with_reducible refine (HG2.out _ S.hb).mono ?_);rintro e w1 ⟨rfl,rfl⟩))|(go_at_call 71;((with_reducible refine (HG4.out _ S.hb).mono ?_);rintro e w1 ⟨rfl,rfl⟩))|(go_at_call 74;((with_reducible refine (HX2.out _).mono ?_);rintro e w1 ⟨rfl,rfl⟩))|(go_at_call 74;((with_reducible refine (HX4.out _).mono ?_);rintro e w1 ⟨rfl,rfl⟩))|(go_at_call 75;((with_reducible refine (HD.out _).mono ?_);rintro e w2 ⟨rfl,b2⟩;replace S:=S.below b2;clear y0 y1 y2 y3 y4 y5;obtain⟨y0,y1,y2,y3,y4,y5⟩:=cells6 S.hz))|(go_at_call 50;((with_reducible refine (HT.out _).mono ?_);rintro e w3 ⟨rfl,rfl⟩))|(go_at_call 76;((with_reducible refine (HFX.out _).mono ?_);rintro e w4 ⟨rfl,b4⟩;replace S:=S.below b4;clear y0 y1 y2 y3 y4 y5;obtain⟨y0,y1,y2,y3,y4,y5⟩:=cells6 S.hz))|(go_at_call 71;((with_reducible refine (HG8.out _ (S.below (bnew w4 (.cells #[.int .i64 op,.bool r,.int .i64 ((c1.toNat:Int) % 16),.int .i64 S',.int .i64 O',.int .i64 V'] 45))).hb).mono ?_);rintro e w6 ⟨rfl,hw6⟩;have hgx:=S.size;replace S:=S.below (bnew w4 (.cells #[.int .i64 op,.bool r,.int .i64 ((c1.toNat:Int) % 16),.int .i64 S',.int .i64 O',.int .i64 V'] 45));have hx:=heap_alloc_last w4 (.cells #[.int .i64 op,.bool r,.int .i64 ((c1.toNat:Int) % 16),.int .i64 S',.int .i64 O',.int .i64 V'] 45);rw [hw6] at S hx;clear hw6;obtain⟨gx,hg'⟩:∃ gx,gx=w4.heap.size:=⟨_,rfl⟩;rw [← hg'] at hx hgx ⊢;clear hg' y0 y1 y2 y3 y4 y5;obtain⟨y0,y1,y2,y3,y4,y5⟩:=cells6 S.hz;obtain⟨z0,z1,z2,z3,z4,z5⟩:=cells6 hx))|(refine wpList_store_row rfl _ _ _ rfl w.heap.size #[.int .i64 0,.bool false,.int .i64 0,.int .i64 0,.int .i64 0,.int .i64 0] rfl rfl 45 _ S.hg (by kernel_rfl) rfl (ins_one _ _ _ _ _ _) ?_;replace S:=S.set #[.int .i64 0,.bool false,.int .i64 0,.int .i64 0,.int .i64 0,.int .i64 0];obtain⟨x0,x1,x2,x3,x4,x5⟩:=cells6 S.hg))
 exact bodyPost_ret (v:=.tuple #[.agg #[.int .i64 0,.bool false,.int .i64 0,.int .i64 0,.int .i64 0,.int .i64 0],.int .i64 0,.int .i64 12]) (by simp [results,Tryz.results38,go_sem,x0,x1,x2,x3,x4,x5]) rfl ⟨rfl,S.hb⟩
theorem rdec_two (k o n cap:Nat) (c0 c1 c2 c3 c4 c5 c6 c7:UInt8) (off imm:Int) (w:World) (h:Eight w k o c0 c1 c2 c3 c4 c5 c6 c7) (hn:8≤n)
  (ho:sx 16 ((c2.toNat:Int)*1+(c3.toNat:Int)*256)=off) (hi:sx 32 ((c4.toNat:Int)*1+(c5.toNat:Int)*256+(c6.toNat:Int)*65536+(c7.toNat:Int)*16777216)=imm)
  (op:Int) (r ok:Bool) (hid:idF (c0.toNat:Int) ((c1.toNat:Int) / 16) off imm 86 0=(op,r,ok)) (hok:ok=true) (f:Int) (hf:frm (ix op)=f) (hs:slo f=2) (g1:(c1.toNat:Int) % 16≤10) (g2:(c1.toNat:Int) / 16≤10) (sr' of' im':Int) (e1:sr (ix op)=sr') (e2:of (ix op)=of') (e3:im (ix op)=im') (bs:0≤sr'∧sr'≤10) (bo:-32768≤of'∧of'≤32767) (bi:-2147483648≤im'∧im'≤2147483647) (bo':-32768≤off∧off≤32767) (bi':-2147483648≤imm∧imm≤2147483647) (S' O' V':Int) (q1:(c1.toNat:Int) / 16-sr'=S') (q2:off-of'=O') (q3:imm-im'=V') (h16:16≤n) (c8 c9 c10 c11 c12 c13 c14 c15:UInt8) (h8':∀ W:World,Below w.heap.size w W→W.cell? ⟨k,o+8,none⟩=some (.int .u8 (c8.toNat:Int))∧W.cell? ⟨k,o+9,none⟩=some (.int .u8 (c9.toNat:Int))∧W.cell? ⟨k,o+10,none⟩=some (.int .u8 (c10.toNat:Int))∧W.cell? ⟨k,o+11,none⟩=some (.int .u8 (c11.toNat:Int))∧W.cell? ⟨k,o+12,none⟩=some (.int .u8 (c12.toNat:Int))∧W.cell? ⟨k,o+13,none⟩=some (.int .u8 (c13.toNat:Int))∧W.cell? ⟨k,o+14,none⟩=some (.int .u8 (c14.toNat:Int))∧W.cell? ⟨k,o+15,none⟩=some (.int .u8 (c15.toNat:Int))) (s12:Int) (hs8:(c8.toNat:Int)*1+(c9.toNat:Int)*256+(c10.toNat:Int)*65536+(c11.toNat:Int)*16777216=0) (hs12:(c12.toNat:Int)*1+(c13.toNat:Int)*256+(c14.toNat:Int)*65536+(c15.toNat:Int)*16777216=s12) (V2:Int) (hV:wrap64 (IntKind.u64.wrap (IntKind.u64.wrap (s12*4294967296)+((c4.toNat:Int)*1+(c5.toNat:Int)*256+(c6.toNat:Int)*65536+(c7.toNat:Int)*16777216)))=V2) (hR:(Ix.mk op r ((c1.toNat:Int) % 16) S' O' V2).err=0) (hfit:(Ix.mk op r ((c1.toNat:Int) % 16) S' O' V2).fits) :
  Calls Tryz.prog 38 #[.slice (some ⟨k,o,none⟩) n cap] w fun e w'=>e=.returned (.tuple #[.agg #[.int .i64 op,.bool r,.int .i64 ((c1.toNat:Int) % 16),.int .i64 S',.int .i64 O',.int .i64 V2],.int .i64 2,.int .i64 0])∧Below w.heap.size w w':=by
 have HT:=Lib.hid (fun (W:World)=>rslots_at op f 2 W hf hs)
 have HFX:=Lib.hid (fun (W:World)=>rfixed_at op sr' of' im' W e1 e2 e3)
 clear e1 e2 e3
 have HG8:=Lib.hid (fun (W:World) (hb:Below w.heap.size w W)=>rget_8 k o n cap c8 c9 c10 c11 0 W (by omega) (h8' W hb).1 (h8' W hb).2.1 (h8' W hb).2.2.1 (h8' W hb).2.2.2.1 hs8)
 have HG12:=Lib.hid (fun (W:World) (hb:Below w.heap.size w W)=>rget_12 k o n cap c12 c13 c14 c15 s12 W (by omega) (h8' W hb).2.2.2.2.1 (h8' W hb).2.2.2.2.2.1 (h8' W hb).2.2.2.2.2.2.1 (h8' W hb).2.2.2.2.2.2.2 hs12)
 have n16:¬ (n:Int)<16:=by omega
 clear h8' hs8 hs12
 have HC:=Lib.hid (fun W=>rchk_is (Ix.mk op r ((c1.toNat:Int) % 16) S' O' V2) 0 W hfit hR)
 clear hR hfit
 clear hf hs
 have S:=TwoS.start w
 have h8:=h.below S.hb
 have d0:=h8.a0
 have d1:=h8.a1
 obtain⟨s2,hs2⟩:∃ s2,(c2.toNat:Int)*1+(c3.toNat:Int)*256=s2:=⟨_,rfl⟩
 obtain⟨s4,hs4⟩:∃ s4,(c4.toNat:Int)*1+(c5.toNat:Int)*256+(c6.toNat:Int)*65536+(c7.toNat:Int)*16777216=s4:=⟨_,rfl⟩
 have HG2:=Lib.hid (fun (W:World) (hb:Below w.heap.size w W)=>rget_2 k o n cap c2 c3 s2 W (by omega) (h.below hb).a2 (h.below hb).a3 hs2)
 have HG4:=Lib.hid (fun (W:World) (hb:Below w.heap.size w W)=>rget_4 k o n cap c4 c5 c6 c7 s4 W (by omega) (h.below hb).a4 (h.below hb).a5 (h.below hb).a6 (h.below hb).a7 hs4)
 have HX2:=Lib.hid (fun (W:World)=>rext_is s2 16 off W (hs2 ▸ (sum2 c2 c3).1) (hs2 ▸ (sum2 c2 c3).2) (by decide) (hs2 ▸ ho))
 have HX4:=Lib.hid (fun (W:World)=>rext_is s4 32 imm W (hs4 ▸ (sum4 c4 c5 c6 c7).1) (hs4 ▸ (sum4 c4 c5 c6 c7).2) (by decide) (hs4 ▸ hi))
 have HD:=Lib.hid (fun (W:World)=>rident_at (c0.toNat:Int) ((c1.toNat:Int) / 16) off imm op r ok W hid)
 have n8:¬ (n:Int)<8:=by omega
 have n0:0<n:=by omega
 have n1:1<n:=by omega
 have n0':(0:Int)<(n:Int):=by omega
 have n1':(1:Int)<(n:Int):=by omega
 have b1:=c1.toNat_lt
 rw [hs4] at hV
 clear h16 h ho hi hid hn h8 hs2 hs4
 go_enter Tryz.func38,Tryz.ntmps38
 obtain⟨y0,y1,y2,y3,y4,y5⟩:=cells6 S.hz
 go_upto_region 22 with (first|(go_at_call 71;((with_reducible refine (HG2.out _ S.hb).mono ?_);rintro e w1 ⟨rfl,rfl⟩))|(go_at_call 71;((with_reducible refine (HG4.out _ S.hb).mono ?_);rintro e w1 ⟨rfl,rfl⟩))|(go_at_call 74;((with_reducible refine (HX2.out _).mono ?_);rintro e w1 ⟨rfl,rfl⟩))|(go_at_call 74;((with_reducible refine (HX4.out _).mono ?_);rintro e w1 ⟨rfl,rfl⟩))|(go_at_call 75;((with_reducible refine (HD.out _).mono ?_);rintro e w2 ⟨rfl,b2⟩;replace S:=S.below b2;clear y0 y1 y2 y3 y4 y5;obtain⟨y0,y1,y2,y3,y4,y5⟩:=cells6 S.hz))|(go_at_call 50;((with_reducible refine (HT.out _).mono ?_);rintro e w3 ⟨rfl,rfl⟩))|(go_at_call 76;((with_reducible refine (HFX.out _).mono ?_);rintro e w4 ⟨rfl,b4⟩;replace S:=S.below b4;clear y0 y1 y2 y3 y4 y5;obtain⟨y0,y1,y2,y3,y4,y5⟩:=cells6 S.hz))|(go_at_call 71;((with_reducible refine (HG8.out _ (S.below (bnew w4 (.cells #[.int .i64 op,.bool r,.int .i64 ((c1.toNat:Int) % 16),.int .i64 S',.int .i64 O',.int .i64 V'] 45))).hb).mono ?_);rintro e w6 ⟨rfl,hw6⟩;have hgx:=S.size;replace S:=S.below (bnew w4 (.cells #[.int .i64 op,.bool r,.int .i64 ((c1.toNat:Int) % 16),.int .i64 S',.int .i64 O',.int .i64 V'] 45));have hx:=heap_alloc_last w4 (.cells #[.int .i64 op,.bool r,.int .i64 ((c1.toNat:Int) % 16),.int .i64 S',.int .i64 O',.int .i64 V'] 45);rw [hw6] at S hx;clear hw6;obtain⟨gx,hg'⟩:∃ gx,gx=w4.heap.size:=⟨_,rfl⟩;rw [← hg'] at hx hgx ⊢;clear hg' y0 y1 y2 y3 y4 y5;obtain⟨y0,y1,y2,y3,y4,y5⟩:=cells6 S.hz;obtain⟨z0,z1,z2,z3,z4,z5⟩:=cells6 hx;have f5:=frozen_all hx 5))|(go_at_call 71;((with_reducible refine (HG12.out _ S.hb).mono ?_);rintro e w1 ⟨rfl,rfl⟩)))
 rw [hV]
 replace S:=S.setc gx 5 (.int .i64 V2) hgx
 replace hx:=cells_set (k:=5) (v:=.int .i64 V2) hx
 clear z0 z1 z2 z3 z4 z5 f5 y0 y1 y2 y3 y4 y5 d0 d1
 generalize w6.setCell _ _=W4 at S hx ⊢
 replace hx:W4.heap[gx]?=some (.cells #[.int .i64 op,.bool r,.int .i64 ((c1.toNat:Int) % 16),.int .i64 S',.int .i64 O',.int .i64 V2] 45):=hx
 obtain⟨z0,z1,z2,z3,z4,z5⟩:=cells6 hx
 obtain⟨y0,y1,y2,y3,y4,y5⟩:=cells6 S.hz
 go_wp2_with (first|(go_at_call 77;((with_reducible refine (HC.out _).mono ?_);rintro e w5 ⟨rfl,b5⟩;replace hx:=row_up hx b5;replace S:=S.below b5;clear y0 y1 y2 y3 y4 y5 z0 z1 z2 z3 z4 z5;obtain⟨y0,y1,y2,y3,y4,y5⟩:=cells6 S.hz;obtain⟨z0,z1,z2,z3,z4,z5⟩:=cells6 hx))|(refine wpList_store_row rfl _ _ _ rfl w.heap.size #[.int .i64 op,.bool r,.int .i64 ((c1.toNat:Int) % 16),.int .i64 S',.int .i64 O',.int .i64 V2] rfl rfl 45 _ S.hg (by kernel_rfl) rfl (ins_one _ _ _ _ _ _) ?_;replace S:=S.set #[.int .i64 op,.bool r,.int .i64 ((c1.toNat:Int) % 16),.int .i64 S',.int .i64 O',.int .i64 V2];obtain⟨x0,x1,x2,x3,x4,x5⟩:=cells6 S.hg))
 exact bodyPost_ret (v:=.tuple #[.agg #[.int .i64 op,.bool r,.int .i64 ((c1.toNat:Int) % 16),.int .i64 S',.int .i64 O',.int .i64 V2],.int .i64 2,.int .i64 0]) (by simp [results,Tryz.results38,go_sem,x0,x1,x2,x3,x4,x5]) rfl ⟨rfl,S.hb⟩
theorem rdec_two_bad (k o n cap:Nat) (c0 c1 c2 c3 c4 c5 c6 c7:UInt8) (off imm:Int) (w:World) (h:Eight w k o c0 c1 c2 c3 c4 c5 c6 c7) (hn:8≤n)
  (ho:sx 16 ((c2.toNat:Int)*1+(c3.toNat:Int)*256)=off) (hi:sx 32 ((c4.toNat:Int)*1+(c5.toNat:Int)*256+(c6.toNat:Int)*65536+(c7.toNat:Int)*16777216)=imm)
  (op:Int) (r ok:Bool) (hid:idF (c0.toNat:Int) ((c1.toNat:Int) / 16) off imm 86 0=(op,r,ok)) (hok:ok=true) (f:Int) (hf:frm (ix op)=f) (hs:slo f=2) (g1:(c1.toNat:Int) % 16≤10) (g2:(c1.toNat:Int) / 16≤10) (sr' of' im':Int) (e1:sr (ix op)=sr') (e2:of (ix op)=of') (e3:im (ix op)=im') (bs:0≤sr'∧sr'≤10) (bo:-32768≤of'∧of'≤32767) (bi:-2147483648≤im'∧im'≤2147483647) (bo':-32768≤off∧off≤32767) (bi':-2147483648≤imm∧imm≤2147483647) (S' O' V':Int) (q1:(c1.toNat:Int) / 16-sr'=S') (q2:off-of'=O') (q3:imm-im'=V') (h16:16≤n) (c8 c9 c10 c11 c12 c13 c14 c15:UInt8) (h8':∀ W:World,Below w.heap.size w W→W.cell? ⟨k,o+8,none⟩=some (.int .u8 (c8.toNat:Int))∧W.cell? ⟨k,o+9,none⟩=some (.int .u8 (c9.toNat:Int))∧W.cell? ⟨k,o+10,none⟩=some (.int .u8 (c10.toNat:Int))∧W.cell? ⟨k,o+11,none⟩=some (.int .u8 (c11.toNat:Int))∧W.cell? ⟨k,o+12,none⟩=some (.int .u8 (c12.toNat:Int))∧W.cell? ⟨k,o+13,none⟩=some (.int .u8 (c13.toNat:Int))∧W.cell? ⟨k,o+14,none⟩=some (.int .u8 (c14.toNat:Int))∧W.cell? ⟨k,o+15,none⟩=some (.int .u8 (c15.toNat:Int))) (s12:Int) (hs8:(c8.toNat:Int)*1+(c9.toNat:Int)*256+(c10.toNat:Int)*65536+(c11.toNat:Int)*16777216=0) (hs12:(c12.toNat:Int)*1+(c13.toNat:Int)*256+(c14.toNat:Int)*65536+(c15.toNat:Int)*16777216=s12) (V2:Int) (hV:wrap64 (IntKind.u64.wrap (IntKind.u64.wrap (s12*4294967296)+((c4.toNat:Int)*1+(c5.toNat:Int)*256+(c6.toNat:Int)*65536+(c7.toNat:Int)*16777216)))=V2) (R:Int) (hR:(Ix.mk op r ((c1.toNat:Int) % 16) S' O' V2).err=R) (hfit:(Ix.mk op r ((c1.toNat:Int) % 16) S' O' V2).fits) (h0:(R != 0)=true) :
  Calls Tryz.prog 38 #[.slice (some ⟨k,o,none⟩) n cap] w fun e w'=>e=.returned (.tuple #[.agg #[.int .i64 0,.bool false,.int .i64 0,.int .i64 0,.int .i64 0,.int .i64 0],.int .i64 0,.int .i64 12])∧Below w.heap.size w w':=by
 have HT:=Lib.hid (fun (W:World)=>rslots_at op f 2 W hf hs)
 have HFX:=Lib.hid (fun (W:World)=>rfixed_at op sr' of' im' W e1 e2 e3)
 clear e1 e2 e3
 have HG8:=Lib.hid (fun (W:World) (hb:Below w.heap.size w W)=>rget_8 k o n cap c8 c9 c10 c11 0 W (by omega) (h8' W hb).1 (h8' W hb).2.1 (h8' W hb).2.2.1 (h8' W hb).2.2.2.1 hs8)
 have HG12:=Lib.hid (fun (W:World) (hb:Below w.heap.size w W)=>rget_12 k o n cap c12 c13 c14 c15 s12 W (by omega) (h8' W hb).2.2.2.2.1 (h8' W hb).2.2.2.2.2.1 (h8' W hb).2.2.2.2.2.2.1 (h8' W hb).2.2.2.2.2.2.2 hs12)
 have n16:¬ (n:Int)<16:=by omega
 clear h8' hs8 hs12
 have HC:=Lib.hid (fun W=>rchk_is (Ix.mk op r ((c1.toNat:Int) % 16) S' O' V2) R W hfit hR)
 clear hR hfit
 clear hf hs
 have S:=TwoS.start w
 have h8:=h.below S.hb
 have d0:=h8.a0
 have d1:=h8.a1
 obtain⟨s2,hs2⟩:∃ s2,(c2.toNat:Int)*1+(c3.toNat:Int)*256=s2:=⟨_,rfl⟩
 obtain⟨s4,hs4⟩:∃ s4,(c4.toNat:Int)*1+(c5.toNat:Int)*256+(c6.toNat:Int)*65536+(c7.toNat:Int)*16777216=s4:=⟨_,rfl⟩
 have HG2:=Lib.hid (fun (W:World) (hb:Below w.heap.size w W)=>rget_2 k o n cap c2 c3 s2 W (by omega) (h.below hb).a2 (h.below hb).a3 hs2)
 have HG4:=Lib.hid (fun (W:World) (hb:Below w.heap.size w W)=>rget_4 k o n cap c4 c5 c6 c7 s4 W (by omega) (h.below hb).a4 (h.below hb).a5 (h.below hb).a6 (h.below hb).a7 hs4)
 have HX2:=Lib.hid (fun (W:World)=>rext_is s2 16 off W (hs2 ▸ (sum2 c2 c3).1) (hs2 ▸ (sum2 c2 c3).2) (by decide) (hs2 ▸ ho))
 have HX4:=Lib.hid (fun (W:World)=>rext_is s4 32 imm W (hs4 ▸ (sum4 c4 c5 c6 c7).1) (hs4 ▸ (sum4 c4 c5 c6 c7).2) (by decide) (hs4 ▸ hi))
 have HD:=Lib.hid (fun (W:World)=>rident_at (c0.toNat:Int) ((c1.toNat:Int) / 16) off imm op r ok W hid)
 have n8:¬ (n:Int)<8:=by omega
 have n0:0<n:=by omega
 have n1:1<n:=by omega
 have n0':(0:Int)<(n:Int):=by omega
 have n1':(1:Int)<(n:Int):=by omega
 have b1:=c1.toNat_lt
 rw [hs4] at hV
 clear h16 h ho hi hid hn h8 hs2 hs4
 go_enter Tryz.func38,Tryz.ntmps38
 obtain⟨y0,y1,y2,y3,y4,y5⟩:=cells6 S.hz
 go_upto_region 22 with (first|(go_at_call 71;((with_reducible refine (HG2.out _ S.hb).mono ?_);rintro e w1 ⟨rfl,rfl⟩))|(go_at_call 71;((with_reducible refine (HG4.out _ S.hb).mono ?_);rintro e w1 ⟨rfl,rfl⟩))|(go_at_call 74;((with_reducible refine (HX2.out _).mono ?_);rintro e w1 ⟨rfl,rfl⟩))|(go_at_call 74;((with_reducible refine (HX4.out _).mono ?_);rintro e w1 ⟨rfl,rfl⟩))|(go_at_call 75;((with_reducible refine (HD.out _).mono ?_);rintro e w2 ⟨rfl,b2⟩;replace S:=S.below b2;clear y0 y1 y2 y3 y4 y5;obtain⟨y0,y1,y2,y3,y4,y5⟩:=cells6 S.hz))|(go_at_call 50;((with_reducible refine (HT.out _).mono ?_);rintro e w3 ⟨rfl,rfl⟩))|(go_at_call 76;((with_reducible refine (HFX.out _).mono ?_);rintro e w4 ⟨rfl,b4⟩;replace S:=S.below b4;clear y0 y1 y2 y3 y4 y5;obtain⟨y0,y1,y2,y3,y4,y5⟩:=cells6 S.hz))|(go_at_call 71;((with_reducible refine (HG8.out _ (S.below (bnew w4 (.cells #[.int .i64 op,.bool r,.int .i64 ((c1.toNat:Int) % 16),.int .i64 S',.int .i64 O',.int .i64 V'] 45))).hb).mono ?_);rintro e w6 ⟨rfl,hw6⟩;have hgx:=S.size;replace S:=S.below (bnew w4 (.cells #[.int .i64 op,.bool r,.int .i64 ((c1.toNat:Int) % 16),.int .i64 S',.int .i64 O',.int .i64 V'] 45));have hx:=heap_alloc_last w4 (.cells #[.int .i64 op,.bool r,.int .i64 ((c1.toNat:Int) % 16),.int .i64 S',.int .i64 O',.int .i64 V'] 45);rw [hw6] at S hx;clear hw6;obtain⟨gx,hg'⟩:∃ gx,gx=w4.heap.size:=⟨_,rfl⟩;rw [← hg'] at hx hgx ⊢;clear hg' y0 y1 y2 y3 y4 y5;obtain⟨y0,y1,y2,y3,y4,y5⟩:=cells6 S.hz;obtain⟨z0,z1,z2,z3,z4,z5⟩:=cells6 hx;have f5:=frozen_all hx 5))|(go_at_call 71;((with_reducible refine (HG12.out _ S.hb).mono ?_);rintro e w1 ⟨rfl,rfl⟩)))
 rw [hV]
 replace S:=S.setc gx 5 (.int .i64 V2) hgx
 replace hx:=cells_set (k:=5) (v:=.int .i64 V2) hx
 clear z0 z1 z2 z3 z4 z5 f5 y0 y1 y2 y3 y4 y5 d0 d1
 generalize w6.setCell _ _=W4 at S hx ⊢
 replace hx:W4.heap[gx]?=some (.cells #[.int .i64 op,.bool r,.int .i64 ((c1.toNat:Int) % 16),.int .i64 S',.int .i64 O',.int .i64 V2] 45):=hx
 obtain⟨z0,z1,z2,z3,z4,z5⟩:=cells6 hx
 obtain⟨y0,y1,y2,y3,y4,y5⟩:=cells6 S.hz
 go_wp2_with (first|(go_at_call 77;((with_reducible refine (HC.out _).mono ?_);rintro e w5 ⟨rfl,b5⟩;replace hx:=row_up hx b5;replace S:=S.below b5;clear y0 y1 y2 y3 y4 y5 z0 z1 z2 z3 z4 z5;obtain⟨y0,y1,y2,y3,y4,y5⟩:=cells6 S.hz;obtain⟨z0,z1,z2,z3,z4,z5⟩:=cells6 hx))|(refine wpList_store_row rfl _ _ _ rfl w.heap.size #[.int .i64 0,.bool false,.int .i64 0,.int .i64 0,.int .i64 0,.int .i64 0] rfl rfl 45 _ S.hg (by kernel_rfl) rfl (ins_one _ _ _ _ _ _) ?_;replace S:=S.set #[.int .i64 0,.bool false,.int .i64 0,.int .i64 0,.int .i64 0,.int .i64 0];obtain⟨x0,x1,x2,x3,x4,x5⟩:=cells6 S.hg))
 exact bodyPost_ret (v:=.tuple #[.agg #[.int .i64 0,.bool false,.int .i64 0,.int .i64 0,.int .i64 0,.int .i64 0],.int .i64 0,.int .i64 12]) (by simp [results,Tryz.results38,go_sem,x0,x1,x2,x3,x4,x5]) rfl ⟨rfl,S.hb⟩
end Go.Proofs.YtihiggnglmhggaaGreatDoor.L5
end
section
namespace Go.Proofs.YtihiggnglmhggaaGreatDoor.L5
open Go.RowKit L3 L1 L4
theorem v2_parts (a b V:Int) (a0:0≤a) (a1:a<4294967296) (b0:0≤b) (b1:b<4294967296) (h:wrap64 (IntKind.u64.wrap (IntKind.u64.wrap (a*4294967296)+b))=V) :
  V % 4294967296=b∧V / 4294967296 % 4294967296=a∧-9223372036854775808≤V∧V≤9223372036854775807:=by
 subst h
 rw [IntKind.wrap_u64,IntKind.wrap_u64]
 have e:(a*4294967296 % 18446744073709551616+b) % 18446744073709551616=a*4294967296+b:=by omega
 rw [e]
 unfold wrap64
 omega
theorem v2_eq (V z a b:Int) (h0:-9223372036854775808≤V) (h1:V≤9223372036854775807) (h2:-9223372036854775808≤z) (h3:z≤9223372036854775807) (e1:V % 4294967296=b) (e2:V / 4294967296 % 4294967296=a) (e3:z % 4294967296=b) (e4:z / 4294967296 % 4294967296=a):V=z:=by omega
theorem sum4' (a b c d:UInt8):(a.toNat:Int)*1+(b.toNat:Int)*256+(c.toNat:Int)*65536+(d.toNat:Int)*16777216<4294967296:=by
 have:=hi8 a
 have:=hi8 b
 have:=hi8 c
 have:=hi8 d
 omega
theorem sum2' (a b:UInt8):(a.toNat:Int)*1+(b.toNat:Int)*256<65536:=by
 have:=hi8 a
 have:=hi8 b
 omega
theorem rd_two {l:List UInt8} {op:Int} {r:Bool} (hid:idL l=(op,r,true)) (h16:16≤l.length) (hs:slo (frm (ix op))=2) (g1:((bt' l 1).toNat:Int) % 16≤10) (g2:((bt' l 1).toNat:Int) / 16≤10)
  (V2:Int) (hV:wrap64 (IntKind.u64.wrap (IntKind.u64.wrap ((((bt' l 12).toNat:Int)*1+((bt' l 13).toNat:Int)*256+((bt' l 14).toNat:Int)*65536+((bt' l 15).toNat:Int)*16777216)*4294967296)+(((bt' l 4).toNat:Int)*1+((bt' l 5).toNat:Int)*256+((bt' l 6).toNat:Int)*65536+((bt' l 7).toNat:Int)*16777216)))=V2)
  (x:Ix) (hx:x=⟨op,r,((bt' l 1).toNat:Int) % 16,((bt' l 1).toNat:Int) / 16-sr (ix op),offL l-of (ix op),V2⟩) :
  x.fits∧(((bt' l 8).toNat:Int)*1+((bt' l 9).toNat:Int)*256+((bt' l 10).toNat:Int)*65536+((bt' l 11).toNat:Int)*16777216=0→decF l=if x.err=0 then (x,2,0) else (.z,0,12))∧(((bt' l 8).toNat:Int)*1+((bt' l 9).toNat:Int)*256+((bt' l 10).toNat:Int)*65536+((bt' l 11).toNat:Int)*16777216≠0→decF l=(.z,0,12)):=by
 obtain⟨hj,hc⟩:=id_row hid
 have t1:=tab1 _ hj
 have t4:=(tab4 _ hj).2 (by rw [← frm_fm hj];exact hs)
 have b0:=hi8 (bt' l 0)
 have b1:=hi8 (bt' l 1)
 have b2:=sum2 (bt' l 2) (bt' l 3)
 have b2':=sum2' (bt' l 2) (bt' l 3)
 obtain⟨w1,w2,w3,w4⟩:=v2_parts _ _ V2 (sum4 (bt' l 12) (bt' l 13) (bt' l 14) (bt' l 15)).1 (sum4' (bt' l 12) (bt' l 13) (bt' l 14) (bt' l 15)) (sum4 (bt' l 4) (bt' l 5) (bt' l 6) (bt' l 7)).1 (sum4' (bt' l 4) (bt' l 5) (bt' l 6) (bt' l 7)) hV
 have hop:x.op=op:=by rw [hx]
 have hf:x.f=frm (ix op):=by rw [← hop];rfl
 have hfits:x.fits:=by
  rw [hx]
  exact⟨w3,w4⟩
 have win:(decF l).2.2=0→decF l=(rdL l,slo (frm (ix op)),0)→x=rdL l∧(rdL l).err=0∧((bt' l 8).toNat:Int)*1+((bt' l 9).toNat:Int)*256+((bt' l 10).toNat:Int)*65536+((bt' l 11).toNat:Int)*16777216=0:=by
  intro he hd
  obtain⟨s,q1,q2,q3,q4,q5,q6,q7⟩:=dec_good l he
  rw [hd] at q1 q5 q6 q7
  dsimp only at q1 q5 q6 q7
  obtain rfl:s=2:=by omega
  have yop:(rdL l).op=op:=by unfold rdL;rw [hid]
  have yreg:(rdL l).reg=r:=by unfold rdL;rw [hid]
  generalize rdL l=y at q5 q6 q7 yop yreg ⊢
  have hy:slo y.f=2:=by rw [show y.f=frm (ix op) by rw [← yop];rfl];exact hs
  have gp:=good_parts q5
  have gi:=q6
  rw [bytes_two y hy,take16 l h16] at q7
  obtain⟨-,p1,p2,p3,p4,p5⟩:=two_parts q7
  rw [yop] at p1 p2 p3 gp
  rw [byte_eq _ _ (by omega) (by omega)] at p1
  rw [le2_iff] at p2
  rw [le4_iff] at p3 p4 p5
  have p2':offL l=y.off+of (ix op):=sx16_at _ _ (by omega) (by omega) p2
  rw [t4.2.1,Int.add_zero] at p3
  have e5:V2=y.imm:=v2_eq V2 y.imm _ _ w3 w4 gi.1 gi.2 w1 w2 p3 p5
  have e1:((bt' l 1).toNat:Int) % 16=y.dst:=by omega
  have e2:((bt' l 1).toNat:Int) / 16-sr (ix y.op)=y.src:=by rw [yop];omega
  have e3:offL l-of (ix y.op)=y.off:=by rw [yop];omega
  refine⟨?_,q5,p4.symm.trans (by decide)⟩
  rw [hx,← yop,← yreg,e1,e2,e3,e5]
 refine⟨hfits,fun h0=>?_,fun h0=>?_⟩
 ·by_cases he:x.err=0
  ·rw [if_pos he]
   have hb:x.bytes=l.take 16:=by
    rw [bytes_two x (by rw [hf];exact hs),take16 l h16,hx]
    dsimp only
    rw [hc,(byte_eq _ _ b0.1 b0.2).2 rfl,(byte_eq _ (bt' l 1) (by omega) (by omega)).2 (by omega)]
    rw [(le2_iff _ (bt' l 2) (bt' l 3)).2 (by rw [show offL l-of (ix op)+of (ix op)=offL l by omega];exact sx16_m _ b2.1 b2')]
    rw [t4.2.1,Int.add_zero,(le4_iff _ (bt' l 4) (bt' l 5) (bt' l 6) (bt' l 7)).2 w1]
    rw [(le4_iff 0 (bt' l 8) (bt' l 9) (bt' l 10) (bt' l 11)).2 (by rw [h0];decide),(le4_iff _ (bt' l 12) (bt' l 13) (bt' l 14) (bt' l 15)).2 w2]
   have h:=dec_enc x (l.drop 16) he hfits
   rw [hb,List.take_append_drop,hf,hs] at h
   exact h
  ·rw [if_neg he]
   rcases decF_way hid (by omega) (fun _=>h16) g1 g2 with hd|hd
   ·obtain⟨a,b,-⟩:=win (by rw [hd]) hd
    exact absurd (a ▸ b) he
   ·exact hd
 ·rcases decF_way hid (by omega) (fun _=>h16) g1 g2 with hd|hd
  ·exact absurd (win (by rw [hd]) hd).2.2 h0
  ·exact hd
end Go.Proofs.YtihiggnglmhggaaGreatDoor.L5
end
section
namespace Go.Proofs.YtihiggnglmhggaaGreatDoor.L5
open Go.RowKit L3 L1 L4
theorem fit1 {a b c d e f i:Int} (h:-2147483648≤i∧i≤2147483647) (t:0≤a∧a≤1∧0≤b∧b≤64∧0≤c∧c≤64) {op:Int} {r:Bool}:(Ix.mk op r d e f (i-c)).fits:=by
 obtain⟨h1,h2⟩:=h
 obtain⟨-,-,-,-,h5,h6⟩:=t
 constructor <;> dsimp only <;> omega
theorem sub_of {a b c:Int} (h:a=b+c):a-c=b:=by omega
theorem immL_m (l:List UInt8):immL l % 4294967296=((bt' l 4).toNat:Int)*1+((bt' l 5).toNat:Int)*256+((bt' l 6).toNat:Int)*65536+((bt' l 7).toNat:Int)*16777216:=by
 unfold immL
 generalize hs:((bt' l 4).toNat:Int)*1+((bt' l 5).toNat:Int)*256+((bt' l 6).toNat:Int)*65536+((bt' l 7).toNat:Int)*16777216=s
 exact sx32_m s (hs ▸ (sum4 (bt' l 4) (bt' l 5) (bt' l 6) (bt' l 7)).1) (hs ▸ sum4' (bt' l 4) (bt' l 5) (bt' l 6) (bt' l 7))
theorem offL_m (l:List UInt8):offL l % 65536=((bt' l 2).toNat:Int)*1+((bt' l 3).toNat:Int)*256:=by
 unfold offL
 generalize hs:((bt' l 2).toNat:Int)*1+((bt' l 3).toNat:Int)*256=s
 exact sx16_m s (hs ▸ (sum2 (bt' l 2) (bt' l 3)).1) (hs ▸ sum2' (bt' l 2) (bt' l 3))
theorem immL_b (l:List UInt8):-2147483648≤immL l∧immL l≤2147483647:=by
 unfold immL
 generalize ((bt' l 4).toNat:Int)*1+((bt' l 5).toNat:Int)*256+((bt' l 6).toNat:Int)*65536+((bt' l 7).toNat:Int)*16777216=s
 exact sx32_b s
theorem immL_at (l:List UInt8) (z:Int) (h0:-2147483648≤z) (h1:z≤2147483647) (h:z % 4294967296=((bt' l 4).toNat:Int)*1+((bt' l 5).toNat:Int)*256+((bt' l 6).toNat:Int)*65536+((bt' l 7).toNat:Int)*16777216):immL l=z:=by
 unfold immL
 generalize ((bt' l 4).toNat:Int)*1+((bt' l 5).toNat:Int)*256+((bt' l 6).toNat:Int)*65536+((bt' l 7).toNat:Int)*16777216=s at h ⊢
 exact sx32_at s z h0 h1 h
theorem rd_one {l:List UInt8} {op:Int} {r:Bool} (hid:idL l=(op,r,true)) (h8:8≤l.length) (hs:slo (frm (ix op))=1) (g1:((bt' l 1).toNat:Int) % 16≤10) (g2:((bt' l 1).toNat:Int) / 16≤10)
  (x:Ix) (hx:x=⟨op,r,((bt' l 1).toNat:Int) % 16,((bt' l 1).toNat:Int) / 16-sr (ix op),offL l-of (ix op),immL l-im (ix op)⟩) :
  x.fits∧decF l=if x.err=0 then (x,1,0) else (.z,0,12):=by
 obtain⟨hj,hc⟩:=id_row hid
 have t1:=tab1 _ hj
 have b0:=hi8 (bt' l 0)
 have b1:=hi8 (bt' l 1)
 have hi':-2147483648≤immL l∧immL l≤2147483647:=immL_b l
 have hop:x.op=op:=by rw [hx]
 have hf:x.f=frm (ix op):=by rw [← hop];rfl
 have hfits:x.fits:=by
  rw [hx]
  exact fit1 hi' t1
 refine⟨hfits,?_⟩
 by_cases he:x.err=0
 ·rw [if_pos he]
  have hb:x.bytes=l.take 8:=by
   rw [bytes_one x (by rw [hf];exact hs),take8 l h8,hx]
   dsimp only
   rw [hc,(byte_eq _ _ b0.1 b0.2).2 rfl,(byte_eq _ (bt' l 1) (by omega) (by omega)).2 (by omega)]
   rw [(le2_iff _ (bt' l 2) (bt' l 3)).2 (by rw [Int.sub_add_cancel];exact offL_m l)]
   rw [(le4_iff _ (bt' l 4) (bt' l 5) (bt' l 6) (bt' l 7)).2 (by rw [Int.sub_add_cancel];exact immL_m l)]
  have h:=dec_enc x (l.drop 8) he hfits
  rw [hb,List.take_append_drop,hf,hs] at h
  exact h
 ·rw [if_neg he]
  rcases decF_way hid h8 (by omega) g1 g2 with hd|hd
  ·exfalso
   obtain⟨s,q1,q2,q3,q4,q5,q6,q7⟩:=dec_good l (by rw [hd])
   rw [hd] at q1 q5 q6 q7
   dsimp only at q1 q5 q6 q7
   obtain rfl:s=1:=by omega
   have yop:(rdL l).op=op:=by unfold rdL;rw [hid]
   have yreg:(rdL l).reg=r:=by unfold rdL;rw [hid]
   generalize rdL l=y at q5 q6 q7 yop yreg
   have hy:slo y.f=1:=by rw [show y.f=frm (ix op) by rw [← yop];rfl];exact hs
   have gp:=good_parts q5
   have gi:=good_imm q5 hy
   rw [bytes_one y hy,take8 l h8] at q7
   obtain⟨-,p1,p2,p3⟩:=one_parts q7
   rw [yop] at p1 p2 p3 gp gi
   rw [byte_eq _ _ (by omega) (by omega)] at p1
   rw [le2_iff] at p2
   rw [le4_iff] at p3
   have p2':offL l=y.off+of (ix op):=sx16_at _ _ (by omega) (by omega) p2
   have p3':immL l=y.imm+im (ix op):=immL_at l _ gi.1 gi.2 p3
   apply he
   have:x=y:=by
    rw [hx,← yop,← yreg]
    have e1:((bt' l 1).toNat:Int) % 16=y.dst:=by omega
    have e2:((bt' l 1).toNat:Int) / 16-sr (ix y.op)=y.src:=by rw [yop];omega
    have e3:offL l-of (ix y.op)=y.off:=by rw [yop];exact sub_of p2'
    have e4:immL l-im (ix y.op)=y.imm:=by rw [yop];exact sub_of p3'
    rw [e1,e2,e3,e4]
   rw [this]
   exact q5
  ·exact hd
end Go.Proofs.YtihiggnglmhggaaGreatDoor.L5
end
section
namespace Go.Proofs.YtihiggnglmhggaaGreatDoor.L5
open Go.RowKit L3 L1 L4
theorem sx16_b (x:Int):-32768≤sx 16 x∧sx 16 x≤32767:=by
 unfold sx
 simp
 omega
theorem rdec_any (v:Value) (l:List UInt8) (w:World) (hv:BsAt w v l) :
  Calls Tryz.prog 38 #[v] w fun e w'=>e=.returned (.tuple #[.agg (decF l).1.cs,.int .i64 (decF l).2.1,.int .i64 (decF l).2.2])∧Below w.heap.size w w':=by
 obtain⟨a,cap,rfl,-,-,hb⟩:=hv
 by_cases h8:l.length<8
 ·have hd:decF l=(.z,0,17):=by unfold decF;rw [if_pos h8]
  rw [hd]
  exact rdec_short a l.length cap w h8
 obtain⟨k,o,rfl,hB⟩:∃ k o,a=some ⟨k,o,none⟩∧Bytes w k o l:=by
  rcases hb with rfl|h
  ·simp at h8
  ·exact h
 have hE:=hB.eight (by omega)
 have hn:8≤l.length:=by omega
 obtain⟨⟨op,r,ok⟩,hid⟩:∃ i,idL l=i:=⟨_,rfl⟩
 cases ok
 ·have hd:decF l=(.z,0,6):=by unfold decF;rw [if_neg h8,hid,if_pos rfl]
  rw [hd]
  exact rdec_op k o l.length cap (bt' l 0) (bt' l 1) (bt' l 2) (bt' l 3) (bt' l 4) (bt' l 5) (bt' l 6) (bt' l 7) (offL l) (immL l) w hE hn rfl rfl op r false hid rfl
 have hfL:fL l=frm (ix op):=by unfold fL;rw [hid]
 obtain⟨hj,-⟩:=id_row hid
 have hs12:=(tab4 _ hj).1
 rw [← frm_fm hj] at hs12
 have t1:=tab1 _ hj
 obtain⟨f,hf⟩:∃ f,frm (ix op)=f:=⟨_,rfl⟩
 have u1:0≤sr (ix op)∧sr (ix op)≤10:=by omega
 have u2:-32768≤of (ix op)∧of (ix op)≤32767:=by omega
 have u3:-2147483648≤im (ix op)∧im (ix op)≤2147483647:=by omega
 rcases hs12 with hs|hs
 ·have hs':=hs
  rw [hf] at hs'
  by_cases hreg:11≤((bt' l 1).toNat:Int) % 16∨11≤((bt' l 1).toNat:Int) / 16
  ·have hd:decF l=(.z,0,5):=by
    unfold decF
    rw [if_neg h8,hid,hfL,if_neg (by simp),if_neg (by omega),if_pos hreg]
   rw [hd]
   exact rdec_reg1 k o l.length cap (bt' l 0) (bt' l 1) (bt' l 2) (bt' l 3) (bt' l 4) (bt' l 5) (bt' l 6) (bt' l 7) (offL l) (immL l) w hE hn rfl rfl op r true hid rfl f hf hs' hreg
  ·obtain⟨hfit,hd⟩:=rd_one hid hn hs (by omega) (by omega) _ rfl
   by_cases he:Ix.err ⟨op,r,((bt' l 1).toNat:Int) % 16,((bt' l 1).toNat:Int) / 16-sr (ix op),offL l-of (ix op),immL l-im (ix op)⟩=0
   ·rw [if_pos he] at hd
    rw [hd]
    exact rdec_one k o l.length cap (bt' l 0) (bt' l 1) (bt' l 2) (bt' l 3) (bt' l 4) (bt' l 5) (bt' l 6) (bt' l 7) (offL l) (immL l) w hE hn rfl rfl op r true hid rfl f hf hs' (by omega) (by omega) _ _ _ rfl rfl rfl u1 u2 u3 (sx16_b _) (sx32_b _) _ _ _ rfl rfl rfl he hfit
   ·rw [if_neg he] at hd
    rw [hd]
    exact rdec_one_bad k o l.length cap (bt' l 0) (bt' l 1) (bt' l 2) (bt' l 3) (bt' l 4) (bt' l 5) (bt' l 6) (bt' l 7) (offL l) (immL l) w hE hn rfl rfl op r true hid rfl f hf hs' (by omega) (by omega) _ _ _ rfl rfl rfl u1 u2 u3 (sx16_b _) (sx32_b _) _ _ _ rfl rfl rfl _ rfl hfit (by simpa using he)
 ·have hs':=hs
  rw [hf] at hs'
  by_cases h16:l.length<16
  ·have hd:decF l=(.z,0,17):=by
    unfold decF
    rw [if_neg h8,hid,hfL,if_neg (by simp),if_pos ⟨hs,h16⟩]
   rw [hd]
   exact rdec_short2 k o l.length cap (bt' l 0) (bt' l 1) (bt' l 2) (bt' l 3) (bt' l 4) (bt' l 5) (bt' l 6) (bt' l 7) (offL l) (immL l) w hE hn rfl rfl op r true hid rfl f hf hs' h16
  have hn2:16≤l.length:=by omega
  by_cases hreg:11≤((bt' l 1).toNat:Int) % 16∨11≤((bt' l 1).toNat:Int) / 16
  ·have hd:decF l=(.z,0,5):=by
    unfold decF
    rw [if_neg h8,hid,hfL,if_neg (by simp),if_neg (fun h=>h16 h.2),if_pos hreg]
   rw [hd]
   exact rdec_reg2 k o l.length cap (bt' l 0) (bt' l 1) (bt' l 2) (bt' l 3) (bt' l 4) (bt' l 5) (bt' l 6) (bt' l 7) (offL l) (immL l) w hE hn rfl rfl op r true hid rfl f hf hs' hn2 hreg
  ·have hcells:∀ W:World,Below w.heap.size w W→W.cell? ⟨k,o+8,none⟩=some (.int .u8 ((bt' l 8).toNat:Int))∧W.cell? ⟨k,o+9,none⟩=some (.int .u8 ((bt' l 9).toNat:Int))∧W.cell? ⟨k,o+10,none⟩=some (.int .u8 ((bt' l 10).toNat:Int))∧W.cell? ⟨k,o+11,none⟩=some (.int .u8 ((bt' l 11).toNat:Int))∧W.cell? ⟨k,o+12,none⟩=some (.int .u8 ((bt' l 12).toNat:Int))∧W.cell? ⟨k,o+13,none⟩=some (.int .u8 ((bt' l 13).toNat:Int))∧W.cell? ⟨k,o+14,none⟩=some (.int .u8 ((bt' l 14).toNat:Int))∧W.cell? ⟨k,o+15,none⟩=some (.int .u8 ((bt' l 15).toNat:Int)):=fun W hb =>
    have h:=hB.up hb
    ⟨h.get 8 (by omega),h.get 9 (by omega),h.get 10 (by omega),h.get 11 (by omega),h.get 12 (by omega),h.get 13 (by omega),h.get 14 (by omega),h.get 15 (by omega)⟩
   obtain⟨V2,hV⟩:∃ V2,wrap64 (IntKind.u64.wrap (IntKind.u64.wrap ((((bt' l 12).toNat:Int)*1+((bt' l 13).toNat:Int)*256+((bt' l 14).toNat:Int)*65536+((bt' l 15).toNat:Int)*16777216)*4294967296)+(((bt' l 4).toNat:Int)*1+((bt' l 5).toNat:Int)*256+((bt' l 6).toNat:Int)*65536+((bt' l 7).toNat:Int)*16777216)))=V2:=⟨_,rfl⟩
   obtain⟨hfit,hd0,hd1⟩:=rd_two hid hn2 hs (by omega) (by omega) V2 hV _ rfl
   by_cases hz:((bt' l 8).toNat:Int)*1+((bt' l 9).toNat:Int)*256+((bt' l 10).toNat:Int)*65536+((bt' l 11).toNat:Int)*16777216=0
   ·have hd:=hd0 hz
    by_cases he:Ix.err ⟨op,r,((bt' l 1).toNat:Int) % 16,((bt' l 1).toNat:Int) / 16-sr (ix op),offL l-of (ix op),V2⟩=0
    ·rw [if_pos he] at hd
     rw [hd]
     exact rdec_two k o l.length cap (bt' l 0) (bt' l 1) (bt' l 2) (bt' l 3) (bt' l 4) (bt' l 5) (bt' l 6) (bt' l 7) (offL l) (immL l) w hE hn rfl rfl op r true hid rfl f hf hs' (by omega) (by omega) _ _ _ rfl rfl rfl u1 u2 u3 (sx16_b _) (sx32_b _) _ _ _ rfl rfl rfl hn2 (bt' l 8) (bt' l 9) (bt' l 10) (bt' l 11) (bt' l 12) (bt' l 13) (bt' l 14) (bt' l 15) hcells _ hz rfl V2 hV he hfit
    ·rw [if_neg he] at hd
     rw [hd]
     exact rdec_two_bad k o l.length cap (bt' l 0) (bt' l 1) (bt' l 2) (bt' l 3) (bt' l 4) (bt' l 5) (bt' l 6) (bt' l 7) (offL l) (immL l) w hE hn rfl rfl op r true hid rfl f hf hs' (by omega) (by omega) _ _ _ rfl rfl rfl u1 u2 u3 (sx16_b _) (sx32_b _) _ _ _ rfl rfl rfl hn2 (bt' l 8) (bt' l 9) (bt' l 10) (bt' l 11) (bt' l 12) (bt' l 13) (bt' l 14) (bt' l 15) hcells _ hz rfl V2 hV _ rfl hfit (by simpa using he)
   ·have hd:=hd1 hz
    rw [hd]
    exact rdec_two_nz k o l.length cap (bt' l 0) (bt' l 1) (bt' l 2) (bt' l 3) (bt' l 4) (bt' l 5) (bt' l 6) (bt' l 7) (offL l) (immL l) w hE hn rfl rfl op r true hid rfl f hf hs' (by omega) (by omega) _ _ _ rfl rfl rfl u1 u2 u3 (sx16_b _) (sx32_b _) _ _ _ rfl rfl rfl hn2 (bt' l 8) (bt' l 9) (bt' l 10) (bt' l 11) (bt' l 12) (bt' l 13) (bt' l 14) (bt' l 15) hcells _ _ rfl rfl (by simpa using hz)
end Go.Proofs.YtihiggnglmhggaaGreatDoor.L5
end
section
namespace Go.Proofs.YtihiggnglmhggaaGreatDoor.L5
open Go.RowKit L3 L1 L4
theorem rdc_is (v:Value) (l:List UInt8) (x:Ix) (n er:Int) (w:World) (hv:BsAt w v l) (hd:decF l=(x,n,er)) :
  Calls Tryz.prog 38 #[v] w fun e w'=>e=.returned (.tuple #[.agg #[.int .i64 x.op,.bool x.reg,.int .i64 x.dst,.int .i64 x.src,.int .i64 x.off,.int .i64 x.imm],.int .i64 n,.int .i64 er])∧Below w.heap.size w w':=by
 have:=rdec_any v l w hv
 rw [hd] at this
 exact this
theorem rall_none (a:Option Addr) (cap fu:Nat) (w:World):Calls Tryz.prog 16 #[.slice a 0 cap] w fun e w'=>AllP w (rds fu 0 []) e w':=by
 go_enter Tryz.func16,Tryz.ntmps16
 go_wp2
 refine wp_loop_rounds 1 ?_
 rw [rounds_succ]
 go_wp2
 refine bodyPost_ret (v:=.tuple #[.slice none 0 0,.int .i64 0,.int .i64 0]) (by simp [results,Tryz.results16,go_sem]) rfl ⟨.inr ⟨?_,_,rfl,?_⟩,Below.refl _ _⟩
 ·rw [rds_nil];intro x hx;cases hx
 ·rw [rds_nil];exact World.ownsRow_nil _ _ _ _
theorem rall_some (k o n cap:Nat) (l:List UInt8) (fu:Nat) (hfu:n≤fu) (w:World) (hn:l.length=n) (hm:n≤100000) (hc:n≤cap) (hcm:n≤maxLen) (hB:Bytes w k o l) :
  Calls Tryz.prog 16 #[.slice (some ⟨k,o,none⟩) n cap] w fun e w'=>AllP w (rds fu 0 l) e w':=by
 obtain⟨i0,hi,hz0,hz1,hz2⟩:=info_parts Tryz.info45
 have HB:=Lib.hid hB
 have HN:=Lib.hid hn
 have HC:=Lib.hid hcm
 clear hB hn hcm
 go_enter Tryz.func16,Tryz.ntmps16
 go_wp2
 go_loopw [5,6] (fun b a wr=>∃ (pre:List Rdg) (s fu' m:Nat),a=.int .i64 (s:Int)∧8*s≤n∧m≤s∧wr.ownsRow w.heap.size 45 6 b m (insC pre)∧Hid (pre.length=m)∧Hid (rds fu 0 l=pre++rds fu' s (l.drop (8*s)))∧n≤8*s+fu'∧Hid (∀ x∈pre,x.e=0)∧Below w.heap.size w wr) (fun _ a _=>n-8*(RowKit.intOf a).toNat)
 case atStart=>exact⟨[],0,fu,0,rfl,by omega,by omega,World.ownsRow_nil _ _ _ _,Lib.hid rfl,Lib.hid (by simp),by omega,Lib.hid (by simp),Below.refl _ _⟩
 case round =>
  obtain⟨pre,s,fu',m,rfl,hs8,hms,hown,hP,hR,hf',hZ,hBw⟩:=hrel
  by_cases hlt:8*s<n
  ·have hlt':8*(s:Int)<(n:Int):=by omega
   have hsl:=sl_from k o n cap (8*s) (by omega) hc
   have e1:((8*s:Nat):Int)=8*(s:Int):=by omega
   rw [e1] at hsl
   have hlen:(l.drop (8*s)).length=n-8*s:=by rw [List.length_drop,HN.out]
   have hbs:BsAt wr (.slice (some ⟨k,if cap=8*s then o else o+8*s,none⟩) (n-8*s) (cap-8*s)) (l.drop (8*s)):=by
    refine⟨_,_,by rw [hlen],by rw [hlen];omega,by rw [hlen];have:=HC.out;omega,.inr ⟨k,o+8*s,by rw [if_neg (by omega)],fun j hj=>?_⟩⟩
    rw [hlen] at hj
    have:=(HB.out.up hBw) (8*s+j) (by rw [HN.out];omega)
    rw [List.getElem_drop,Nat.add_assoc]
    exact this
   have hne:l.drop (8*s)≠[]:=by
    intro h
    rw [h] at hlen
    simp at hlen
    omega
   obtain⟨fu1,rfl⟩:∃ q,fu'=q+1:=⟨fu'-1,by omega⟩
   obtain⟨⟨x,sl,er⟩,hd⟩:∃ d,decF (l.drop (8*s))=d:=⟨_,rfl⟩
   generalize (if cap=8*s then o else o+8*s)=o2 at hsl hbs
   have HD:=Lib.hid (rdc_is _ _ x sl er wr hbs hd)
   have hsz:=hBw.size
   by_cases he:er=0
   ·subst he
    obtain⟨s',hs',q1,q2,q8⟩:=decF_ok _ (by rw [hd])
    rw [hd] at hs'
    obtain rfl:sl=(s':Int):=hs'
    rw [hlen] at q8
    have hR2:rds fu 0 l=(pre++[⟨s,x,0⟩])++rds fu1 (s+s') (l.drop (8*(s+s'))):=by
     rw [hR.out,rds_go fu1 s s' _ hne (by rw [hd]) (by rw [hd]),hd,List.drop_drop,← Nat.mul_add]
     simp
    have HR2:=Lib.hid hR2
    clear hR2 hd hne hlen hbs hR
    go_upto_region 5 with (go_at_call 38;((with_reducible refine (HD.out).mono ?_);rintro e w1 ⟨rfl,hb1⟩))
    have hx:=heap_alloc_last w1 (.cells x.cs 45)
    have b1:=bch hb1 (bnew w1 (.cells x.cs 45))
    have B1:=bch hBw b1
    have hown1:=own_below hown b1
    obtain⟨g,hg⟩:∃ g,g=w1.heap.size:=⟨_,rfl⟩
    rw [← hg] at hx ⊢
    generalize w1.alloc (.cells _ 45)=W1 at hx b1 B1 hown1 ⊢
    clear hg hb1
    obtain⟨x0,x1,x2,x3,x4,x5⟩:=cells6 hx
    have hs1:=B1.size
    go_wp2_with (at_builtin;refine wpList_append_own _ rfl _ _ 38 rfl w.heap.size 45 i0 (.agg #[.int .i64 0,.bool false,.int .i64 0,.int .i64 0,.int .i64 0,.int .i64 0]) 6 48 Tryz.underlying38 hi hz0 hz1 hz2 rfl (by decide) _ m _ rfl (hown1.alloc _) ⟨W1.heap.size,0,none⟩ 1 1 x.cs.toList rfl rfl (World.news_of_block (cs:=x.cs) (t:=45) (fr:=(0,0)) (heap_alloc_last W1 _)) (by simp [Value.oneCell']) (by unfold maxLen;omega) (by omega) (by simp;omega) ?_;intro v' w3 hown3 hgrow3 _)
    go_roundw
    case rel =>
     refine⟨pre++[⟨s,x,0⟩],s+s',fu1,m+1,by go_num,by omega,by omega,?_,Lib.hid ?_,HR2,by omega,Lib.hid ?_,?_⟩
     ·rw [insC_snoc];exact hown3
     ·rw [List.length_append,hP.out];rfl
     ·intro y hy
      rcases List.mem_append.1 hy with h|h
      ·exact hZ.out y h
      ·rw [List.mem_singleton.1 h]
     ·exact (B1.alloc hs1 _).grown hgrow3 (by simp;omega) (own_base hown1)
    case measure=>simp [RowKit.intOf];omega
   ·have hen:(er != 0)=true:=by simpa using he
    have hR2:rds fu 0 l=pre++[⟨s,x,er⟩]:=by
     rw [hR.out,rds_bad fu1 s _ hne (by rw [hd];exact he),hd]
    have HR2:=Lib.hid hR2
    have HE:=Lib.hid he
    clear hR2 hd hne hlen hbs hR he
    go_wp2_with (go_at_call 38;((with_reducible refine (HD.out).mono ?_);rintro e w1 ⟨rfl,hb1⟩))
    refine bodyPost_ret (v:=.tuple #[.slice none 0 0,.int .i64 (s:Int),.int .i64 er]) (by simp [results,Tryz.results16,go_sem]) rfl ⟨.inl ⟨?_,?_⟩,bch hBw (bch hb1 (bnew w1 _))⟩
    ·rw [HR2.out,la_snoc];exact HE.out
    ·rw [HR2.out,la_snoc]
  ·have hge:¬ 8*(s:Int)<(n:Int):=by omega
   have hR2:rds fu 0 l=pre:=by
    rw [hR.out,List.drop_eq_nil_of_le (by rw [HN.out];omega),rds_nil,List.append_nil]
   have HR2:=Lib.hid hR2
   clear hR2 hR
   obtain⟨va,vc,rfl⟩:=owns_slice hown
   go_wp2
   refine bodyPost_ret (v:=.tuple #[.slice va m vc,.int .i64 0,.int .i64 0]) (by simp [results,Tryz.results16,go_sem]) rfl ⟨.inr ⟨?_,_,rfl,?_⟩,hBw⟩
   ·rw [HR2.out];exact hZ.out
   ·rw [HR2.out,hP.out];exact hown
theorem rall_at (v:Value) (l:List UInt8) (fu:Nat) (hfu:l.length≤fu) (hl:l.length≤100000) (w:World) (hv:BsAt w v l) :
  Calls Tryz.prog 16 #[v] w fun e w'=>AllP w (rds fu 0 l) e w':=by
 obtain⟨a,cap,rfl,h1,h2,h3⟩:=hv
 rcases h3 with rfl|⟨k,o,rfl,h⟩
 ·exact rall_none a cap fu w
 ·exact rall_some k o _ cap l fu hfu w rfl hl h1 h2 h
end Go.Proofs.YtihiggnglmhggaaGreatDoor.L5
end
section
namespace Go.Proofs.YtihiggnglmhggaaGreatDoor.L17
open Go.RowKit L3 L4 L12 L14
open L13 (Ob)
attribute [local go_sem] Oper.semAt_some
theorem rjumps_at (op:Int) (reg:Bool) (dst src off imm:Int) (v:Bool) (w:World) (hv:jmpF (frm (ix op))=v) :
  Calls Tryz.prog 33 #[.agg #[.int .i64 op,.bool reg,.int .i64 dst,.int .i64 src,.int .i64 off,.int .i64 imm]] w fun e w'=>e=.returned (.bool v)∧Below w.heap.size w w':=by
 obtain⟨f,hf⟩:∃ f,frm (ix op)=f:=⟨_,rfl⟩
 rw [hf] at hv
 have HF:=Lib.hid (fun W=>rform_at op f W hf)
 obtain⟨x,hx⟩:∃ x,(f==3)=x:=⟨_,rfl⟩
 obtain⟨y,hy⟩:∃ y,(f==4)=y:=⟨_,rfl⟩
 unfold jmpF at hv
 rw [hx,hy] at hv
 clear hf
 cases x <;> cases y
 all_goals
  simp at hv
  subst hv
  go_enter Tryz.func33,Tryz.ntmps33
  go_wp2_with (go_at_call 29;((with_reducible refine (HF.out _).mono ?_);rintro e w1 ⟨rfl,rfl⟩))
  go_ret
  exact⟨rfl,bnew _ _⟩
theorem keep1 {w W W':World} {b p:Nat} {v:Value} (hb:Below W.heap.size W W') (h:Below w.heap.size w W∧W.cell? ⟨b,p,none⟩=some v):Below w.heap.size w W'∧W'.cell? ⟨b,p,none⟩=some v:=⟨bch h.1 hb,cell_up hb h.2⟩
theorem rtarget_at (v:Value) (l:List L9.Ins) (i:Nat) (R:Int) (w:World) (hv:IsAt w v l) (hm:l.length≤100000) (hi:i<l.length) (ho:-1000000≤l[i].off∧l[i].off≤1000000) (hR:tgI l i=R) :
  Calls Tryz.prog 34 #[v,.int .i64 (i:Int)] w fun e w'=>e=.returned (.int .i64 R)∧Below w.heap.size w w':=by
 obtain⟨n,hn⟩:∃ n,l.length=n:=⟨_,rfl⟩
 have HV:=Lib.hid hv
 obtain⟨a,c,rfl,hc⟩:=is_form hn hv
 have hst:=stN_le l (i+1)
 obtain⟨t,ht⟩:∃ t,stN l (i+1)=t:=⟨_,rfl⟩
 have hil:i<n:=by omega
 obtain⟨b,o,rfl,hbl,hx⟩:=hc (by omega)
 obtain⟨y0,y1,y2,y3,y4,y5⟩:=hx i hi
 have HS:=Lib.hid (fun (W:World) (hW:Below w.heap.size w W)=>(by have:=rstart_at (.slice (some ⟨b,o,none⟩) n c) l (i+1) t W (hv.below hW) (by omega) (by omega) ht;rwa [show ((i+1:Nat):Int)=(i:Int)+1 by omega] at this:Calls Tryz.prog 30 #[.slice (some ⟨b,o,none⟩) n c,.int .i64 ((i:Int)+1)] W fun e w'=>e=.returned (.int .i64 (t:Int))∧W=w'))
 obtain⟨off,hoff⟩:∃ z,l[i].off=z:=⟨_,rfl⟩
 rw [hoff] at ho y4
 obtain⟨X,hX⟩:∃ X:Int,(t:Int)+off=X:=⟨_,rfl⟩
 have HA:=Lib.hid (fun (W:World) (hW:Below w.heap.size w W)=>rat_at (.slice (some ⟨b,o,none⟩) n c) l X R W (hv.below hW) (by omega) (by rw [← hR,tgI,atI_is hi,hoff,ht,hX]))
 have hw1:IntKind.i64.wrap ((i:Int)+1)=(i:Int)+1:=IntWalk.i64_in _ (by omega)
 have hw2:IntKind.i64.wrap ((t:Int)+off)=X:=by rw [← hX];exact IntWalk.i64_in _ (by omega)
 have Y:=And.intro (Below.refl w.heap.size w) y4
 have hnm:n≤100000:=by omega
 clear hn hv hc hst ht hx y0 y1 y2 y3 y5 hoff hX hR ho
 go_enter Tryz.func34,Tryz.ntmps34
 go_upto_region 1 with (fail)
 go_region_held3 (fun W=>Below w.heap.size w W∧W.cell? ⟨b,o+i*6+4,none⟩=some (.int .i64 off))
  (first|exact keep1 (Below.refl _ _).drew Y|exact keep1 (Below.refl _ _).drew (by assumption)|assumption)
  (first|(go_at_call 30;((with_reducible refine (HS.out _ (And.left (by assumption))).mono ?_);rintro e w9 ⟨rfl,rfl⟩))|(go_at_call 25;((with_reducible refine (HA.out _ (And.left (by assumption))).mono ?_);rintro e w9 ⟨rfl,rfl⟩)))
 all_goals
  rename_i hh
  go_wp2
  go_ret
  exact⟨rfl,hh.1⟩
theorem rrefers_at (v:Value) (l:List L9.Ins) (s:Int) (r:Bool) (w:World) (hv:IsAt w v l) (hm:l.length≤100000) (hR:rfB l s=r) :
  Calls Tryz.prog 31 #[v,.int .i64 s] w fun e w'=>e=.returned (.bool r)∧w=w':=by
 obtain⟨n,hn⟩:∃ n,l.length=n:=⟨_,rfl⟩
 obtain⟨q,hq⟩:∃ q,atN 0 0 l s=q:=⟨_,rfl⟩
 have HA:=Lib.hid (rat_at v l s q w hv (by omega) hq)
 have hge:=atN_ge l 0 0 s
 obtain⟨a,c,rfl,hc⟩:=is_form hn hv
 unfold rfB at hR
 rw [hq] at hge hR
 by_cases h0:0≤q
 ·obtain⟨i,rfl⟩:=Int.eq_ofNat_of_zero_le h0
  have hil:i<l.length:=by omega
  rw [Int.toNat_natCast,atI_is hil] at hR
  obtain⟨b,o,rfl,hbl,hx⟩:=hc (by omega)
  obtain⟨y0,y1,y2,y3,y4,y5⟩:=hx i hil
  obtain⟨x,hxx⟩:∃ x,l[i]=x:=⟨_,rfl⟩
  rw [hxx] at y0 y1 y2 y3 y4 y5 hR
  obtain⟨f,hf⟩:∃ f,frm (ix x.op)=f:=⟨_,rfl⟩
  have HF:=Lib.hid (fun W=>rform_at x.op f W hf)
  have hR':(f==11)=r:=by rw [← hf,← hR];simp [isRf];rfl
  rw [hn] at hil
  have hil':(i:Int)<(n:Int):=by omega
  clear hn hv hc hge hx hxx hf hR hq h0 hm y1 y2 y3 y4 y5
  go_enter Tryz.func31,Tryz.ntmps31
  go_wp2_with (first
   | (go_at_call 25;((with_reducible refine (HA.out).mono ?_);rintro e w1 ⟨rfl,rfl⟩))
   | (go_at_call 29;((with_reducible refine (HF.out _).mono ?_);rintro e w1 ⟨rfl,rfl⟩)))
  go_ret
  exact⟨rfl,rfl⟩
 ·have hr:r=false:=by rw [← hR];simp [h0]
  subst hr
  clear hn hv hc hge hR hq hm
  go_enter Tryz.func31,Tryz.ntmps31
  go_wp2_with (go_at_call 25;((with_reducible refine (HA.out).mono ?_);rintro e w1 ⟨rfl,rfl⟩))
  go_ret
  exact⟨rfl,rfl⟩
theorem hasR_step (r:List (Int × Int)) (j:Nat) (h:j<r.length) (s:Int):hasR (r.drop j) s=(r[j].1==s || hasR (r.drop (j+1)) s):=by
 unfold hasR
 rw [List.drop_eq_getElem_cons h,List.any_cons]
theorem rhas_at (a1 a2:Option Addr) (n1 c1 n2 c2:Nat) (vr:Value) (l:List (Int × Int)) (s:Int) (r:Bool) (w:World) (hv:L13.RoAt w vr l) (hm:l.length≤100000) (hR:hasR l s=r) :
  Calls Tryz.prog 32 #[.agg #[.slice a1 n1 c1,.slice a2 n2 c2,vr],.int .i64 s] w fun e w'=>e=.returned (.bool r)∧Below w.heap.size w w':=by
 obtain⟨n,hn⟩:∃ n,l.length=n:=⟨_,rfl⟩
 obtain⟨a,c,rfl,hc⟩:=L13.ro_form hn hv
 have HC:=Lib.hid hc
 have HN:=Lib.hid hn
 have HR:Hid (hasR (l.drop 0) s=r):=Lib.hid (by rw [List.drop_zero];exact hR)
 rw [hn] at hm
 have K0:=Lib.hid (heap_alloc_new w (.cells #[.slice a1 n1 c1,.slice a2 n2 c2,.slice a n c] 26))
 obtain⟨x0,x1,x2⟩:=L13.cells3 K0.out
 clear hn hv hc hR
 go_enter Tryz.func32,Tryz.ntmps32
 go_wp2
 go_loop [5] (fun i=>∃ j:Nat,j≤n∧i=.int .i64 (j:Int)∧Hid (hasR (l.drop j) s=r)) (fun i=>n-(RowKit.intOf i).toNat)
 case atStart=>exact⟨0,Nat.zero_le _,rfl,HR⟩
 case round =>
  obtain⟨j,hj,rfl,hI⟩:=hrel
  by_cases hlt:j<n
  ·have hjl:j<l.length:=by rw [HN.out];exact hlt
   obtain⟨b,of,rfl,hbl,hcc⟩:=HC.out (by omega)
   obtain⟨q0,q1⟩:=hcc j hjl
   have y0:=((bnew w (.cells #[.slice a1 n1 c1,.slice a2 n2 c2,.slice (some ⟨b,of,none⟩) n c] 26)).cell (p:=⟨b,of+j*2,none⟩) (by exact hbl)).trans q0
   have hst:=hasR_step l j hjl s
   rw [hI.out] at hst
   obtain⟨z,hz⟩:∃ z,l[j].1=z:=⟨_,rfl⟩
   rw [hz] at y0 hst
   obtain⟨e,he⟩:∃ e,(z==s)=e:=⟨_,rfl⟩
   rw [he] at hst
   have HST:=Lib.hid hst
   clear hcc q0 q1 hz hst
   cases e
   ·go_wp2
    go_round
    case rel=>exact⟨j+1,by omega,by go_num,Lib.hid (by rw [HST.out,Bool.false_or])⟩
    case measure=>simp [RowKit.intOf];omega
   ·go_wp2
    go_ret
    exact⟨by rw [HST.out,Bool.true_or];rfl,bnew _ _⟩
  ·obtain rfl:j=n:=by omega
   have HE:=Lib.hid (show r=false by rw [← hI.out,List.drop_of_length_le (by rw [HN.out];exact Nat.le_refl _)];rfl)
   go_wp2
   go_ret
   exact⟨by rw [HE.out];rfl,bnew _ _⟩
theorem prall_ok (v:Value) (c:List UInt8) (k:Nat) (w:World) (hv:L5.BsAt w v c) (hm:c.length≤100000) (h0:(L5.la (rdC c)).e=0) (hk:(inL c).length=k) :
  Calls Tryz.prog 16 #[v] w fun e w'=>(∃ a cp,e=.returned (.tuple #[.slice a k cp,.int .i64 0,.int .i64 0])∧IsAt w' (.slice a k cp) (inL c))∧Below w.heap.size w w':=by
 refine (L5.rall_at v c c.length (Nat.le_refl _) hm w hv).mono fun e w' h=>?_
 obtain⟨a,cp,he,hi,hb⟩:=allP_ok h h0
 have hk':(L5.rds c.length 0 c).length=k:=by rw [← hk,inL,List.length_map];rfl
 rw [hk'] at he hi
 refine⟨⟨a,cp,he,L13.in_is ?_⟩,hb⟩
 rw [inL_tI]
 exact hi
theorem prall_no (v:Value) (c:List UInt8) (w:World) (hv:L5.BsAt w v c) (hm:c.length≤100000) (h0:(L5.la (rdC c)).e≠0) :
  Calls Tryz.prog 16 #[v] w fun e w'=>e=.returned (.tuple #[.slice none 0 0,.int .i64 (((L5.la (rdC c)).at':Nat):Int),.int .i64 (L5.la (rdC c)).e])∧Below w.heap.size w w' :=
 (L5.rall_at v c c.length (Nat.le_refl _) hm w hv).mono fun _ _ h=>allP_no h h0
end Go.Proofs.YtihiggnglmhggaaGreatDoor.L17
end
section
namespace Go.Proofs.YtihiggnglmhggaaGreatDoor.L16
open Go.RowKit L14 L15
open L13 (Ob)
attribute [local go_sem] Oper.semAt_some
def NmP (l:List L9.Df) (n:Nat) (w:World) (e:Ending) (w':World):Prop:=(∃ a c,e=.returned (.slice a n c)∧w'.ownsRow w.heap.size 9 1 (.slice a n c) n ((nmL l).map eT))∧Below w.heap.size w w'
theorem st_of {w:World} {B n:Nat} {v:Value} {l:List L9.Df} (h:w.ownsRow B 9 1 v n ((nmL l).map eT)) (hn:l.length=n):L8.StAt w v (l.map (·.nm)):=by
 have hr:Rw eT w v (nmL l):=Rw.own (by rw [nmL_len,hn];exact h)
 obtain⟨a,c,rfl,-,-,h3⟩:=hr.form (show (nmL l).length=n by rw [nmL_len,hn])
 by_cases h0:n=0
 ·have hl:l=[]:=List.eq_nil_of_length_eq_zero (by omega)
  subst hl
  subst h0
  exact .inr ⟨rfl,a,c,rfl⟩
 ·obtain⟨b,o,rfl,hb,hc⟩:=h3 (by omega)
  refine .inl ⟨b,o,c,by rw [List.length_map,hn],hb,fun j hj=>?_⟩
  rw [List.length_map] at hj
  rw [hc j (by rw [nmL_len];exact hj)]
  simp [nmL,eT,mkB_of,List.getD,hj]
theorem rnames_at (vm vc vr:Value) (o:Ob) (n1:Nat) (w:World) (ho:OA w vm vc vr o) (hs:OS o) (hn1:o.maps.length=n1) :
  Calls Tryz.prog 63 #[.agg #[vm,vc,vr]] w (NmP o.maps n1 w):=by
 obtain⟨i0,hi,hz0,hz1,hz2⟩:=info_parts infoText
 obtain⟨n2,hn2⟩:∃ n,o.code.length=n:=⟨_,rfl⟩
 obtain⟨n3,hn3⟩:∃ n,o.rels.length=n:=⟨_,rfl⟩
 have hnl:(nmL o.maps).length=n1:=by rw [nmL_len,hn1]
 have hq1:=hs.m
 rw [hn1] at hq1
 obtain⟨a1,c1,rfl,hd⟩:=L10.df_form4 hn1 ho.m
 obtain⟨a2,c2,rfl,-⟩:=ho.c.form hn2
 obtain⟨a3,c3,rfl,-⟩:=L13.ro_form hn3 ho.r
 have HM:=Lib.hid hd
 have HN:=Lib.hid (And.intro hn1 hnl)
 have K0:=Lib.hid (heap_alloc_last w (.cells #[.slice a1 n1 c1,.slice a2 n2 c2,.slice a3 n3 c3] 26))
 have HB:=Lib.hid (bnew w (.cells #[.slice a1 n1 c1,.slice a2 n2 c2,.slice a3 n3 c3] 26))
 clear ho hs hn1 hn2 hn3 hd hnl
 go_enter Tryz.func63,Tryz.ntmps63
 go_upto_region 1 with (fail)
 obtain⟨k0,hk0⟩:∃ k,w.heap.size=k:=⟨_,rfl⟩
 rw [hk0] at K0 ⊢
 have HK0:=Lib.hid hk0
 generalize w.alloc (.cells #[.slice a1 n1 c1,.slice a2 n2 c2,.slice a3 n3 c3] 26)=W0 at K0 HB ⊢
 clear hk0
 go_wp2
 have HI:Hid (W0.ownsRow W0.heap.size 9 1 (.slice none 0 0) 0 (((nmL o.maps).take 0).map eT)∧Below W0.heap.size W0 W0):=Lib.hid ⟨World.ownsRow_nil _ _ _ _,Below.refl _ _⟩
 go_loopw [3,4] (fun nv q wr=>∃ j:Nat,j≤n1∧q=.int .i64 (j:Int)∧Hid (wr.ownsRow W0.heap.size 9 1 nv j (((nmL o.maps).take j).map eT)∧Below W0.heap.size W0 wr)) (fun _ q _=>n1-(RowKit.intOf q).toNat)
 case atStart=>exact⟨0,Nat.zero_le _,rfl,HI⟩
 case round =>
  obtain⟨j,hj,rfl,hI⟩:=hrel
  clear HI
  obtain⟨va,vc,rfl⟩:=owns_slice hI.out.1
  obtain⟨x0,x1,x2⟩:=L13.cells3 (L8.row_up K0.out hI.out.2)
  have lx:=World.block_lt_of_cell? _ _ x0
  simp only at lx
  by_cases hlt:j<n1
  ·have hjl:j<o.maps.length:=by rw [HN.out.1];exact hlt
   have hjn:j<(nmL o.maps).length:=by rw [HN.out.2];exact hlt
   obtain⟨bb,of,rfl,hbl,hcc⟩:=HM.out (by omega)
   have hBB:=bch HB.out hI.out.2
   have y0:=(hBB.cell (p:=⟨bb,of+j*4,none⟩) (by exact hbl)).trans (hcc j hjl).1
   have ly:=World.block_lt_of_cell? _ _ y0
   simp only at ly
   have hap:((nmL o.maps).take j).map eT++[.string o.maps[j].nm]=((nmL o.maps).take (j+1)).map eT:=by
    rw [take_snoc _ j hjn,List.map_append]
    simp [nmL,eT,mkB_of]
   have HAP:=Lib.hid hap
   obtain⟨nm,hd⟩:∃ d,o.maps[j].nm=d:=⟨_,rfl⟩
   rw [hd] at y0 HAP
   have hown:=hI.out.1
   have HBW:=Lib.hid hI.out.2
   have hsz:=HBW.out.size
   clear hcc hBB hap hd hI hjn
   go_wp2_with (at_builtin;refine wpList_append_own _ rfl _ _ 78 rfl W0.heap.size 9 i0 (.string ⟨#[]⟩) 1 16 Tryz.underlying78 hi hz0 hz1 hz2 rfl (by decide) _ j _ rfl (hown.alloc _) ⟨wr.heap.size,0,none⟩ 1 1 [.string nm] rfl rfl (World.news_of_block (cs:=#[.string nm]) (t:=9) (fr:=(0,0)) (heap_alloc_last wr _)) (by simp [Value.oneCell']) (by unfold maxLen;omega) (by omega) (by simp;omega) ?_;intro v' w3 hown3 hgrow3 _;have B3:=(HBW.out.alloc hsz (.cells #[.string nm] 9)).grown hgrow3 (by simp;omega) (own_base hown))
   go_roundw
   case rel=>exact⟨j+1,hlt,by go_num,Lib.hid ⟨by rw [← HAP.out];exact hown3,B3⟩⟩
   case measure=>simp [RowKit.intOf];omega
  ·obtain rfl:j=n1:=by omega
   have h1:=hI.out
   rw [List.take_of_length_le (by rw [HN.out.2];exact Nat.le_refl _)] at h1
   have HF:=Lib.hid (And.intro (own_weak h1.1 HB.out.size) (bch HB.out h1.2))
   clear hI h1
   go_wp2
   go_ret
   exact⟨⟨_,_,rfl,HF.out.1⟩,HF.out.2⟩
end Go.Proofs.YtihiggnglmhggaaGreatDoor.L16
end
section
namespace Go.Proofs.YtihiggnglmhggaaGreatDoor.L16
open Go.RowKit L14 L15
open L13 (Ob)
attribute [local go_sem] Oper.semAt_some
theorem rcheck16_at (vm vc vr:Value) (o:Ob) (R:Int) (w:World) (ho:OA w vm vc vr o) (hs:OS o) (hR:chE o=R) :
  Calls Tryz.prog 28 #[.agg #[vm,vc,vr]] w fun e w'=>e=.returned (.int .i64 R)∧Below w.heap.size w w':=by
 obtain⟨n1,hn1⟩:∃ n,o.maps.length=n:=⟨_,rfl⟩
 obtain⟨n2,hn2⟩:∃ n,o.code.length=n:=⟨_,rfl⟩
 obtain⟨n3,hn3⟩:∃ n,o.rels.length=n:=⟨_,rfl⟩
 have HOA:=Lib.hid ho
 have HOS:=Lib.hid hs
 have hb1:=hs.m
 have hb2:=hs.c
 have hb3:=hs.r
 rw [hn1] at hb1
 rw [hn2] at hb2
 rw [hn3] at hb3
 obtain⟨a1,c1,rfl,hd⟩:=L10.df_form4 hn1 ho.m
 obtain⟨a2,c2,rfl,-⟩:=ho.c.form hn2
 obtain⟨a3,c3,rfl,hr⟩:=L13.ro_form hn3 ho.r
 have HNm:=Lib.hid (fun X (hX:Below w.heap.size w X)=>rnames_at _ _ _ o n1 X (HOA.out.below hX) hs hn1)
 have HM:=Lib.hid hd
 have HRl:=Lib.hid hr
 have HN:=Lib.hid (And.intro hn1 (And.intro hn2 hn3))
 have HRR:=Lib.hid hR
 have HMS:=Lib.hid hs.z
 have K0:=Lib.hid (heap_alloc_last w (.cells #[.slice a1 n1 c1,.slice a2 n2 c2,.slice a3 n3 c3] 26))
 have HB:=Lib.hid (bnew w (.cells #[.slice a1 n1 c1,.slice a2 n2 c2,.slice a3 n3 c3] 26))
 clear ho hs hR hn1 hn2 hn3 hd hr
 go_enter Tryz.func28,Tryz.ntmps28
 go_upto_region 1 with (fail)
 obtain⟨k0,hk0⟩:∃ k,w.heap.size=k:=⟨_,rfl⟩
 rw [hk0] at K0 ⊢
 generalize w.alloc (.cells #[.slice a1 n1 c1,.slice a2 n2 c2,.slice a3 n3 c3] 26)=W0 at K0 HB ⊢
 clear hk0
 go_wp2
 have HI:Hid (Below W0.heap.size W0 W0∧L10.feF 0 ((o.maps.map L10.deE).drop 0)=L10.fe (o.maps.map L10.deE)):=Lib.hid ⟨Below.refl _ _,rfl⟩
 go_loopw [3] (fun q wr=>∃ j:Nat,j≤n1∧q=.int .i64 (j:Int)∧Hid (Below W0.heap.size W0 wr∧L10.feF j ((o.maps.map L10.deE).drop j)=L10.fe (o.maps.map L10.deE))) (fun q _=>n1-(RowKit.intOf q).toNat)
 case atStart=>exact⟨0,Nat.zero_le _,rfl,HI⟩
 case round =>
  obtain⟨j,hj,rfl,hI⟩:=hrel
  clear HI
  have hB0:=bch HB.out hI.out.1
  obtain⟨x0,x1,x2⟩:=L13.cells3 (L8.row_up K0.out hI.out.1)
  have lx:=World.block_lt_of_cell? _ _ x0
  simp only at lx
  by_cases hlt:j<n1
  ·have hjl:j<o.maps.length:=by rw [HN.out.1];exact hlt
   obtain⟨bb,of,rfl,hbl,hcc⟩:=HM.out (by omega)
   obtain⟨q0,q1,q2,q3⟩:=hcc j hjl
   have y0:=(hB0.cell (p:=⟨bb,of+j*4,none⟩) (by exact hbl)).trans q0
   have y1:=(hB0.cell (p:=⟨bb,of+j*4+1,none⟩) (by exact hbl)).trans q1
   have y2:=(hB0.cell (p:=⟨bb,of+j*4+2,none⟩) (by exact hbl)).trans q2
   have y3:=(hB0.cell (p:=⟨bb,of+j*4+3,none⟩) (by exact hbl)).trans q3
   have ly:=World.block_lt_of_cell? _ _ y0
   simp only at ly
   have hz:=HMS.out _ (List.getElem_mem hjl)
   have hst:=L10.feM o.maps L10.deE j hjl
   rw [hI.out.2,L10.deE_siz] at hst
   obtain⟨d,hd⟩:∃ d,o.maps[j]=d:=⟨_,rfl⟩
   rw [hd] at y0 y1 y2 y3 hst hz
   obtain⟨v,hv⟩:∃ v,L2.vd d.nm=v:=⟨_,rfl⟩
   obtain⟨s,hss⟩:∃ s,L9.sizV d=s:=⟨_,rfl⟩
   have HV:=Lib.hid (fun W=>L2.rvalid_at d.nm v W (Nat.le_trans hz (by decide)) hv)
   have HSZ:=Lib.hid (fun W=>L9.rsizes_at d s W hss)
   rw [hv,hss] at hst
   have HST:=Lib.hid hst
   have HBW:=Lib.hid hI.out.1
   have HB0:=Lib.hid hB0
   clear hcc q0 q1 q2 q3 hst hd hv hss hI hz hB0
   cases v
   ·have hr7:R=7:=by
     rw [← HRR.out]
     unfold chE mE
     rw [HST.out];rfl
    subst hr7
    go_wp2_with (go_at_call 60;((with_reducible refine (HV.out _).mono ?_);rintro e w4 ⟨rfl,rfl⟩))
    go_ret
    exact⟨rfl,HB0.out⟩
   cases s
   ·have hr9:R=9:=by
     rw [← HRR.out]
     unfold chE mE
     rw [HST.out];rfl
    subst hr9
    go_wp2_with (first
     | (go_at_call 60;((with_reducible refine (HV.out _).mono ?_);rintro e w4 ⟨rfl,rfl⟩))
     | (go_at_call 61;((with_reducible refine (HSZ.out _).mono ?_);rintro e w5 ⟨rfl,b5⟩)))
    go_ret
    exact⟨rfl,bch HB0.out b5⟩
   ·go_wp2_with (first
     | (go_at_call 60;((with_reducible refine (HV.out _).mono ?_);rintro e w4 ⟨rfl,rfl⟩))
     | (go_at_call 61;((with_reducible refine (HSZ.out _).mono ?_);rintro e w5 ⟨rfl,b5⟩)))
    go_roundw
    case rel=>exact⟨j+1,hlt,by go_num,Lib.hid ⟨bch HBW.out b5,HST.out.symm⟩⟩
    case measure=>simp [RowKit.intOf];omega
  ·obtain rfl:j=n1:=by omega
   have hm0:mE o.maps=0:=by
    unfold mE
    rw [← hI.out.2,L10.feF_end _ _ (by rw [List.length_map,HN.out.1];exact Nat.le_refl _)]
   have hRR:=HRR.out
   unfold chE at hRR
   rw [if_neg (by simpa using hm0),HN.out.1,HN.out.2.1] at hRR
   have HB0:=Lib.hid hB0
   have HK1:=Lib.hid (L8.row_up K0.out hI.out.1)
   clear hI hB0 hm0 HRR
   by_cases h255:255<j
   ·rw [if_pos h255] at hRR
    subst hRR
    go_wp2
    go_ret
    exact⟨rfl,HB0.out⟩
   rw [if_neg h255] at hRR
   have HRp:=Lib.hid (fun (X:World) (v:Value) (h:L8.StAt X v (o.maps.map (·.nm)))=>L10.rrep10 X v (o.maps.map (·.nm)) (by rw [List.length_map,HN.out.1];omega) h)
   rcases L10.dp_maps o.maps with ⟨hrp,-⟩|⟨m,hrp,-⟩
   case inr =>
    rw [hrp] at hRR HRp
    rw [if_pos (by omega)] at hRR
    subst hRR
    have hm0:(0:Int)≤(m:Int):=by omega
    clear hrp
    go_wp2_with (first
     | (go_at_call 63;((with_reducible refine (HNm.out _ HB0.out).mono ?_);rintro e w4 ⟨⟨na,nc,rfl,no⟩,b4⟩;have B4:=bch HB0.out b4))
     | (go_at_call 62;((with_reducible refine (HRp.out _ _ (st_of no HN.out.1)).mono ?_);rintro e w5 ⟨rfl,b5⟩)))
    go_ret
    exact⟨rfl,bch B4 b5⟩
   rw [hrp] at hRR HRp
   rw [if_neg (by simp)] at hRR
   clear hrp
   obtain⟨S,hS⟩:∃ S,n2 / 8=S:=⟨_,rfl⟩
   have e8:(n2:Int) / 8=(S:Int):=by omega
   have ecap:¬ (524280:Int)<(n2:Int):=by omega
   rw [hS] at hRR
   by_cases h0:n2=0∨n2 % 8≠0
   ·rw [if_pos (by omega)] at hRR
    subst hRR
    have h17:((n2:Int)==0)=true∨((n2:Int)==0)=false∧((n2:Int) % 8 != 0)=true:=by
     rcases h0 with h0|h0
     ·exact .inl (by rw [beq_iff_eq];omega)
     ·by_cases h00:n2=0
      ·exact .inl (by rw [beq_iff_eq];omega)
      ·exact .inr ⟨by rw [beq_eq_false_iff_ne];omega,by rw [bne_iff_ne];omega⟩
    clear h0
    rcases h17 with h17|⟨h17,h18⟩
    all_goals
     go_wp2_with (first
      | (go_at_call 63;((with_reducible refine (HNm.out _ HB0.out).mono ?_);rintro e w4 ⟨⟨na,nc,rfl,no⟩,b4⟩;have B4:=bch HB0.out b4))
      | (go_at_call 62;((with_reducible refine (HRp.out _ _ (st_of no HN.out.1)).mono ?_);rintro e w5 ⟨rfl,b5⟩;obtain⟨y0,y1,y2⟩:=L13.cells3 (L8.row_up (L8.row_up HK1.out b4) b5);have ly:=World.block_lt_of_cell? _ _ y0;simp only at ly)))
     go_ret
     exact⟨rfl,bch B4 b5⟩
   rw [if_neg (by omega),if_neg (by omega)] at hRR
   have h17:((n2:Int)==0)=false:=by rw [beq_eq_false_iff_ne];omega
   have h18:((n2:Int) % 8 != 0)=false:=by rw [bne_eq_false_iff_eq];omega
   have HS8:=Lib.hid (And.intro hS h0)
   have hS9:S≤20000:=by omega
   have hws:IntKind.i64.wrap (S:Int)=(S:Int):=by simp [IntKind.wrap,IntKind.bits,IntKind.signed];omega
   obtain⟨B,hB⟩:∃ B,rlF (-1) S j o.rels=B:=⟨_,rfl⟩
   rw [hB] at hRR
   have HI:=Lib.hid (show rlF (-1) S j (o.rels.drop 0)=B by rw [List.drop_zero];exact hB)
   have HRR:=Lib.hid hRR
   clear hS h0 hB hRR
   go_wp2_with (first
    | (go_at_call 63;((with_reducible refine (HNm.out _ HB0.out).mono ?_);rintro e w4 ⟨⟨na,nc,rfl,no⟩,b4⟩;have B4:=bch HB0.out b4))
    | (go_at_call 62;((with_reducible refine (HRp.out _ _ (st_of no HN.out.1)).mono ?_);rintro e w5 ⟨rfl,b5⟩;have r5:=L8.row_up (L8.row_up HK1.out b4) b5;obtain⟨y0,y1,y2⟩:=L13.cells3 r5;have ly:=World.block_lt_of_cell? _ _ y0;simp only at ly)))
   have HJ:=Lib.hid (And.intro r5 (bch B4 b5))
   clear r5 y0 y1 y2 ly no b4 b5 B4 x0 x1 x2 lx HNm HRp HK1 h17 h18 HB0
   go_loopw [4] (fun q wr=>∃ (i:Nat) (la:Int),i≤n3∧q=.int .i64 (i:Int)∧Hid (rlF la S j (o.rels.drop i)=B∧Below w5.heap.size w5 wr)∧Hid ((i=0∧la=-1)∨∃ I,i=I+1∧0≤la∧(o.rels.getD I (0,0)).1=la)) (fun q _=>n3-(RowKit.intOf q).toNat)
   case atStart=>exact⟨0,-1,Nat.zero_le _,rfl,Lib.hid ⟨HI.out,Below.refl _ _⟩,Lib.hid (.inl ⟨rfl,rfl⟩)⟩
   case round =>
    clear HI
    obtain⟨i,la,hi,rfl,hI,hLa⟩:=hrel
    have hB:=bch HJ.out.2 hI.out.2
    have hrow:=L8.row_up HJ.out.1 hI.out.2
    obtain⟨x0,x1,x2⟩:=L13.cells3 hrow
    have lx:=World.block_lt_of_cell? _ _ x0
    simp only at lx
    by_cases hlt2:i<n3
    ·have hil:i<o.rels.length:=by rw [HN.out.2.2];exact hlt2
     obtain⟨bb,of,rfl,hbl,hcc⟩:=HRl.out (by omega)
     obtain⟨q0,q1⟩:=hcc i hil
     have y0:=(hB.cell (p:=⟨bb,of+i*2,none⟩) (by exact hbl)).trans q0
     have y1:=(hB.cell (p:=⟨bb,of+i*2+1,none⟩) (by exact hbl)).trans q1
     have hprev:(i=0∧la=-1)∨∃ I,i=I+1∧0≤la∧wr.cell? ⟨bb,of+I*2,none⟩=some (.int .i64 la):=by
      rcases hLa.out with h|⟨I,h1,h2,h3⟩
      ·exact .inl h
      ·have hIl:I<o.rels.length:=by omega
       refine .inr ⟨I,h1,h2,?_⟩
       have e:(o.rels.getD I (0,0))=o.rels[I]:=by simp [List.getD,hIl]
       rw [e] at h3
       rw [← h3]
       exact (hB.cell (p:=⟨bb,of+I*2,none⟩) (by exact hbl)).trans (hcc I hIl).1
     have hst:=rl_step la S j o.rels i hil
     rw [hI.out.1] at hst
     have hgd:(o.rels.getD i (0,0)).1=o.rels[i].1:=by simp [List.getD,hil]
     obtain⟨s1,hs1⟩:∃ z,o.rels[i].1=z:=⟨_,rfl⟩
     obtain⟨s2,hs2⟩:∃ z,o.rels[i].2=z:=⟨_,rfl⟩
     rw [hs1] at y0 hst hgd
     rw [hs2] at y1 hst
     have HST:=Lib.hid hst
     have HGD:=Lib.hid hgd
     have HB1:=Lib.hid hI.out.2
     have HB0:=Lib.hid hB
     have hwl:=hB.size
     have hbw:bb<wr.heap.size:=by
      have:=World.block_lt_of_cell? _ _ y0
      exact this
     have HRow:=Lib.hid hrow
     clear hcc q0 q1 hst hs1 hs2 hI hB hLa hgd hil hrow
     have bad:¬ (la<s1∧s1<(S:Int)∧0≤s2∧s2<(j:Int))→R=18:=fun h=>by
      have hf:B=false:=by
       rw [HST.out]
       by_cases a1:la<s1 <;> by_cases a2:s1<(S:Int) <;> by_cases a3:0≤s2 <;> by_cases a4:s2<(j:Int) <;> simp [a1,a2,a3,a4] <;> omega
      have:=HRR.out
      rw [hf] at this
      rw [← this];rfl
     have HBAD:=Lib.hid bad
     clear bad
     go_upto_region 20 with (fail)
     obtain⟨kx,hkx⟩:∃ k,wr.heap.size=k:=⟨_,rfl⟩
     have R1:=L8.row_up HRow.out (bnew wr (.cells #[.int .i64 s1,.int .i64 s2] 101))
     have R2:=heap_alloc_last wr (.cells #[.int .i64 s1,.int .i64 s2] 101)
     have HBN:=Lib.hid (bnew wr (.cells #[.int .i64 s1,.int .i64 s2] 101))
     have hpv:(i=0∧la=-1)∨∃ I,i=I+1∧0≤la∧(wr.alloc (.cells #[.int .i64 s1,.int .i64 s2] 101)).cell? ⟨bb,of+I*2,none⟩=some (.int .i64 la):=by
      rcases hprev with h|⟨I,h1,h2,h3⟩
      ·exact .inl h
      ·exact .inr ⟨I,h1,h2,(HBN.out.cell (p:=⟨bb,of+I*2,none⟩) (by exact hbw)).trans h3⟩
     rw [hkx] at R2 ⊢
     generalize wr.alloc (.cells #[.int .i64 s1,.int .i64 s2] 101)=W at R1 R2 HBN hpv ⊢
     clear x0 x1 x2 lx hprev y0 y1 HRow hkx
     obtain⟨x0,x1,x2⟩:=L13.cells3 R1
     obtain⟨r0,r1⟩:=L10.cells2p R2
     clear R1 R2
     refine wp_region_held_drew (S:=fun X=>X=W.drew) (by kernel_rfl) rfl (fun hH=>?_)
     refine zT2 0 63 (.fieldAddr 101 (.tmp 5) 0) (.pointer (some ⟨kx,0,none⟩)) rfl hH ?_
     simp only [zz]
     refine zT2 1 64 (.load 3 (.tmp 63)) (.int .i64 s1) rfl hH ?_
     simp only [zz]
     by_cases g1:s1<0
     ·obtain rfl:=HBAD.out (by omega)
      refine zT2 2 65 (.binOp .lss 3 (.tmp 64) (.const (.int .i64 0)) 3) (.bool true) rfl hH ?_
      simp only [zz]
      refine zT0 3 66 (.move (.tmp 65)) (.bool true) rfl hH ?_
      simp only [zz]
      refine zTn 4 67 (.fieldAddr 101 (.tmp 5) 0) rfl hH ?_
      simp only [zz]
      refine zTn 5 68 (.load 3 (.tmp 67)) rfl hH ?_
      simp only [zz]
      refine zTn 6 69 (.fieldAddr 26 (.tmp 1) 1) rfl hH ?_
      simp only [zz]
      refine zTn 7 70 (.load 23 (.tmp 69)) rfl hH ?_
      simp only [zz]
      refine zTn 8 71 (.call ⟨.builtin .len,#[.tmp 70],#[23]⟩) rfl hH ?_
      simp only [zz]
      refine zTn 9 72 (.binOp .quo 3 (.tmp 71) (.const (.int .i64 8)) 3) rfl hH ?_
      simp only [zz]
      refine zTn 10 73 (.binOp .geq 3 (.tmp 68) (.tmp 72) 3) rfl hH ?_
      simp only [zz]
      refine zT0 11 74 (.pick (.tmp 66) (.const (.bool true)) (.tmp 73)) (.bool true) rfl hH ?_
      simp only [zz]
      refine zT0 12 75 (.move (.tmp 74)) (.bool true) rfl hH ?_
      simp only [zz]
      refine zTn 13 76 (.move (.tmp 4)) rfl hH ?_
      simp only [zz]
      refine zTn 14 77 (.binOp .gtr 3 (.tmp 76) (.const (.int .i64 0)) 3) rfl hH ?_
      simp only [zz]
      refine zTn 15 78 (.move (.tmp 77)) rfl hH ?_
      simp only [zz]
      refine zTn 16 79 (.fieldAddr 101 (.tmp 5) 0) rfl hH ?_
      simp only [zz]
      refine zTn 17 80 (.load 3 (.tmp 79)) rfl hH ?_
      simp only [zz]
      refine zTn 18 81 (.fieldAddr 26 (.tmp 1) 2) rfl hH ?_
      simp only [zz]
      refine zTn 19 82 (.load 24 (.tmp 81)) rfl hH ?_
      simp only [zz]
      refine zTn 20 83 (.move (.tmp 4)) rfl hH ?_
      simp only [zz]
      refine zTn 21 84 (.binOp .sub 3 (.tmp 83) (.const (.int .i64 1)) 3) rfl hH ?_
      simp only [zz]
      refine zTn 22 85 (.indexAddr 24 (.tmp 82) (.tmp 84)) rfl hH ?_
      simp only [zz]
      refine zTn 23 86 (.fieldAddr 101 (.tmp 85) 0) rfl hH ?_
      simp only [zz]
      refine zTn 24 87 (.load 3 (.tmp 86)) rfl hH ?_
      simp only [zz]
      refine zTn 25 88 (.binOp .leq 3 (.tmp 80) (.tmp 87) 3) rfl hH ?_
      simp only [zz]
      refine zTn 26 89 (.pick (.tmp 78) (.tmp 88) (.const (.bool false))) rfl hH ?_
      simp only [zz]
      refine zT0 27 90 (.pick (.tmp 75) (.const (.bool true)) (.tmp 89)) (.bool true) rfl hH ?_
      simp only [zz]
      refine zT0 28 91 (.move (.tmp 90)) (.bool true) rfl hH ?_
      simp only [zz]
      refine zTn 29 92 (.fieldAddr 101 (.tmp 5) 1) rfl hH ?_
      simp only [zz]
      refine zTn 30 93 (.load 3 (.tmp 92)) rfl hH ?_
      simp only [zz]
      refine zTn 31 94 (.binOp .lss 3 (.tmp 93) (.const (.int .i64 0)) 3) rfl hH ?_
      simp only [zz]
      refine zT0 32 95 (.pick (.tmp 91) (.const (.bool true)) (.tmp 94)) (.bool true) rfl hH ?_
      simp only [zz]
      refine zT0 33 96 (.move (.tmp 95)) (.bool true) rfl hH ?_
      simp only [zz]
      refine zTn 34 97 (.fieldAddr 101 (.tmp 5) 1) rfl hH ?_
      simp only [zz]
      refine zTn 35 98 (.load 3 (.tmp 97)) rfl hH ?_
      simp only [zz]
      refine zTn 36 99 (.fieldAddr 26 (.tmp 1) 0) rfl hH ?_
      simp only [zz]
      refine zTn 37 100 (.load 22 (.tmp 99)) rfl hH ?_
      simp only [zz]
      refine zTn 38 101 (.call ⟨.builtin .len,#[.tmp 100],#[22]⟩) rfl hH ?_
      simp only [zz]
      refine zTn 39 102 (.binOp .geq 3 (.tmp 98) (.tmp 101) 3) rfl hH ?_
      simp only [zz]
      refine zT0 40 103 (.pick (.tmp 96) (.const (.bool true)) (.tmp 102)) (.bool true) rfl hH ?_
      simp only [zz]
      refine wpAnyH_done (by kernel_rfl) ?_ _
      go_wp2
      go_ret
      exact⟨rfl,(bch HB0.out HBN.out).drew⟩
     refine zT2 2 65 (.binOp .lss 3 (.tmp 64) (.const (.int .i64 0)) 3) (.bool false) rfl hH ?_
     simp only [zz]
     refine zT0 3 66 (.move (.tmp 65)) (.bool false) rfl hH ?_
     simp only [zz]
     refine zT2 4 67 (.fieldAddr 101 (.tmp 5) 0) (.pointer (some ⟨kx,0,none⟩)) rfl hH ?_
     simp only [zz]
     refine zT2 5 68 (.load 3 (.tmp 67)) (.int .i64 s1) rfl hH ?_
     simp only [zz]
     refine zT2 6 69 (.fieldAddr 26 (.tmp 1) 1) (.pointer (some ⟨k0,1,none⟩)) rfl hH ?_
     simp only [zz]
     refine zT2 7 70 (.load 23 (.tmp 69)) (.slice a2 n2 c2) rfl hH ?_
     simp only [zz]
     refine zT2 8 71 (.call ⟨.builtin .len,#[.tmp 70],#[23]⟩) (.int .i64 (n2:Int)) rfl hH ?_
     simp only [zz]
     refine zT2 9 72 (.binOp .quo 3 (.tmp 71) (.const (.int .i64 8)) 3) (.int .i64 (S:Int)) rfl hH ?_
     simp only [zz]
     by_cases g2:(S:Int)≤s1
     ·obtain rfl:=HBAD.out (by omega)
      refine zT2 10 73 (.binOp .geq 3 (.tmp 68) (.tmp 72) 3) (.bool true) rfl hH ?_
      simp only [zz]
      refine zT0 11 74 (.pick (.tmp 66) (.const (.bool true)) (.tmp 73)) (.bool true) rfl hH ?_
      simp only [zz]
      refine zT0 12 75 (.move (.tmp 74)) (.bool true) rfl hH ?_
      simp only [zz]
      refine zTn 13 76 (.move (.tmp 4)) rfl hH ?_
      simp only [zz]
      refine zTn 14 77 (.binOp .gtr 3 (.tmp 76) (.const (.int .i64 0)) 3) rfl hH ?_
      simp only [zz]
      refine zTn 15 78 (.move (.tmp 77)) rfl hH ?_
      simp only [zz]
      refine zTn 16 79 (.fieldAddr 101 (.tmp 5) 0) rfl hH ?_
      simp only [zz]
      refine zTn 17 80 (.load 3 (.tmp 79)) rfl hH ?_
      simp only [zz]
      refine zTn 18 81 (.fieldAddr 26 (.tmp 1) 2) rfl hH ?_
      simp only [zz]
      refine zTn 19 82 (.load 24 (.tmp 81)) rfl hH ?_
      simp only [zz]
      refine zTn 20 83 (.move (.tmp 4)) rfl hH ?_
      simp only [zz]
      refine zTn 21 84 (.binOp .sub 3 (.tmp 83) (.const (.int .i64 1)) 3) rfl hH ?_
      simp only [zz]
      refine zTn 22 85 (.indexAddr 24 (.tmp 82) (.tmp 84)) rfl hH ?_
      simp only [zz]
      refine zTn 23 86 (.fieldAddr 101 (.tmp 85) 0) rfl hH ?_
      simp only [zz]
      refine zTn 24 87 (.load 3 (.tmp 86)) rfl hH ?_
      simp only [zz]
      refine zTn 25 88 (.binOp .leq 3 (.tmp 80) (.tmp 87) 3) rfl hH ?_
      simp only [zz]
      refine zTn 26 89 (.pick (.tmp 78) (.tmp 88) (.const (.bool false))) rfl hH ?_
      simp only [zz]
      refine zT0 27 90 (.pick (.tmp 75) (.const (.bool true)) (.tmp 89)) (.bool true) rfl hH ?_
      simp only [zz]
      refine zT0 28 91 (.move (.tmp 90)) (.bool true) rfl hH ?_
      simp only [zz]
      refine zTn 29 92 (.fieldAddr 101 (.tmp 5) 1) rfl hH ?_
      simp only [zz]
      refine zTn 30 93 (.load 3 (.tmp 92)) rfl hH ?_
      simp only [zz]
      refine zTn 31 94 (.binOp .lss 3 (.tmp 93) (.const (.int .i64 0)) 3) rfl hH ?_
      simp only [zz]
      refine zT0 32 95 (.pick (.tmp 91) (.const (.bool true)) (.tmp 94)) (.bool true) rfl hH ?_
      simp only [zz]
      refine zT0 33 96 (.move (.tmp 95)) (.bool true) rfl hH ?_
      simp only [zz]
      refine zTn 34 97 (.fieldAddr 101 (.tmp 5) 1) rfl hH ?_
      simp only [zz]
      refine zTn 35 98 (.load 3 (.tmp 97)) rfl hH ?_
      simp only [zz]
      refine zTn 36 99 (.fieldAddr 26 (.tmp 1) 0) rfl hH ?_
      simp only [zz]
      refine zTn 37 100 (.load 22 (.tmp 99)) rfl hH ?_
      simp only [zz]
      refine zTn 38 101 (.call ⟨.builtin .len,#[.tmp 100],#[22]⟩) rfl hH ?_
      simp only [zz]
      refine zTn 39 102 (.binOp .geq 3 (.tmp 98) (.tmp 101) 3) rfl hH ?_
      simp only [zz]
      refine zT0 40 103 (.pick (.tmp 96) (.const (.bool true)) (.tmp 102)) (.bool true) rfl hH ?_
      simp only [zz]
      refine wpAnyH_done (by kernel_rfl) ?_ _
      go_wp2
      go_ret
      exact⟨rfl,(bch HB0.out HBN.out).drew⟩
     refine zT2 10 73 (.binOp .geq 3 (.tmp 68) (.tmp 72) 3) (.bool false) rfl hH ?_
     simp only [zz]
     refine zT0 11 74 (.pick (.tmp 66) (.const (.bool true)) (.tmp 73)) (.bool false) rfl hH ?_
     simp only [zz]
     refine zT0 12 75 (.move (.tmp 74)) (.bool false) rfl hH ?_
     simp only [zz]
     rcases hpv with ⟨rfl,hla⟩|⟨I,rfl,hla,p0⟩
     ·subst hla
      refine zT0 13 76 (.move (.tmp 4)) (.int .i64 ((0:Nat):Int)) rfl hH ?_
      simp only [zz]
      refine zT2 14 77 (.binOp .gtr 3 (.tmp 76) (.const (.int .i64 0)) 3) (.bool false) rfl hH ?_
      simp only [zz]
      refine zT0 15 78 (.move (.tmp 77)) (.bool false) rfl hH ?_
      simp only [zz]
      refine zTn 16 79 (.fieldAddr 101 (.tmp 5) 0) rfl hH ?_
      simp only [zz]
      refine zTn 17 80 (.load 3 (.tmp 79)) rfl hH ?_
      simp only [zz]
      refine zTn 18 81 (.fieldAddr 26 (.tmp 1) 2) rfl hH ?_
      simp only [zz]
      refine zTn 19 82 (.load 24 (.tmp 81)) rfl hH ?_
      simp only [zz]
      refine zTn 20 83 (.move (.tmp 4)) rfl hH ?_
      simp only [zz]
      refine zTn 21 84 (.binOp .sub 3 (.tmp 83) (.const (.int .i64 1)) 3) rfl hH ?_
      simp only [zz]
      refine zTn 22 85 (.indexAddr 24 (.tmp 82) (.tmp 84)) rfl hH ?_
      simp only [zz]
      refine zTn 23 86 (.fieldAddr 101 (.tmp 85) 0) rfl hH ?_
      simp only [zz]
      refine zTn 24 87 (.load 3 (.tmp 86)) rfl hH ?_
      simp only [zz]
      refine zTn 25 88 (.binOp .leq 3 (.tmp 80) (.tmp 87) 3) rfl hH ?_
      simp only [zz]
      refine zT0 26 89 (.pick (.tmp 78) (.tmp 88) (.const (.bool false))) (.bool false) rfl hH ?_
      simp only [zz]
      refine zT0 27 90 (.pick (.tmp 75) (.const (.bool true)) (.tmp 89)) (.bool false) rfl hH ?_
      simp only [zz]
      refine zT0 28 91 (.move (.tmp 90)) (.bool false) rfl hH ?_
      simp only [zz]
      refine zT2 29 92 (.fieldAddr 101 (.tmp 5) 1) (.pointer (some ⟨kx,1,none⟩)) rfl hH ?_
      simp only [zz]
      refine zT2 30 93 (.load 3 (.tmp 92)) (.int .i64 s2) rfl hH ?_
      simp only [zz]
      by_cases g3:s2<0
      ·obtain rfl:=HBAD.out (by omega)
       refine zT2 31 94 (.binOp .lss 3 (.tmp 93) (.const (.int .i64 0)) 3) (.bool true) rfl hH ?_
       simp only [zz]
       refine zT0 32 95 (.pick (.tmp 91) (.const (.bool true)) (.tmp 94)) (.bool true) rfl hH ?_
       simp only [zz]
       refine zT0 33 96 (.move (.tmp 95)) (.bool true) rfl hH ?_
       simp only [zz]
       refine zTn 34 97 (.fieldAddr 101 (.tmp 5) 1) rfl hH ?_
       simp only [zz]
       refine zTn 35 98 (.load 3 (.tmp 97)) rfl hH ?_
       simp only [zz]
       refine zTn 36 99 (.fieldAddr 26 (.tmp 1) 0) rfl hH ?_
       simp only [zz]
       refine zTn 37 100 (.load 22 (.tmp 99)) rfl hH ?_
       simp only [zz]
       refine zTn 38 101 (.call ⟨.builtin .len,#[.tmp 100],#[22]⟩) rfl hH ?_
       simp only [zz]
       refine zTn 39 102 (.binOp .geq 3 (.tmp 98) (.tmp 101) 3) rfl hH ?_
       simp only [zz]
       refine zT0 40 103 (.pick (.tmp 96) (.const (.bool true)) (.tmp 102)) (.bool true) rfl hH ?_
       simp only [zz]
       refine wpAnyH_done (by kernel_rfl) ?_ _
       go_wp2
       go_ret
       exact⟨rfl,(bch HB0.out HBN.out).drew⟩
      refine zT2 31 94 (.binOp .lss 3 (.tmp 93) (.const (.int .i64 0)) 3) (.bool false) rfl hH ?_
      simp only [zz]
      refine zT0 32 95 (.pick (.tmp 91) (.const (.bool true)) (.tmp 94)) (.bool false) rfl hH ?_
      simp only [zz]
      refine zT0 33 96 (.move (.tmp 95)) (.bool false) rfl hH ?_
      simp only [zz]
      refine zT2 34 97 (.fieldAddr 101 (.tmp 5) 1) (.pointer (some ⟨kx,1,none⟩)) rfl hH ?_
      simp only [zz]
      refine zT2 35 98 (.load 3 (.tmp 97)) (.int .i64 s2) rfl hH ?_
      simp only [zz]
      refine zT2 36 99 (.fieldAddr 26 (.tmp 1) 0) (.pointer (some ⟨k0,0,none⟩)) rfl hH ?_
      simp only [zz]
      refine zT2 37 100 (.load 22 (.tmp 99)) (.slice a1 j c1) rfl hH ?_
      simp only [zz]
      refine zT2 38 101 (.call ⟨.builtin .len,#[.tmp 100],#[22]⟩) (.int .i64 (j:Int)) rfl hH ?_
      simp only [zz]
      by_cases g4:(j:Int)≤s2
      ·obtain rfl:=HBAD.out (by omega)
       refine zT2 39 102 (.binOp .geq 3 (.tmp 98) (.tmp 101) 3) (.bool true) rfl hH ?_
       simp only [zz]
       refine zT0 40 103 (.pick (.tmp 96) (.const (.bool true)) (.tmp 102)) (.bool true) rfl hH ?_
       simp only [zz]
       refine wpAnyH_done (by kernel_rfl) ?_ _
       go_wp2
       go_ret
       exact⟨rfl,(bch HB0.out HBN.out).drew⟩
      refine zT2 39 102 (.binOp .geq 3 (.tmp 98) (.tmp 101) 3) (.bool false) rfl hH ?_
      simp only [zz]
      refine zT0 40 103 (.pick (.tmp 96) (.const (.bool true)) (.tmp 102)) (.bool false) rfl hH ?_
      simp only [zz]
      refine wpAnyH_done (by kernel_rfl) ?_ _
      have HN2:=Lib.hid (show rlF s1 S j (o.rels.drop (0+1))=B by
       rw [HST.out]
       simp [show -1<s1 by omega,show s1<(S:Int) by omega,show 0≤s2 by omega,show s2<(j:Int) by omega])
      clear HST HBAD
      go_wp2
      go_roundw
      case rel=>exact⟨0+1,s1,hlt2,by go_num,Lib.hid ⟨HN2.out,(bch HB1.out HBN.out).drew⟩,Lib.hid (.inr ⟨_,rfl,by omega,HGD.out⟩)⟩
      case measure=>simp [RowKit.intOf];omega
     ·have hIn:I<n3:=by omega
      have hIw:IntKind.i64.wrap (I:Int)=(I:Int):=by simp [IntKind.wrap,IntKind.bits,IntKind.signed];omega
      refine zT0 13 76 (.move (.tmp 4)) (.int .i64 ((I+1:Nat):Int)) rfl hH ?_
      simp only [zz]
      refine zT2 14 77 (.binOp .gtr 3 (.tmp 76) (.const (.int .i64 0)) 3) (.bool true) rfl hH ?_
      simp only [zz]
      refine zT0 15 78 (.move (.tmp 77)) (.bool true) rfl hH ?_
      simp only [zz]
      refine zT2 16 79 (.fieldAddr 101 (.tmp 5) 0) (.pointer (some ⟨kx,0,none⟩)) rfl hH ?_
      simp only [zz]
      refine zT2 17 80 (.load 3 (.tmp 79)) (.int .i64 s1) rfl hH ?_
      simp only [zz]
      refine zT2 18 81 (.fieldAddr 26 (.tmp 1) 2) (.pointer (some ⟨k0,2,none⟩)) rfl hH ?_
      simp only [zz]
      refine zT2 19 82 (.load 24 (.tmp 81)) (.slice (some ⟨bb,of,none⟩) n3 c3) rfl hH ?_
      simp only [zz]
      refine zT0 20 83 (.move (.tmp 4)) (.int .i64 ((I+1:Nat):Int)) rfl hH ?_
      simp only [zz]
      refine zT2 21 84 (.binOp .sub 3 (.tmp 83) (.const (.int .i64 1)) 3) (.int .i64 (I:Int)) rfl hH ?_
      simp only [zz]
      refine zT2 22 85 (.indexAddr 24 (.tmp 82) (.tmp 84)) (.pointer (some ⟨bb,of+I*2,none⟩)) rfl hH ?_
      simp only [zz]
      refine zT2 23 86 (.fieldAddr 101 (.tmp 85) 0) (.pointer (some ⟨bb,of+I*2,none⟩)) rfl hH ?_
      simp only [zz]
      refine zT2 24 87 (.load 3 (.tmp 86)) (.int .i64 la) rfl hH ?_
      simp only [zz]
      by_cases g5:s1≤la
      ·obtain rfl:=HBAD.out (by omega)
       refine zT2 25 88 (.binOp .leq 3 (.tmp 80) (.tmp 87) 3) (.bool true) rfl hH ?_
       simp only [zz]
       refine zT0 26 89 (.pick (.tmp 78) (.tmp 88) (.const (.bool false))) (.bool true) rfl hH ?_
       simp only [zz]
       refine zT0 27 90 (.pick (.tmp 75) (.const (.bool true)) (.tmp 89)) (.bool true) rfl hH ?_
       simp only [zz]
       refine zT0 28 91 (.move (.tmp 90)) (.bool true) rfl hH ?_
       simp only [zz]
       refine zTn 29 92 (.fieldAddr 101 (.tmp 5) 1) rfl hH ?_
       simp only [zz]
       refine zTn 30 93 (.load 3 (.tmp 92)) rfl hH ?_
       simp only [zz]
       refine zTn 31 94 (.binOp .lss 3 (.tmp 93) (.const (.int .i64 0)) 3) rfl hH ?_
       simp only [zz]
       refine zT0 32 95 (.pick (.tmp 91) (.const (.bool true)) (.tmp 94)) (.bool true) rfl hH ?_
       simp only [zz]
       refine zT0 33 96 (.move (.tmp 95)) (.bool true) rfl hH ?_
       simp only [zz]
       refine zTn 34 97 (.fieldAddr 101 (.tmp 5) 1) rfl hH ?_
       simp only [zz]
       refine zTn 35 98 (.load 3 (.tmp 97)) rfl hH ?_
       simp only [zz]
       refine zTn 36 99 (.fieldAddr 26 (.tmp 1) 0) rfl hH ?_
       simp only [zz]
       refine zTn 37 100 (.load 22 (.tmp 99)) rfl hH ?_
       simp only [zz]
       refine zTn 38 101 (.call ⟨.builtin .len,#[.tmp 100],#[22]⟩) rfl hH ?_
       simp only [zz]
       refine zTn 39 102 (.binOp .geq 3 (.tmp 98) (.tmp 101) 3) rfl hH ?_
       simp only [zz]
       refine zT0 40 103 (.pick (.tmp 96) (.const (.bool true)) (.tmp 102)) (.bool true) rfl hH ?_
       simp only [zz]
       refine wpAnyH_done (by kernel_rfl) ?_ _
       go_wp2
       go_ret
       exact⟨rfl,(bch HB0.out HBN.out).drew⟩
      refine zT2 25 88 (.binOp .leq 3 (.tmp 80) (.tmp 87) 3) (.bool false) rfl hH ?_
      simp only [zz]
      refine zT0 26 89 (.pick (.tmp 78) (.tmp 88) (.const (.bool false))) (.bool false) rfl hH ?_
      simp only [zz]
      refine zT0 27 90 (.pick (.tmp 75) (.const (.bool true)) (.tmp 89)) (.bool false) rfl hH ?_
      simp only [zz]
      refine zT0 28 91 (.move (.tmp 90)) (.bool false) rfl hH ?_
      simp only [zz]
      refine zT2 29 92 (.fieldAddr 101 (.tmp 5) 1) (.pointer (some ⟨kx,1,none⟩)) rfl hH ?_
      simp only [zz]
      refine zT2 30 93 (.load 3 (.tmp 92)) (.int .i64 s2) rfl hH ?_
      simp only [zz]
      by_cases g3:s2<0
      ·obtain rfl:=HBAD.out (by omega)
       refine zT2 31 94 (.binOp .lss 3 (.tmp 93) (.const (.int .i64 0)) 3) (.bool true) rfl hH ?_
       simp only [zz]
       refine zT0 32 95 (.pick (.tmp 91) (.const (.bool true)) (.tmp 94)) (.bool true) rfl hH ?_
       simp only [zz]
       refine zT0 33 96 (.move (.tmp 95)) (.bool true) rfl hH ?_
       simp only [zz]
       refine zTn 34 97 (.fieldAddr 101 (.tmp 5) 1) rfl hH ?_
       simp only [zz]
       refine zTn 35 98 (.load 3 (.tmp 97)) rfl hH ?_
       simp only [zz]
       refine zTn 36 99 (.fieldAddr 26 (.tmp 1) 0) rfl hH ?_
       simp only [zz]
       refine zTn 37 100 (.load 22 (.tmp 99)) rfl hH ?_
       simp only [zz]
       refine zTn 38 101 (.call ⟨.builtin .len,#[.tmp 100],#[22]⟩) rfl hH ?_
       simp only [zz]
       refine zTn 39 102 (.binOp .geq 3 (.tmp 98) (.tmp 101) 3) rfl hH ?_
       simp only [zz]
       refine zT0 40 103 (.pick (.tmp 96) (.const (.bool true)) (.tmp 102)) (.bool true) rfl hH ?_
       simp only [zz]
       refine wpAnyH_done (by kernel_rfl) ?_ _
       go_wp2
       go_ret
       exact⟨rfl,(bch HB0.out HBN.out).drew⟩
      refine zT2 31 94 (.binOp .lss 3 (.tmp 93) (.const (.int .i64 0)) 3) (.bool false) rfl hH ?_
      simp only [zz]
      refine zT0 32 95 (.pick (.tmp 91) (.const (.bool true)) (.tmp 94)) (.bool false) rfl hH ?_
      simp only [zz]
      refine zT0 33 96 (.move (.tmp 95)) (.bool false) rfl hH ?_
      simp only [zz]
      refine zT2 34 97 (.fieldAddr 101 (.tmp 5) 1) (.pointer (some ⟨kx,1,none⟩)) rfl hH ?_
      simp only [zz]
      refine zT2 35 98 (.load 3 (.tmp 97)) (.int .i64 s2) rfl hH ?_
      simp only [zz]
      refine zT2 36 99 (.fieldAddr 26 (.tmp 1) 0) (.pointer (some ⟨k0,0,none⟩)) rfl hH ?_
      simp only [zz]
      refine zT2 37 100 (.load 22 (.tmp 99)) (.slice a1 j c1) rfl hH ?_
      simp only [zz]
      refine zT2 38 101 (.call ⟨.builtin .len,#[.tmp 100],#[22]⟩) (.int .i64 (j:Int)) rfl hH ?_
      simp only [zz]
      by_cases g4:(j:Int)≤s2
      ·obtain rfl:=HBAD.out (by omega)
       refine zT2 39 102 (.binOp .geq 3 (.tmp 98) (.tmp 101) 3) (.bool true) rfl hH ?_
       simp only [zz]
       refine zT0 40 103 (.pick (.tmp 96) (.const (.bool true)) (.tmp 102)) (.bool true) rfl hH ?_
       simp only [zz]
       refine wpAnyH_done (by kernel_rfl) ?_ _
       go_wp2
       go_ret
       exact⟨rfl,(bch HB0.out HBN.out).drew⟩
      refine zT2 39 102 (.binOp .geq 3 (.tmp 98) (.tmp 101) 3) (.bool false) rfl hH ?_
      simp only [zz]
      refine zT0 40 103 (.pick (.tmp 96) (.const (.bool true)) (.tmp 102)) (.bool false) rfl hH ?_
      simp only [zz]
      refine wpAnyH_done (by kernel_rfl) ?_ _
      have HN2:=Lib.hid (show rlF s1 S j (o.rels.drop (I+1+1))=B by
       rw [HST.out]
       simp [show la<s1 by omega,show s1<(S:Int) by omega,show 0≤s2 by omega,show s2<(j:Int) by omega])
      clear HST HBAD
      go_wp2
      go_roundw
      case rel=>exact⟨I+1+1,s1,hlt2,by go_num,Lib.hid ⟨HN2.out,(bch HB1.out HBN.out).drew⟩,Lib.hid (.inr ⟨_,rfl,by omega,HGD.out⟩)⟩
      case measure=>simp [RowKit.intOf];omega
    ·obtain rfl:i=n3:=by omega
     have hl:=hI.out.1
     rw [List.drop_of_length_le (by rw [HN.out.2.2];exact Nat.le_refl _)] at hl
     have hr0:R=0:=by
      have h1:=HRR.out
      rw [← hl] at h1
      rw [← h1];rfl
     subst hr0
     have HB0:=Lib.hid hB
     clear hI hB hl hLa
     go_wp2
     go_ret
     exact⟨rfl,HB0.out⟩
end Go.Proofs.YtihiggnglmhggaaGreatDoor.L16
end
section
namespace Go.Proofs.YtihiggnglmhggaaGreatDoor.L17
open Go.RowKit L3 L4 L12 L14
open L13 (Ob)
open L16 (chE OA OS Tb tb_below Is16)
attribute [local go_sem] Oper.semAt_some
theorem keep3 {w W W':World} {k:Nat} {x y z:Value} (hb:Below W.heap.size W W') (h:Below w.heap.size w W∧W.cell? ⟨k,0,none⟩=some x∧W.cell? ⟨k,1,none⟩=some y∧W.cell? ⟨k,2,none⟩=some z) :
  Below w.heap.size w W'∧W'.cell? ⟨k,0,none⟩=some x∧W'.cell? ⟨k,1,none⟩=some y∧W'.cell? ⟨k,2,none⟩=some z:=⟨bch h.1 hb,cell_up hb h.2.1,cell_up hb h.2.2.1,cell_up hb h.2.2.2⟩
theorem rlV_hit {o:Ob} {l:List L9.Ins} {m s:Nat} (hm:o.code.length / 8=m) (hs:s<m) (h0:∀ q,q<s→(rfB l (q:Int)==hasR o.rels (q:Int))=true) (h1:(rfB l (s:Int)==hasR o.rels (s:Int))=false):rlV o l=((s:Int),18):=by
 unfold rlV
 rw [eaF_some (i:=s) (by omega) h0 h1]
theorem rlV_zero {o:Ob} {l:List L9.Ins} {m:Nat} (hm:o.code.length / 8=m) (h0:∀ q,q<m→(rfB l (q:Int)==hasR o.rels (q:Int))=true):rlV o l=(0,0):=by
 unfold rlV
 rw [eaF_none fun j hj=>h0 j (by omega)]
theorem upto_succ {p:Nat→Bool} {j:Nat} (h:∀ q,q<j→p q=true) (hj:p j=true):∀ q,q<j+1→p q=true:=fun q hq=>by
 by_cases hc:q<j
 ·exact h q hc
 ·obtain rfl:q=j:=by omega
  exact hj
theorem fr_head {x:Int × Int} {r:List (Int × Int)} {S E a b:Int} (h:fr (x::r)=(S,E)) (hx:x=(a,b)) (hb:b≠0):(S,E)=(a,b):=by
 subst hx
 rw [← h,fr_hit hb]
theorem fr_tail {x:Int × Int} {r:List (Int × Int)} {S E:Int} (h:fr (x::r)=(S,E)) (hx:x=(0,0)):fr r=(S,E):=by
 subst hx
 rw [← h,fr_skip rfl]
theorem rcheck_one (vm vc vr:Value) (o:Ob) (R:Int) (w:World) (ho:OA w vm vc vr o) (hs:OS o) (hR:chE o=R) (h0:R≠0) :
  Calls Tryz.prog 12 #[.agg #[vm,vc,vr]] w fun e w'=>e=.returned (.tuple #[.int .i64 0,.int .i64 R])∧Below w.heap.size w w':=by
 have HC:=Lib.hid (fun (W:World) (hW:Below w.heap.size w W)=>L16.rcheck16_at vm vc vr o R W (ho.below hW) hs hR)
 obtain⟨a1,c1,a2,c2,a3,c3,rfl,rfl,rfl⟩:=oa_form ho
 have hz:(R != 0)=true:=by simpa using h0
 clear ho hs hR h0
 go_enter Tryz.func12,Tryz.ntmps12
 go_wp2_with (go_at_call 28;((with_reducible refine (HC.out _ (bnew w _)).mono ?_);rintro e w1 ⟨rfl,b1⟩))
 go_ret2
 exact⟨rfl,bch (bnew w _) b1⟩
theorem rcheck_two (vm vc vr:Value) (o:Ob) (w:World) (ho:OA w vm vc vr o) (hs:OS o) (hR:chE o=0) (h0:(L5.la (rdC o.code)).e≠0) :
  Calls Tryz.prog 12 #[.agg #[vm,vc,vr]] w fun e w'=>e=.returned (.tuple #[.int .i64 (((L5.la (rdC o.code)).at':Nat):Int),.int .i64 (L5.la (rdC o.code)).e])∧Below w.heap.size w w':=by
 have HC:=Lib.hid (fun (W:World) (hW:Below w.heap.size w W)=>L16.rcheck16_at vm vc vr o 0 W (ho.below hW) hs hR)
 have HL:=Lib.hid (fun (W:World) (hW:Below w.heap.size w W)=>prall_no vc o.code W (rw_bs (ho.c.below hW) hs.c) hs.c h0)
 obtain⟨a1,c1,a2,c2,a3,c3,rfl,rfl,rfl⟩:=oa_form ho
 obtain⟨er,her⟩:∃ z,(L5.la (rdC o.code)).e=z:=⟨_,rfl⟩
 obtain⟨at',hat⟩:∃ z,(((L5.la (rdC o.code)).at':Nat):Int)=z:=⟨_,rfl⟩
 rw [her] at HL h0 ⊢
 rw [hat] at HL ⊢
 have hz:(er != 0)=true:=by simpa using h0
 have K0:=Lib.hid (heap_alloc_new w (.cells #[.slice a1 o.maps.length c1,.slice a2 o.code.length c2,.slice a3 o.rels.length c3] 26))
 clear ho hs hR h0 her hat
 go_enter Tryz.func12,Tryz.ntmps12
 go_wp2_with (first
  | (go_at_call 28;((with_reducible refine (HC.out _ (bnew w _)).mono ?_);rintro e w1 ⟨rfl,b1⟩;obtain⟨x0,x1,x2⟩:=L13.cells3 (L8.row_up K0.out b1)))
  | (go_at_call 16;((with_reducible refine (HL.out _ (bch (bnew w _) b1)).mono ?_);rintro e w2 ⟨rfl,b2⟩)))
 go_ret2
 exact⟨rfl,bch (bch (bnew w _) b1) b2⟩
theorem rcheck_all (vm vc vr:Value) (o:Ob) (S E:Int) (w:World) (ho:OA w vm vc vr o) (hs:OS o) (hR:chE o=0) (h0:(L5.la (rdC o.code)).e=0) (hE:vE o=(S,E)) :
  Calls Tryz.prog 12 #[.agg #[vm,vc,vr]] w fun e w'=>e=.returned (.tuple #[.int .i64 S,.int .i64 E])∧Below w.heap.size w w':=by
 have hG:=L16.gd_of hR
 have hlen:=inL_len h0
 have hll:=len_le (inL o.code) (inL_sl h0)
 have hpos:=inL_pos hG h0
 have hoff:=inL_off h0
 have hE2:fr [eaV (inL o.code) (pF (inL o.code)) 12,rlV o (inL o.code),eaV (inL o.code) (pJ (inL o.code)) 13,eaV (inL o.code) (pW (inL o.code)) 14,eaV (inL o.code) (pE (inL o.code)) 15]=(S,E):=by
  have h:vE o=fr [eaV (inL o.code) (pF (inL o.code)) 12,rlV o (inL o.code),eaV (inL o.code) (pJ (inL o.code)) 13,eaV (inL o.code) (pW (inL o.code)) 14,eaV (inL o.code) (pE (inL o.code)) 15]:=by
   unfold vE vL
   rw [fr_skip (x:=(0,chE o)) hR,fr_skip (x:=insE o.code) (by rw [insE_ok h0])]
  rw [← h]
  exact hE
 have hcm:=hs.c
 have hrm:=hs.r
 obtain⟨n,hn⟩:∃ n,(inL o.code).length=n:=⟨_,rfl⟩
 obtain⟨m,hm⟩:∃ m,o.code.length / 8=m:=⟨_,rfl⟩
 have hnm:n≤100000:=by omega
 have hmm:m≤100000:=by omega
 rw [hn] at hpos
 have HC:=Lib.hid (fun (W:World) (hW:Below w.heap.size w W)=>L16.rcheck16_at vm vc vr o 0 W (ho.below hW) hs hR)
 have HL:=Lib.hid (fun (W:World) (hW:Below w.heap.size w W)=>prall_ok vc o.code n W (rw_bs (ho.c.below hW) hcm) hcm h0 hn)
 obtain⟨a1,c1,a2,c2,a3,c3,rfl,rfl,rfl⟩:=oa_form ho
 have HR:=Lib.hid (fun (W:World) (hW:Below w.heap.size w W)=>(ho.below hW).r)
 have K0:=Lib.hid (heap_alloc_new w (.cells #[.slice a1 o.maps.length c1,.slice a2 o.code.length c2,.slice a3 o.rels.length c3] 26))
 have HF:=Lib.hid hE2
 have HN:=Lib.hid (And.intro hn hm)
 have HO:=Lib.hid hoff
 have hrm2:=Lib.hid hrm
 have hq:((o.code.length:Nat):Int) / 8=(m:Int):=by omega
 obtain⟨l,hl⟩:∃ l,inL o.code=l:=⟨_,rfl⟩
 rw [hl] at HL HF HN HO
 obtain⟨cl,hcl⟩:∃ cl,o.code.length=cl:=⟨_,rfl⟩
 rw [hcl] at K0 HC HL hq ⊢
 clear ho hs hR h0 hE hE2 hG hlen hll hoff hcm hrm hn hm hl hcl
 go_enter Tryz.func12,Tryz.ntmps12
 go_wp2_with (first
  | (go_at_call 28;((with_reducible refine (HC.out _ (bnew w _)).mono ?_);rintro e w1 ⟨rfl,b1⟩;obtain⟨x0,x1,x2⟩:=L13.cells3 (L8.row_up K0.out b1)))
  | (go_at_call 16;((with_reducible refine (HL.out _ (bch (bnew w _) b1)).mono ?_);rintro e w2 ⟨⟨a,cp,rfl,hi⟩,b2⟩;have HB2:=Lib.hid (bch (bch (bnew w _) b1) b2);have HK:=Lib.hid (L8.row_up (L8.row_up K0.out b1) b2);have HI:=Lib.hid hi)))
 clear HC HL K0 hi x0 x1 x2 b1 b2
 obtain⟨ko,hko⟩:∃ k,w.heap.size=k:=⟨_,rfl⟩
 have HKO:=Lib.hid hko
 rw [hko] at HK ⊢
 clear hko
 have HC:=Lib.hid (by obtain⟨a',c',hv,hc⟩:=is_form HN.out.1 HI.out;cases hv;exact hc:0<n→∃ b o',a=some ⟨b,o',none⟩∧b<w2.heap.size∧∀ j,(h:j<l.length)→Six w2 b (o'+j*6) l[j])
 have HST:=Lib.hid (fun (W:World) (hW:Below w2.heap.size w2 W) (j:Nat) (hj:j≤n)=>rstart_at (.slice a n cp) l j _ W (HI.out.below hW) (by rw [HN.out.1];omega) (by rw [HN.out.1];exact hj) rfl)
 have HX:=Lib.hid (fun (W:World) (hW:Below w2.heap.size w2 W)=>L13.cells3 (L8.row_up HK.out hW))
 have hkl:=(Array.getElem?_eq_some_iff.1 HK.out).1
 go_loopw [7] (fun i wr=>∃ j:Nat,j≤n∧i=.int .i64 (j:Int)∧Hid (Below w2.heap.size w2 wr∧∀ q,q<j→pF l q=true)) (fun i _=>n-(RowKit.intOf i).toNat)
 case atStart=>exact⟨0,Nat.zero_le _,rfl,Lib.hid ⟨Below.refl _ _,fun q hq=>absurd hq (Nat.not_lt_zero _)⟩⟩
 case round =>
  obtain⟨j,hj,rfl,hI⟩:=hrel
  by_cases hlt:j<n
  ·have hjl:j<l.length:=by rw [HN.out.1];exact hlt
   obtain⟨b,of,rfl,hbl,hc⟩:=HC.out (by omega)
   obtain⟨y0,y1,y2,y3,y4,y5⟩:=(hc j hjl).below hbl hI.out.1
   have hp:pF l j=(!isRf l[j] || l[j].imm==0):=by unfold pF;rw [atI_is hjl]
   have HS:=Lib.hid (fun (W:World) (hW:Below w2.heap.size w2 W)=>HST.out W hW j (by omega))
   obtain⟨x,hx⟩:∃ x,l[j]=x:=⟨_,rfl⟩
   rw [hx] at y0 y1 y2 y3 y4 y5 hp
   obtain⟨op,reg,dst,src,off,imm⟩:=x
   simp only at y0 y1 y2 y3 y4 y5 hp
   obtain⟨f,hf⟩:∃ f,frm (ix op)=f:=⟨_,rfl⟩
   have HFm:=Lib.hid (fun W=>rform_at op f W hf)
   obtain⟨v,hv⟩:∃ v,(f==11)=v:=⟨_,rfl⟩
   obtain⟨z,hz⟩:∃ z,(imm != 0)=z:=⟨_,rfl⟩
   have hp2:pF l j=(!v || !z):=by rw [hp,← hv,← hz,← hf];simp [isRf,L10.fmI,bne]
   have HP:=Lib.hid hp2
   clear hc hp hx hf hp2 y1 y2 y3 y4
   cases v
   ·go_wp2_with (go_at_call 29;((with_reducible refine (HFm.out _).mono ?_);rintro e w3 ⟨rfl,rfl⟩))
    go_roundw
    case rel=>exact⟨j+1,hlt,by go_num,Lib.hid ⟨hI.out.1,upto_succ hI.out.2 (by rw [HP.out];rfl)⟩⟩
    case measure=>simp [RowKit.intOf];omega
   ·cases z
    ·go_wp2_with (go_at_call 29;((with_reducible refine (HFm.out _).mono ?_);rintro e w3 ⟨rfl,rfl⟩))
     go_roundw
     case rel=>exact⟨j+1,hlt,by go_num,Lib.hid ⟨hI.out.1,upto_succ hI.out.2 (by rw [HP.out];rfl)⟩⟩
     case measure=>simp [RowKit.intOf];omega
    ·have HE:=Lib.hid (fr_head HF.out (eaV_some hjl hI.out.2 (by rw [HP.out];rfl)) (by decide))
     go_wp2_with (first
      | (go_at_call 29;((with_reducible refine (HFm.out _).mono ?_);rintro e w3 ⟨rfl,rfl⟩))
      | (go_at_call 30;((with_reducible refine (HS.out _ hI.out.1).mono ?_);rintro e w3 ⟨rfl,rfl⟩)))
     go_ret2
     cases HE.out
     exact⟨rfl,bch HB2.out hI.out.1⟩
  ·obtain rfl:j=n:=by omega
   have HF1:=Lib.hid (fr_tail HF.out (eaV_none (fun q hq=>hI.out.2 q (by rw [HN.out.1] at hq;exact hq))))
   obtain⟨x0,x1,x2⟩:=HX.out _ hI.out.1
   have HB3:=Lib.hid hI.out.1
   have hkl3:=Nat.lt_of_lt_of_le hkl hI.out.1.size
   clear hI HF
   go_wp2
   go_loopw [8] (fun i wr=>∃ s:Nat,s≤m∧i=.int .i64 (s:Int)∧Hid (Below w2.heap.size w2 wr∧∀ q:Nat,q<s→(rfB l (q:Int)==hasR o.rels (q:Int))=true)) (fun i _=>m-(RowKit.intOf i).toNat)
   case atStart=>exact⟨0,Nat.zero_le _,rfl,Lib.hid ⟨HB3.out,fun q hq=>absurd hq (Nat.not_lt_zero _)⟩⟩
   case round =>
    clear x0 x1 x2 HB3 hkl3
    obtain⟨s,hs,rfl,hI⟩:=hrel
    obtain⟨x0,x1,x2⟩:=HX.out _ hI.out.1
    have hkl3:=Nat.lt_of_lt_of_le hkl hI.out.1.size
    by_cases hlt2:s<m
    ·have hlt':(s:Int)<(m:Int):=by omega
     obtain⟨v1,hv1⟩:∃ v,rfB l (s:Int)=v:=⟨_,rfl⟩
     obtain⟨v2,hv2⟩:∃ v,hasR o.rels (s:Int)=v:=⟨_,rfl⟩
     have HA1:=Lib.hid (fun (W:World) (hW:Below wr.heap.size wr W)=>rrefers_at (.slice a j cp) l (s:Int) v1 W (HI.out.below (bch hI.out.1 hW)) (by rw [HN.out.1];omega) hv1)
     have HA2:=Lib.hid (fun (W:World) (hW:Below wr.heap.size wr W)=>rhas_at a1 a2 o.maps.length c1 cl c2 (.slice a3 o.rels.length c3) o.rels (s:Int) v2 W (HR.out _ (bch HB2.out (bch hI.out.1 hW))) hrm2.out hv2)
     have HV:=Lib.hid (And.intro hv1 hv2)
     have Y:=And.intro (Below.refl wr.heap.size wr) (And.intro x0 (And.intro x1 x2))
     clear hv1 hv2
     go_upto_region 15 with (fail)
     cases v1 <;> cases v2
     all_goals
      go_region_held3 (fun W=>Below wr.heap.size wr W∧W.cell? ⟨ko,0,none⟩=some (.slice a1 o.maps.length c1)∧W.cell? ⟨ko,1,none⟩=some (.slice a2 cl c2)∧W.cell? ⟨ko,2,none⟩=some (.slice a3 o.rels.length c3))
       (first|exact keep3 (Below.refl _ _).drew Y|exact keep3 (Below.refl _ _).drew (by assumption)|exact keep3 hb9 (by assumption)|exact keep3 hb9 (keep3 (Below.refl _ _).drew Y)|assumption)
       (first|(go_at_call 31;((with_reducible refine (HA1.out _ (And.left (by assumption))).mono ?_);rintro e w9 ⟨rfl,rfl⟩))|(go_at_call 32;((with_reducible refine (HA2.out _ (And.left (by assumption))).mono ?_);rintro e w9 ⟨rfl,hb9⟩)))
     all_goals
      rename_i hh
      have hB:=Lib.hid (bch hI.out.1 hh.1)
      first
       | (
         have HE:=Lib.hid (fr_head HF1.out (rlV_hit HN.out.2 hlt2 hI.out.2 (by rw [HV.out.1,HV.out.2];rfl)) (by decide))
         go_wp2
         go_ret2
         cases HE.out
         exact⟨rfl,bch HB2.out hB.out⟩)
       | (
         have HE:=Lib.hid (upto_succ (p:=fun q=>rfB l (q:Int)==hasR o.rels (q:Int)) hI.out.2 (by rw [HV.out.1,HV.out.2];rfl))
         go_wp2
         go_roundw
         case rel=>exact⟨s+1,hlt2,by go_num,Lib.hid ⟨hB.out,HE.out⟩⟩
         case measure=>simp [RowKit.intOf];omega)
    ·obtain rfl:s=m:=by omega
     have HF2:=Lib.hid (fr_tail HF1.out (rlV_zero HN.out.2 hI.out.2))
     have HB3:=Lib.hid hI.out.1
     clear hI HF1
     go_wp2
     go_loopw [9] (fun i wr=>∃ k:Nat,k≤j∧i=.int .i64 (k:Int)∧Hid (Below w2.heap.size w2 wr∧∀ q:Nat,q<k→pJ l q=true)) (fun i _=>j-(RowKit.intOf i).toNat)
     case atStart=>exact⟨0,Nat.zero_le _,rfl,Lib.hid ⟨HB3.out,fun q hq=>absurd hq (Nat.not_lt_zero _)⟩⟩
     case round =>
      clear x0 x1 x2 HB3 hkl3
      obtain⟨k,hk,rfl,hI⟩:=hrel
      by_cases hlt3:k<j
      ·have hjl:k<l.length:=by rw [HN.out.1];exact hlt3
       obtain⟨b,of,rfl,hbl,hc⟩:=HC.out (by omega)
       obtain⟨y0,y1,y2,y3,y4,y5⟩:=(hc k hjl).below hbl hI.out.1
       have HS:=Lib.hid (fun (W:World) (hW:Below w2.heap.size w2 W)=>HST.out W hW k (by omega))
       have hp:pJ l k=(!L10.jmI l[k] || decide (0≤tgI l k)):=by unfold pJ;rw [atI_is hjl]
       have hof:=HO.out _ (List.getElem_mem hjl)
       obtain⟨r,hr⟩:∃ r,tgI l k=r:=⟨_,rfl⟩
       have HTg:=Lib.hid (fun (W:World) (hW:Below w2.heap.size w2 W)=>rtarget_at (.slice (some ⟨b,of,none⟩) j cp) l k r W (HI.out.below hW) (by rw [HN.out.1];exact hnm) hjl (by omega) hr)
       rw [hr] at hp
       obtain⟨x,hx⟩:∃ x,l[k]=x:=⟨_,rfl⟩
       rw [hx] at y0 y1 y2 y3 y4 y5 hp
       obtain⟨op,reg,dst,src,off,imm⟩:=x
       simp only at y0 y1 y2 y3 y4 y5
       obtain⟨u,hu⟩:∃ u,L10.jmI ⟨op,reg,dst,src,off,imm⟩=u:=⟨_,rfl⟩
       rw [hu] at hp
       have HJ:=Lib.hid (fun W=>rjumps_at op reg dst src off imm u W hu)
       have HP:=Lib.hid hp
       clear hc hp hof hr hx hu
       cases u
       ·go_wp2_with (go_at_call 33;((with_reducible refine (HJ.out _).mono ?_);rintro e w3 ⟨rfl,b3⟩))
        go_roundw
        case rel=>exact⟨k+1,hlt3,by go_num,Lib.hid ⟨bch hI.out.1 b3,upto_succ hI.out.2 (by rw [HP.out];rfl)⟩⟩
        case measure=>simp [RowKit.intOf];omega
       ·by_cases hr0:r<0
        ·have HE:=Lib.hid (fr_head HF2.out (eaV_some hjl hI.out.2 (by rw [HP.out];simp;omega)) (by decide))
         go_wp2_with (first
          | (go_at_call 33;((with_reducible refine (HJ.out _).mono ?_);rintro e w3 ⟨rfl,b3⟩;have B3:=bch hI.out.1 b3))
          | (go_at_call 34;((with_reducible refine (HTg.out _ B3).mono ?_);rintro e w4 ⟨rfl,b4⟩;have B4:=bch B3 b4))
          | (go_at_call 30;((with_reducible refine (HS.out _ B4).mono ?_);rintro e w5 ⟨rfl,rfl⟩)))
         go_ret2
         cases HE.out
         exact⟨rfl,bch HB2.out B4⟩
        ·have HE:=Lib.hid (show pJ l k=true by rw [HP.out];simp;omega)
         go_wp2_with (first
          | (go_at_call 33;((with_reducible refine (HJ.out _).mono ?_);rintro e w3 ⟨rfl,b3⟩;have B3:=bch hI.out.1 b3))
          | (go_at_call 34;((with_reducible refine (HTg.out _ B3).mono ?_);rintro e w4 ⟨rfl,b4⟩;have B4:=bch B3 b4)))
         go_roundw
         case rel=>exact⟨k+1,hlt3,by go_num,Lib.hid ⟨B4,upto_succ hI.out.2 HE.out⟩⟩
         case measure=>simp [RowKit.intOf];omega
      ·obtain rfl:k=j:=by omega
       have HF3:=Lib.hid (fr_tail HF2.out (eaV_none (fun q hq=>hI.out.2 q (by rw [HN.out.1] at hq;exact hq))))
       have HB3:=Lib.hid hI.out.1
       clear hI HF2
       go_wp2
       go_loopw [10] (fun i wr=>∃ j:Nat,j≤k∧i=.int .i64 (j:Int)∧Hid (Below w2.heap.size w2 wr∧∀ q:Nat,q<j→pW l q=true)) (fun i _=>k-(RowKit.intOf i).toNat)
       case atStart=>exact⟨0,Nat.zero_le _,rfl,Lib.hid ⟨HB3.out,fun q hq=>absurd hq (Nat.not_lt_zero _)⟩⟩
       case round =>
        clear HB3
        obtain⟨j,hj4,rfl,hI⟩:=hrel
        by_cases hlt3:j<k
        ·have hjl:j<l.length:=by rw [HN.out.1];exact hlt3
         obtain⟨b,of,rfl,hbl,hc⟩:=HC.out (by omega)
         obtain⟨y0,y1,y2,y3,y4,y5⟩:=(hc j hjl).below hbl hI.out.1
         have HS:=Lib.hid (fun (W:World) (hW:Below w2.heap.size w2 W)=>HST.out W hW j (by omega))
         have hp:pW l j=(wri (L10.fmI l[j]) l[j].dst != 10):=by unfold pW;rw [atI_is hjl]
         obtain⟨x,hx⟩:∃ x,l[j]=x:=⟨_,rfl⟩
         rw [hx] at y0 y1 y2 y3 y4 y5 hp
         obtain⟨op,reg,dst,src,off,imm⟩:=x
         simp only at y0 y1 y2 y3 y4 y5
         obtain⟨r,hr⟩:∃ r,wri (frm (ix op)) dst=r:=⟨_,rfl⟩
         have HW:=Lib.hid (fun W=>rwrites_at op reg dst src off imm _ r W rfl hr)
         have hp2:pW l j=(r != 10):=by rw [hp,← hr];rfl
         have HP:=Lib.hid hp2
         clear hc hp hp2 hx hr
         by_cases hr0:r=10
         ·subst hr0
          have HE:=Lib.hid (fr_head HF3.out (eaV_some hjl hI.out.2 (by rw [HP.out];rfl)) (by decide))
          go_wp2_with (first
           | (go_at_call 35;((with_reducible refine (HW.out _).mono ?_);rintro e w3 ⟨rfl,b3⟩;have B3:=bch hI.out.1 b3))
           | (go_at_call 30;((with_reducible refine (HS.out _ B3).mono ?_);rintro e w5 ⟨rfl,rfl⟩)))
          go_ret2
          cases HE.out
          exact⟨rfl,bch HB2.out B3⟩
         ·have hrb:(r==10)=false:=by simpa using hr0
          have HE:=Lib.hid (show pW l j=true by rw [HP.out];simpa using hr0)
          clear hr0
          go_wp2_with (go_at_call 35;((with_reducible refine (HW.out _).mono ?_);rintro e w3 ⟨rfl,b3⟩;have B3:=bch hI.out.1 b3))
          go_roundw
          case rel=>exact⟨j+1,hlt3,by go_num,Lib.hid ⟨B3,upto_succ hI.out.2 HE.out⟩⟩
          case measure=>simp [RowKit.intOf];omega
        ·obtain rfl:j=k:=by omega
         have HF4:=Lib.hid (fr_tail HF3.out (eaV_none (fun q hq=>hI.out.2 q (by rw [HN.out.1] at hq;exact hq))))
         have HB3:=Lib.hid hI.out.1
         obtain⟨q,hqj⟩:∃ q,j=q+1:=⟨j-1,by omega⟩
         have hjl:q<l.length:=by rw [HN.out.1];omega
         obtain⟨b,of,rfl,hbl,hc⟩:=HC.out (by omega)
         obtain⟨y0,y1,y2,y3,y4,y5⟩:=(hc q hjl).below hbl hI.out.1
         have HS:=Lib.hid (fun (W:World) (hW:Below w2.heap.size w2 W)=>HST.out W hW q (by omega))
         have hp:pE l q=endF (L10.fmI l[q]):=by unfold pE;rw [atI_is hjl,HN.out.1];simp;omega
         have hp0:∀ i,i<q→pE l i=true:=fun i hi=>by unfold pE;rw [HN.out.1];simp;omega
         obtain⟨x,hx⟩:∃ x,l[q]=x:=⟨_,rfl⟩
         rw [hx] at y0 y1 y2 y3 y4 y5 hp
         obtain⟨op,reg,dst,src,off,imm⟩:=x
         simp only at y0 y1 y2 y3 y4 y5
         obtain⟨f,hf⟩:∃ f,frm (ix op)=f:=⟨_,rfl⟩
         have HFm:=Lib.hid (fun W=>rform_at op f W hf)
         have e1:(j:Int)-1=(q:Int):=by omega
         have hlq:(q:Int)<(j:Int):=by omega
         obtain⟨v3,h3⟩:∃ v,(f != 3)=v:=⟨_,rfl⟩
         obtain⟨v6,h6⟩:∃ v,(f != 6)=v:=⟨_,rfl⟩
         have hp2:pE l q=(!v3 || !v6):=by
          rw [hp,← h3,← h6,← hf]
          simp [endF,L10.fmI,bne]
         have HP:=Lib.hid (And.intro hp2 hp0)
         have HQ:=Lib.hid hqj
         clear hc hp hp2 hp0 hx hf hI hqj
         have HGd:pE l q=true→(S,E)=(0,0):=fun h=>by
          have:=HF4.out
          rw [eaV_none (fun i hi=>by
           rw [HN.out.1,HQ.out] at hi
           by_cases hc:i<q
           ·exact HP.out.2 i hc
           ·obtain rfl:i=q:=by omega
            exact h)] at this
          exact this.symm
         have HG:=Lib.hid HGd
         clear HGd
         cases v3
         ·have HE:=Lib.hid (HG.out (by rw [HP.out.1];rfl))
          go_wp2_with (go_at_call 29;((with_reducible refine (HFm.out _).mono ?_);rintro e w3 ⟨rfl,rfl⟩))
          go_ret2
          cases HE.out
          exact⟨rfl,bch HB2.out HB3.out⟩
         ·cases v6
          ·have HE:=Lib.hid (HG.out (by rw [HP.out.1];rfl))
           go_wp2_with (go_at_call 29;((with_reducible refine (HFm.out _).mono ?_);rintro e w3 ⟨rfl,rfl⟩))
           go_ret2
           cases HE.out
           exact⟨rfl,bch HB2.out HB3.out⟩
          ·have HE:=Lib.hid (fr_head HF4.out (eaV_some hjl HP.out.2 (by rw [HP.out.1];rfl)) (by decide))
           go_wp2_with (first
            | (go_at_call 29;((with_reducible refine (HFm.out _).mono ?_);rintro e w3 ⟨rfl,rfl⟩))
            | (go_at_call 30;((with_reducible refine (HS.out _ HB3.out).mono ?_);rintro e w5 ⟨rfl,rfl⟩)))
           go_ret2
           cases HE.out
           exact⟨rfl,bch HB2.out HB3.out⟩
theorem rcheck17_at (vm vc vr:Value) (o:Ob) (S E:Int) (w:World) (ho:OA w vm vc vr o) (hs:OS o) (hE:vE o=(S,E)) :
  Calls Tryz.prog 12 #[.agg #[vm,vc,vr]] w fun e w'=>e=.returned (.tuple #[.int .i64 S,.int .i64 E])∧Below w.heap.size w w':=by
 by_cases hR:chE o=0
 ·by_cases h0:(L5.la (rdC o.code)).e=0
  ·exact rcheck_all vm vc vr o S E w ho hs hR h0 hE
  ·have h1:=rcheck_two vm vc vr o w ho hs hR h0
   unfold vE vL at hE
   rw [fr_skip (x:=(0,chE o)) hR,fr_hit (x:=insE o.code) (by rw [insE_no h0];exact h0),insE_no h0] at hE
   cases hE
   exact h1
 ·have h1:=rcheck_one vm vc vr o _ w ho hs rfl hR
  unfold vE vL at hE
  rw [fr_hit (x:=(0,chE o)) hR] at hE
  cases hE
  exact h1
end Go.Proofs.YtihiggnglmhggaaGreatDoor.L17
end
end
