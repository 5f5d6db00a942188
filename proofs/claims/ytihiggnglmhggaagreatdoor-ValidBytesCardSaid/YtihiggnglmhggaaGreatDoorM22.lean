/- Lemmas and walks of L10Cln, L5Inv, L3Rfx, L5Rput, L5Renc: what each theorem states; conditions stand in each theorem. -/
import Derived.Test.YtihiggnglmhggaaGreatDoorM16
import Derived.Test.YtihiggnglmhggaaGreatDoorM7
set_option maxHeartbeats 4000000
set_option maxRecDepth 100000
section
namespace Go.Proofs.YtihiggnglmhggaaGreatDoor.L10
open Go.RowKit Go.Maps
attribute [local go_sem] Oper.semAt_some
theorem flat_get {α:Type} (f:α→List Value) (c:Nat) (hf:∀ x,(f x).length=c):∀ (l:List α) (j:Nat) (hj:j<l.length) (i:Nat) (u:Value),(f l[j])[i]?=some u→(l.flatMap f)[j*c+i]?=some u
 | a::r,0,_,i,u,h=>by
  have hi:i<(f a).length:=(List.getElem?_eq_some_iff.1 h).1
  rw [List.flatMap_cons,Nat.zero_mul,Nat.zero_add,List.getElem?_append_left hi]
  exact h
 | a::r,j+1,hj,i,u,h=>by
  rw [List.flatMap_cons,List.getElem?_append_right (by rw [hf,Nat.add_mul];omega),hf,show (j+1)*c+i-c=j*c+i by rw [Nat.add_mul];omega]
  exact flat_get f c hf r j (by simpa using hj) i u h
end Go.Proofs.YtihiggnglmhggaaGreatDoor.L10
end
section
namespace Go.Proofs.YtihiggnglmhggaaGreatDoor.L5
open Go.RowKit L3 L1 L4
theorem id_inv:∀ k,k<86→∀ reg:Bool,cdB k reg=true→idF (cdV k reg) (sr k) (of k) (im k) 86 0=((k:Int),reg,true):=by decide +kernel
def kinQ (j k:Nat) (reg:Bool):Bool:=!(regK (cdV j reg) k || cdV j reg==cd k) || ((!(fm k==10 || fm k==11) || !uS (fm j) reg) && ((!(fm k==0 || fm k==2) || !uO (fm j)) && (!(fm k==1 && im k != 0) || !uI (fm j) reg)))
theorem kin0:((List.range 86).all fun j=>(List.range 86).all fun k=>(!cdB j true || kinQ j k true) && (!cdB j false || kinQ j k false))=true:=by decide +kernel
theorem kin1 (j:Nat) (hj:j<86) (reg:Bool) (hr:cdB j reg=true) (k:Nat) (hk:k<86) (hh:(regK (cdV j reg) k || cdV j reg==cd k)=true) :
  ((fm k==10 || fm k==11)=true→uS (fm j) reg=false)∧((fm k==0 || fm k==2)=true→uO (fm j)=false)∧((fm k==1 && im k != 0)=true→uI (fm j) reg=false):=by
 have h:=List.all_eq_true.1 (List.all_eq_true.1 kin0 j (List.mem_range.2 hj)) k (List.mem_range.2 hk)
 have hq:kinQ j k reg=true:=by
  rw [Bool.and_eq_true] at h
  cases reg
  ·simpa [hr] using h.2
  ·simpa [hr] using h.1
 unfold kinQ at hq
 rw [hh] at hq
 simp only [Bool.not_true,Bool.false_or,Bool.and_eq_true,Bool.or_eq_true,Bool.not_eq_true'] at hq
 obtain⟨q1,q2,q3⟩:=hq
 refine⟨fun h=>?_,fun h=>?_,fun h=>?_⟩
 ·rcases q1 with q|q
  ·rw [h] at q;cases q
  ·exact q
 ·rcases q2 with q|q
  ·rw [h] at q;cases q
  ·exact q
 ·rcases q3 with q|q
  ·rw [h] at q;cases q
  ·exact q
theorem idF_same (c s o i s' o' i':Int):∀ n k:Nat,(∀ q,k≤q→q<k+n→hitK c s o i q=hitK c s' o' i' q)→idF c s o i n k=idF c s' o' i' n k
 | 0,_,_=>rfl
 | n+1,k,h=>by
  unfold idF
  rw [h k (Nat.le_refl _) (by omega),idF_same c s o i s' o' i' n (k+1) (fun q h1 h2=>h q (by omega) (by omega))]
theorem id_of {x:Ix} (h0:x.err=0) (I:Int) (hI:uI x.f x.reg=false→I=im (ix x.op)):idF (cdV (ix x.op) x.reg) (x.src+sr (ix x.op)) (x.off+of (ix x.op)) I 86 0=(x.op,x.reg,true):=by
 have hc:=(chk_ok _ _ _ _ _ _).1 h0
 have hj:ix x.op<86:=frm_lt hc.hop
 have hfm:fm (ix x.op)=x.f:=(frm_fm hj).symm
 have hK:cdB (ix x.op) x.reg=true:=by
  unfold cdB
  rw [hfm]
  simpa [hj,isR,Bool.or_assoc] using hc.hreg
 have hop:((ix x.op:Nat):Int)=x.op:=by
  unfold ix at hj ⊢
  split at hj
  ·rw [if_pos (by assumption)];omega
  ·omega
 have h1:=id_inv _ hj x.reg hK
 rw [hop] at h1
 rw [← h1]
 refine idF_same _ _ _ _ _ _ _ 86 0 fun q _ hq=>?_
 unfold hitK
 cases hh:(regK (cdV (ix x.op) x.reg) q || cdV (ix x.op) x.reg==cd q)
 ·simp
 ·obtain⟨k1,k2,k3⟩:=kin1 _ hj x.reg hK q (by omega) hh
  rw [hfm] at k1 k2 k3
  congr 1
  unfold sameK
  have e1:wiR (fm q) (x.src+sr (ix x.op)) (sr q)=wiR (fm q) (sr (ix x.op)) (sr q):=by
   unfold wiR
   cases h:(fm q==10 || fm q==11)
   ·rfl
   ·have:=hc.us.resolve_left (by rw [k1 h];decide)
    simp [this]
  have e2:wiO (fm q) (x.off+of (ix x.op)) (of q)=wiO (fm q) (of (ix x.op)) (of q):=by
   unfold wiO
   cases h:(fm q==0 || fm q==2)
   ·rfl
   ·have:=hc.uo.resolve_left (by rw [k2 h];decide)
    simp [this]
  have e3:wiI (fm q) I (im q)=wiI (fm q) (im (ix x.op)) (im q):=by
   unfold wiI
   cases h:(fm q==1 && im q != 0)
   ·rfl
   ·rw [hI (k3 h)]
  rw [e1,e2,e3]
theorem sx16_two (z:Int) (h0:-32768≤z) (h1:z≤32767):sx 16 (((UInt8.ofNat (z % 256).toNat).toNat:Int)*1+((UInt8.ofNat (z / 256 % 256).toNat).toNat:Int)*256)=z:=by
 rw [byte_nat,byte_nat]
 unfold sx
 simp
 omega
theorem four_sum (z:Int):((UInt8.ofNat (z % 256).toNat).toNat:Int)*1+((UInt8.ofNat (z / 256 % 256).toNat).toNat:Int)*256+((UInt8.ofNat (z / 256 / 256 % 256).toNat).toNat:Int)*65536+((UInt8.ofNat (z / 256 / 256 / 256 % 256).toNat).toNat:Int)*16777216=z % 4294967296:=by
 rw [byte_nat,byte_nat,byte_nat,byte_nat]
 omega
theorem sx32_mod (z:Int):sx 32 (z % 4294967296)=sx 32 z:=by
 unfold sx
 simp
theorem sx32_id (z:Int) (h0:-2147483648≤z) (h1:z≤2147483647):sx 32 z=z:=by
 unfold sx
 simp
 omega
theorem sx32_low (z:Int):sx 32 z % 4294967296=z % 4294967296:=by
 unfold sx
 simp
theorem glue (z:Int):z % 4294967296+z / 4294967296*4294967296=z:=by omega
theorem hi_b (z:Int) (h0:-9223372036854775808≤z) (h1:z≤9223372036854775807):-2147483648≤z / 4294967296∧z / 4294967296≤2147483647:=by omega
theorem good_parts {x:Ix} (h0:x.err=0):ix x.op<86∧0≤cdV (ix x.op) x.reg∧cdV (ix x.op) x.reg≤255∧0≤x.dst∧x.dst≤10∧0≤x.src+sr (ix x.op)∧x.src+sr (ix x.op)≤10∧-32768≤x.off+of (ix x.op)∧x.off+of (ix x.op)≤32767:=by
 have hc:=(chk_ok _ _ _ _ _ _).1 h0
 have hj:ix x.op<86:=frm_lt hc.hop
 have hfm:fm (ix x.op)=x.f:=(frm_fm hj).symm
 have t1:=tab1 _ hj
 have t2:=tab2 _ hj x.reg
 have t3:=tab3 _ hj x.reg
 rw [hfm] at t2
 have gd:=hc.gd
 have gs:=hc.gs
 have ro:=hc.ro
 refine⟨hj,t3.1,t3.2,gd.1,gd.2,by omega,?_,?_,?_⟩
 ·rcases hc.us with h|h
  ·have:=t2.1 h;omega
  ·omega
 ·rcases hc.uo with h|h
  ·have:=t2.2.1 h;omega
  ·omega
 ·rcases hc.uo with h|h
  ·have:=t2.2.1 h;omega
  ·omega
theorem good_imm {x:Ix} (h0:x.err=0) (hs:slo x.f=1):-2147483648≤x.imm+im (ix x.op)∧x.imm+im (ix x.op)≤2147483647:=by
 have hc:=(chk_ok _ _ _ _ _ _).1 h0
 have hj:ix x.op<86:=frm_lt hc.hop
 have hfm:fm (ix x.op)=x.f:=(frm_fm hj).symm
 have t1:=tab1 _ hj
 have t2:=tab2 _ hj x.reg
 rw [hfm] at t2
 rcases hc.ui with h|h
 ·have h2:=t2.2.2 h
  have hr:=hc.ri
  have hF:IsF x.f:=frm_isF x.op
  unfold rng at hr
  by_cases h5:x.f=5
  ·rw [h5] at hr
   simp at hr
   omega
  by_cases h11:x.f=11
  ·rw [h11] at hs
   exact absurd hs (by decide)
  by_cases h10:x.f=10
  ·rw [h10] at hs
   exact absurd hs (by decide)
  ·have e5:(x.f==5)=false:=by simpa using h5
   have e11:(x.f==11)=false:=by simpa using h11
   have e10:(x.f==10)=false:=by simpa using h10
   rw [e5,e11,e10] at hr
   simp only [Bool.false_eq_true,if_false,beq_iff_eq] at hr
   have:=sx32_b x.imm
   omega
 ·omega
theorem dec_enc (x:Ix) (r:List UInt8) (h0:x.err=0) (hf:x.fits):decF (x.bytes++r)=(x,slo x.f,0):=by
 have hc:=(chk_ok _ _ _ _ _ _).1 h0
 obtain⟨hj,c0,c1,d0,d1,s0,s1,o0,o1⟩:=good_parts h0
 have hfm:fm (ix x.op)=x.f:=(frm_fm hj).symm
 have t2:=tab2 _ hj x.reg
 have t4:=tab4 _ hj
 rw [hfm] at t2 t4
 obtain⟨a,ha⟩:∃ a,UInt8.ofNat (cdV (ix x.op) x.reg % 256).toNat=a:=⟨_,rfl⟩
 obtain⟨b,hb⟩:∃ b,UInt8.ofNat ((16*(x.src+sr (ix x.op))+x.dst) % 256).toNat=b:=⟨_,rfl⟩
 have ha':(a.toNat:Int)=cdV (ix x.op) x.reg:=by rw [← ha,byte_nat];omega
 have hb':(b.toNat:Int)=16*(x.src+sr (ix x.op))+x.dst:=by rw [← hb,byte_nat];omega
 obtain⟨q,hq⟩:∃ q,(if slo x.f=2 then 0::0::0::0::le 4 (x.imm / 4294967296) else [])++r=q:=⟨_,rfl⟩
 have hl:x.bytes++r=a::b::(le 2 (x.off+of (ix x.op))++(le 4 (x.imm+im (ix x.op))++q)):=by
  rw [← hq,← ha,← hb]
  unfold Ix.bytes encL
  simp only [List.cons_append,List.append_assoc]
 have hoff:offL (x.bytes++r)=x.off+of (ix x.op):=by
  rw [hl,le2_eq]
  exact sx16_two _ o0 o1
 have himm:immL (x.bytes++r)=sx 32 (x.imm+im (ix x.op)):=by
  rw [hl,le2_eq,le4_eq]
  show sx 32 _=_
  exact (congrArg (sx 32) (four_sum _)).trans (sx32_mod _)
 have hb0:bt' (x.bytes++r) 0=a:=by rw [hl];rfl
 have hb1:bt' (x.bytes++r) 1=b:=by rw [hl];rfl
 have hI:uI x.f x.reg=false→sx 32 (x.imm+im (ix x.op))=im (ix x.op):=by
  intro h
  have:=hc.ui.resolve_left (by rw [h];decide)
  have t1:=tab1 _ hj
  rw [this,Int.zero_add]
  exact sx32_id _ (by omega) (by omega)
 have hid:idL (x.bytes++r)=(x.op,x.reg,true):=by
  unfold idL
  rw [hb0,hb1,hoff,himm,ha',hb']
  have e:(16*(x.src+sr (ix x.op))+x.dst) / 16=x.src+sr (ix x.op):=by omega
  rw [e]
  exact id_of h0 _ hI
 have hfL:fL (x.bytes++r)=x.f:=by unfold fL;rw [hid];rfl
 have hlen:=bytes_length x
 have hn:x.bytes.length=if slo x.f=2 then 16 else 8:=encL_length _ _ _ _ _ _ _
 have hiv:ivL (x.bytes++r)=if uI x.f x.reg then sx 32 (x.imm+im (ix x.op)) else 0:=by unfold ivL;rw [hfL,hid,himm]
 have hrd:rdL (x.bytes++r)=x:=by
  have e1:(if uD x.f then ((b.toNat:Int)) % 16 else 0)=x.dst:=by
   rw [hb']
   rcases hc.ud with h|h
   ·rw [if_pos h];omega
   ·split <;> omega
  have e2:(if uS x.f x.reg then ((b.toNat:Int)) / 16 else 0)=x.src:=by
   rw [hb']
   rcases hc.us with h|h
   ·have:=t2.1 h
    rw [if_pos h];omega
   ·split
    ·rename_i h'
     have:=t2.1 h'
     omega
    ·exact h.symm
  have e3:(if uO x.f then x.off+of (ix x.op) else 0)=x.off:=by
   rcases hc.uo with h|h
   ·have:=t2.2.1 h
    rw [if_pos h];omega
   ·split
    ·rename_i h'
     have:=t2.2.1 h'
     omega
    ·exact h.symm
  have e4:(if slo x.f=2 then bits .or .i64 (wrap64 (ivL (x.bytes++r) % 4294967296)) (hiL (x.bytes++r)*4294967296) else ivL (x.bytes++r))=x.imm:=by
   by_cases hs:slo x.f=2
   ·rw [if_pos hs]
    obtain⟨q1,q2,q3,q4⟩:=t4.2 hs
    have hu:uI x.f x.reg=true:=by cases x.reg <;> assumption
    have hhi:hiL (x.bytes++r)=x.imm / 4294967296:=by
     rw [if_pos hs] at hq
     rw [hl,← hq,le2_eq,le4_eq,le4_eq]
     show sx 32 _=_
     have hbd:=hi_b _ hf.1 hf.2
     exact (congrArg (sx 32) (four_sum _)).trans ((sx32_mod _).trans (sx32_id _ hbd.1 hbd.2))
    have hbd:=hi_b _ hf.1 hf.2
    rw [hiv,if_pos hu,q2,Int.add_zero,sx32_low,hhi,show wrap64 (x.imm % 4294967296)=x.imm % 4294967296 by unfold wrap64;omega,or_hi _ _ (Int.emod_nonneg _ (by decide)) (Int.emod_lt_of_pos _ (by decide)) hbd.1 hbd.2]
    exact glue x.imm
   ·rw [if_neg hs,hiv]
    have hs1:slo x.f=1:=t4.1.resolve_right hs
    have hbd:=good_imm h0 hs1
    rcases hc.ui with h|h
    ·have h2:=t2.2.2 h
     rw [if_pos h,sx32_id _ hbd.1 hbd.2];omega
    ·split
     ·rename_i h'
      have h2:=t2.2.2 h'
      rw [sx32_id _ hbd.1 hbd.2];omega
     ·exact h.symm
  unfold rdL
  rw [hfL,hid,hb1,hoff,e1,e2,e3,e4]
 unfold decF
 rw [if_neg (by rw [List.length_append,hn];split <;> omega),hid,hfL,hrd,hb1,hb']
 rw [if_neg (by simp),if_neg (by rw [List.length_append,hn];intro h;rw [if_pos h.1] at h;omega),if_neg (by omega)]
 have hpre:(x.bytes++r).take x.bytes.length=x.bytes:=by rw [List.take_left'];rfl
 rw [if_pos ⟨h0,hpre⟩]
end Go.Proofs.YtihiggnglmhggaaGreatDoor.L5
end
section
namespace Go.Proofs.YtihiggnglmhggaaGreatDoor.L3
open Go.RowKit
theorem rfix_a (k:Nat) (h:0≤k∧k≤11) (w:World):Calls Tryz.prog 76 #[.int .i64 (k:Int)] w fun e w'=>e=.returned (.tuple #[.int .i64 0,.int .i64 0,.int .i64 0])∧Below w.heap.size w w':=by
 have g0:decide ((30:Int)≤(k:Int))=false:=by rw [decide_eq_false_iff_not];omega
 have g1:decide ((35:Int)≤(k:Int))=false:=by rw [decide_eq_false_iff_not];omega
 have g2:decide ((k:Int)≤34)=true:=by rw [decide_eq_true_iff];omega
 have g3:decide ((k:Int)≤43)=true:=by rw [decide_eq_true_iff];omega
 have g4:((k:Int)==12)=false:=by rw [beq_eq_false_iff_ne];omega
 have g5:((k:Int)==13)=false:=by rw [beq_eq_false_iff_ne];omega
 have g6:((k:Int)==26)=false:=by rw [beq_eq_false_iff_ne];omega
 have g7:((k:Int)==27)=false:=by rw [beq_eq_false_iff_ne];omega
 have g8:((k:Int)==85)=false:=by rw [beq_eq_false_iff_ne];omega
 clear h
 go_enter Tryz.func76,Tryz.ntmps76
 go_wp2
 go_ret3
 exact⟨rfl,Below.refl _ _⟩
theorem rfix_b (k:Nat) (h:14≤k∧k≤25) (w:World):Calls Tryz.prog 76 #[.int .i64 (k:Int)] w fun e w'=>e=.returned (.tuple #[.int .i64 0,.int .i64 0,.int .i64 0])∧Below w.heap.size w w':=by
 have g0:decide ((30:Int)≤(k:Int))=false:=by rw [decide_eq_false_iff_not];omega
 have g1:decide ((35:Int)≤(k:Int))=false:=by rw [decide_eq_false_iff_not];omega
 have g2:decide ((k:Int)≤34)=true:=by rw [decide_eq_true_iff];omega
 have g3:decide ((k:Int)≤43)=true:=by rw [decide_eq_true_iff];omega
 have g4:((k:Int)==12)=false:=by rw [beq_eq_false_iff_ne];omega
 have g5:((k:Int)==13)=false:=by rw [beq_eq_false_iff_ne];omega
 have g6:((k:Int)==26)=false:=by rw [beq_eq_false_iff_ne];omega
 have g7:((k:Int)==27)=false:=by rw [beq_eq_false_iff_ne];omega
 have g8:((k:Int)==85)=false:=by rw [beq_eq_false_iff_ne];omega
 clear h
 go_enter Tryz.func76,Tryz.ntmps76
 go_wp2
 go_ret3
 exact⟨rfl,Below.refl _ _⟩
theorem rfix_c (k:Nat) (h:28≤k∧k≤29) (w:World):Calls Tryz.prog 76 #[.int .i64 (k:Int)] w fun e w'=>e=.returned (.tuple #[.int .i64 0,.int .i64 0,.int .i64 0])∧Below w.heap.size w w':=by
 have g0:decide ((30:Int)≤(k:Int))=false:=by rw [decide_eq_false_iff_not];omega
 have g1:decide ((35:Int)≤(k:Int))=false:=by rw [decide_eq_false_iff_not];omega
 have g2:decide ((k:Int)≤34)=true:=by rw [decide_eq_true_iff];omega
 have g3:decide ((k:Int)≤43)=true:=by rw [decide_eq_true_iff];omega
 have g4:((k:Int)==12)=false:=by rw [beq_eq_false_iff_ne];omega
 have g5:((k:Int)==13)=false:=by rw [beq_eq_false_iff_ne];omega
 have g6:((k:Int)==26)=false:=by rw [beq_eq_false_iff_ne];omega
 have g7:((k:Int)==27)=false:=by rw [beq_eq_false_iff_ne];omega
 have g8:((k:Int)==85)=false:=by rw [beq_eq_false_iff_ne];omega
 clear h
 go_enter Tryz.func76,Tryz.ntmps76
 go_wp2
 go_ret3
 exact⟨rfl,Below.refl _ _⟩
theorem rfix_d (k:Nat) (h:44≤k∧k≤84) (w:World):Calls Tryz.prog 76 #[.int .i64 (k:Int)] w fun e w'=>e=.returned (.tuple #[.int .i64 0,.int .i64 0,.int .i64 0])∧Below w.heap.size w w':=by
 have g0:decide ((30:Int)≤(k:Int))=true:=by rw [decide_eq_true_iff];omega
 have g1:decide ((35:Int)≤(k:Int))=true:=by rw [decide_eq_true_iff];omega
 have g2:decide ((k:Int)≤34)=false:=by rw [decide_eq_false_iff_not];omega
 have g3:decide ((k:Int)≤43)=false:=by rw [decide_eq_false_iff_not];omega
 have g4:((k:Int)==12)=false:=by rw [beq_eq_false_iff_ne];omega
 have g5:((k:Int)==13)=false:=by rw [beq_eq_false_iff_ne];omega
 have g6:((k:Int)==26)=false:=by rw [beq_eq_false_iff_ne];omega
 have g7:((k:Int)==27)=false:=by rw [beq_eq_false_iff_ne];omega
 have g8:((k:Int)==85)=false:=by rw [beq_eq_false_iff_ne];omega
 clear h
 go_enter Tryz.func76,Tryz.ntmps76
 go_wp2
 go_ret3
 exact⟨rfl,Below.refl _ _⟩
theorem rfix_e (k:Nat) (h:35≤k∧k≤43) (w:World):Calls Tryz.prog 76 #[.int .i64 (k:Int)] w fun e w'=>e=.returned (.tuple #[.int .i64 0,.int .i64 0,.int .i64 (bt k)])∧Below w.heap.size w w':=by
 obtain⟨v,hv⟩:∃ v,bt k=v:=⟨_,rfl⟩
 have HB:Hid (bt (ix (k:Int))=v):=Lib.hid (by rw [ix_nat (by omega)];exact hv)
 rw [hv]
 clear hv
 have g0:decide ((30:Int)≤(k:Int))=true:=by rw [decide_eq_true_iff];omega
 have g1:decide ((35:Int)≤(k:Int))=true:=by rw [decide_eq_true_iff];omega
 have g2:decide ((k:Int)≤34)=false:=by rw [decide_eq_false_iff_not];omega
 have g3:decide ((k:Int)≤43)=true:=by rw [decide_eq_true_iff];omega
 have g4:((k:Int)==12)=false:=by rw [beq_eq_false_iff_ne];omega
 have g5:((k:Int)==13)=false:=by rw [beq_eq_false_iff_ne];omega
 have g6:((k:Int)==26)=false:=by rw [beq_eq_false_iff_ne];omega
 have g7:((k:Int)==27)=false:=by rw [beq_eq_false_iff_ne];omega
 have g8:((k:Int)==85)=false:=by rw [beq_eq_false_iff_ne];omega
 clear h
 go_enter Tryz.func76,Tryz.ntmps76
 go_wp2_with (first|(go_at_call 119;((with_reducible refine (rbits_at _ _ _ HB.out).mono ?_);rintro e w1 ⟨rfl,hb1⟩)))
 go_ret3
 exact⟨rfl,hb1⟩
theorem rfix_f (k:Nat) (h:30≤k∧k≤34) (w:World):Calls Tryz.prog 76 #[.int .i64 (k:Int)] w fun e w'=>e=.returned (.tuple #[.int .i64 (sr k),.int .i64 (of k),.int .i64 (im k)])∧Below w.heap.size w w':=by
 rcases (by omega:k=30∨k=31∨k=32∨k=33∨k=34) with rfl|rfl|rfl|rfl|rfl
 all_goals
  clear h
  go_enter Tryz.func76,Tryz.ntmps76
  go_wp2
  go_region
  go_wp2
  go_ret3
  exact⟨rfl,(bnew w _).drew⟩
theorem fix_vals:∀ k,k<86→((0≤k∧k≤11)∨(14≤k∧k≤25)∨(28≤k∧k≤29)∨(44≤k∧k≤84)→sr k=0∧of k=0∧im k=0)∧(35≤k∧k≤43→sr k=0∧of k=0∧im k=bt k):=by decide +kernel
theorem fix_split {k:Nat} (h:k<86):((0≤k∧k≤11)∨(14≤k∧k≤25)∨(28≤k∧k≤29)∨(44≤k∧k≤84)∨(35≤k∧k≤43)∨(30≤k∧k≤34))∨k=12∨k=13∨k=26∨k=27∨k=85:=by omega
theorem rfixed_in (k:Nat) (hk:k<86) (w:World):Calls Tryz.prog 76 #[.int .i64 (k:Int)] w fun e w'=>e=.returned (.tuple #[.int .i64 (sr k),.int .i64 (of k),.int .i64 (im k)])∧Below w.heap.size w w':=by
 rcases fix_split hk with (h|h|h|h|h|h)|rfl|rfl|rfl|rfl|rfl
 ·obtain⟨e1,e2,e3⟩:=(fix_vals k hk).1 (by omega);rw [e1,e2,e3];exact rfix_a k h w
 ·obtain⟨e1,e2,e3⟩:=(fix_vals k hk).1 (by omega);rw [e1,e2,e3];exact rfix_b k h w
 ·obtain⟨e1,e2,e3⟩:=(fix_vals k hk).1 (by omega);rw [e1,e2,e3];exact rfix_c k h w
 ·obtain⟨e1,e2,e3⟩:=(fix_vals k hk).1 (by omega);rw [e1,e2,e3];exact rfix_d k h w
 ·obtain⟨e1,e2,e3⟩:=(fix_vals k hk).2 h;rw [e1,e2,e3];exact rfix_e k h w
 ·exact rfix_f k h w
 all_goals
  clear hk
  go_enter Tryz.func76,Tryz.ntmps76
  go_wp2
  go_ret3
  exact⟨rfl,Below.refl _ _⟩
theorem rfixed_out (op:Int) (h:op<0∨86≤op) (w:World):Calls Tryz.prog 76 #[.int .i64 op] w fun e w'=>e=.returned (.tuple #[.int .i64 0,.int .i64 0,.int .i64 0])∧Below w.heap.size w w':=by
 have e1:(op==12)=false:=by rw [beq_eq_false_iff_ne];omega
 have e2:(op==13)=false:=by rw [beq_eq_false_iff_ne];omega
 have e3:(op==26)=false:=by rw [beq_eq_false_iff_ne];omega
 have e4:(op==27)=false:=by rw [beq_eq_false_iff_ne];omega
 have e5:(op==85)=false:=by rw [beq_eq_false_iff_ne];omega
 rcases h with h|h
 ·have f1:decide ((30:Int)≤op)=false:=by rw [decide_eq_false_iff_not];omega
  have f2:decide ((35:Int)≤op)=false:=by rw [decide_eq_false_iff_not];omega
  clear h
  go_enter Tryz.func76,Tryz.ntmps76
  go_wp2
  go_ret3
  exact⟨rfl,Below.refl _ _⟩
 ·have f1:decide ((30:Int)≤op)=true:=by rw [decide_eq_true_iff];omega
  have f2:decide ((35:Int)≤op)=true:=by rw [decide_eq_true_iff];omega
  have f3:decide (op≤34)=false:=by rw [decide_eq_false_iff_not];omega
  have f4:decide (op≤43)=false:=by rw [decide_eq_false_iff_not];omega
  clear h
  go_enter Tryz.func76,Tryz.ntmps76
  go_wp2
  go_ret3
  exact⟨rfl,Below.refl _ _⟩
theorem rfixed_at (op r o i:Int) (w:World) (hr:sr (ix op)=r) (ho:of (ix op)=o) (hi:im (ix op)=i):Calls Tryz.prog 76 #[.int .i64 op] w fun e w'=>e=.returned (.tuple #[.int .i64 r,.int .i64 o,.int .i64 i])∧Below w.heap.size w w':=by
 subst hr ho hi
 by_cases h:0≤op∧op<86
 ·have:=rfixed_in (ix op) (ix_lt h) w
  rwa [ix_in h] at this
 ·rw [ix_out h]
  exact rfixed_out op (by omega) w
end Go.Proofs.YtihiggnglmhggaaGreatDoor.L3
end
section
namespace Go.Proofs.YtihiggnglmhggaaGreatDoor.L5
open Go.RowKit L3 L1 L4
theorem le_snoc:∀ (j:Nat) (z:Int),le (j+1) z=le j z++[UInt8.ofNat (z / 256 ^ j % 256).toNat]
 | 0,z=>by simp [le]
 | j+1,z=>by
  have e:z / 256 ^ (j+1)=z / 256 / 256 ^ j:=by rw [Int.pow_succ',Int.ediv_ediv_of_nonneg (by decide)]
  rw [le,le_snoc j (z / 256),le,List.cons_append,e]
theorem rput_at (base m:Nat) (l:List UInt8) (v:Value) (z:Int) (n:Nat) (w:World) (hown:w.ownsRow base 5 1 v m (byL l)) (hb:base≤w.heap.size) (h0:0≤z) (h1:z<18446744073709551616) (hn:n≤8) (hm:m≤10000000) :
  Calls Tryz.prog 90 #[v,.int .u64 z,.int .i64 (n:Int)] w fun e w'=>∃ v',e=.returned v'∧w'.ownsRow base 5 1 v' (m+n) (byL (l++le n z))∧Below base w w':=by
 obtain⟨i0,hi0,hz0,hz1,hz2⟩:=info_parts Tryz.info5
 obtain⟨va,vc,rfl⟩:=owns_slice' hown
 go_enter Tryz.func90,Tryz.ntmps90
 go_wp2
 go_loopw [0,1,7] (fun b x i wr=>∃ (j:Nat) (y:Int),j≤n∧i=.int .i64 (j:Int)∧x=.int .u64 y∧0≤y∧y<18446744073709551616∧Hid (y=z / 256 ^ j)∧wr.ownsRow base 5 1 b (m+j) (byL (l++le j z))∧Below base w wr) (fun _ _ i _=>n-(intOf i).toNat)
 case atStart=>exact⟨0,z,Nat.zero_le _,rfl,rfl,h0,h1,Lib.hid (by simp),by simpa [le] using hown,Below.refl _ _⟩
 case round =>
  obtain⟨j,y,hj,rfl,rfl,hy0,hy1,hY,hown,hB⟩:=hrel
  by_cases hlt:j<n
  ·have hlt':(j:Int)<(n:Int):=by omega
   have hsz:=hB.size
   go_wp2_with (at_builtin;refine wpList_append_own _ rfl _ _ 23 rfl base 5 i0 (.int .u8 0) 1 1 Tryz.underlying23 hi0 hz0 hz1 hz2 rfl (by decide) _ (m+j) _ rfl (hown.alloc _) ⟨wr.heap.size,0,none⟩ 1 1 [.int .u8 (y % 256)] rfl rfl (cell_one_new _ _ _) (by simp [Value.oneCell']) (by unfold maxLen;omega) (by omega) (by simp;omega) ?_;intro v' w3 hown3 hgrow3 _)
   go_roundw
   case rel =>
    refine⟨j+1,y / 256,by omega,by go_num,rfl,by omega,by omega,Lib.hid ?_,?_,(hB.alloc (by omega) _).grown hgrow3 (by simp;omega) (own_base hown)⟩
    ·rw [hY.out,Int.ediv_ediv_of_nonneg (Int.pow_nonneg (by decide)),← Int.pow_succ]
    ·rw [le_snoc,← List.append_assoc,byL_append,← hY.out]
     have e:byL [UInt8.ofNat (y % 256).toNat]=[.int .u8 (y % 256)]:=by simp only [byL,List.map_cons,List.map_nil,byte_nat]
     rw [e]
     exact hown3
   case measure=>simp [intOf];omega
  ·have hge:¬ (j:Int)<(n:Int):=by omega
   obtain rfl:j=n:=by omega
   go_wp2
   go_ret
   exact⟨_,rfl,hown,hB⟩
theorem own_mono {w:World} {base base' e:TypeId} {size:Nat} {v:Value} {n:Nat} {xs:List Value} (h:w.ownsRow base e size v n xs) (hb:base'≤base):w.ownsRow base' e size v n xs:=by
 refine⟨h.1,?_⟩
 rcases h.2 with h|⟨g,cap,cur,hv,hg,r⟩
 ·exact .inl h
 ·exact .inr ⟨g,cap,cur,hv,Nat.le_trans hb hg,r⟩
theorem own_two (w:World) (base:Nat) (hb:base≤w.heap.size) (a b:UInt8):(w.alloc (.cells #[.int .u8 (a.toNat:Int),.int .u8 (b.toNat:Int)] 5)).ownsRow base 5 1 (.slice (some ⟨w.heap.size,0,none⟩) 2 2) 2 (byL [a,b]) :=
 ⟨by simp [byL],.inr ⟨w.heap.size,2,_,rfl,hb,heap_alloc_last w _,by omega,by unfold maxLen;omega,rfl,by simp [byL]⟩⟩
structure RenS (w W:World) (X:Array Value):Prop where
 hb:Below (w.heap.size+1) (w.alloc (.cells X 45)) W
theorem RenS.cell {w W:World} {X:Array Value} (h:RenS w W X):W.heap[w.heap.size]?=some (.cells X 45):=(h.hb.block _ (by omega)).trans (heap_alloc_last w _)
theorem RenS.start (w:World) (X:Array Value):RenS w (w.alloc (.cells X 45)) X:=⟨Below.refl _ _⟩
theorem RenS.size {w W:World} {X:Array Value} (h:RenS w W X):w.heap.size+1≤W.heap.size:=by have:=h.hb.size;simpa using this
theorem RenS.low {w W W':World} {X:Array Value} (h:RenS w W X) (hb:Below (w.heap.size+1) W W'):RenS w W' X:=⟨h.hb.trans hb⟩
theorem RenS.below {w W W':World} {X:Array Value} (h:RenS w W X) (hb:Below W.heap.size W W'):RenS w W' X:=h.low (hb.mono h.size)
theorem RenS.fin {w W:World} {X:Array Value} (h:RenS w W X):Below w.heap.size w W:=(bnew w _).trans (h.hb.mono (by omega))
theorem le2_u64 (z:Int):le 2 (IntKind.u64.wrap z)=le 2 z:=le_mod (by rw [IntKind.wrap_u64];omega)
theorem le4_u64 (a b:Int):le 4 (IntKind.u64.wrap (IntKind.u64.wrap a+IntKind.u64.wrap b))=le 4 (b+a):=le_mod (by rw [IntKind.wrap_u64,IntKind.wrap_u64,IntKind.wrap_u64];omega)
theorem le4_hi (z:Int):le 4 (IntKind.u64.wrap z / 4294967296)=le 4 (z / 4294967296):=le_mod (by rw [IntKind.wrap_u64];omega)
theorem le4_zero:le 4 0=[0,0,0,0]:=rfl
theorem rput2 (base m:Nat) (l:List UInt8) (v:Value) (z:Int) (w:World) (hown:w.ownsRow base 5 1 v m (byL l)) (hb:base≤w.heap.size) (h0:0≤z) (h1:z<18446744073709551616) (hm:m≤10000000) :
  Calls Tryz.prog 90 #[v,.int .u64 z,.int .i64 2] w fun e w'=>∃ v',e=.returned v'∧w'.ownsRow base 5 1 v' (m+2) (byL (l++le 2 z))∧Below base w w':=rput_at base m l v z 2 w hown hb h0 h1 (by omega) hm
theorem rput4 (base m:Nat) (l:List UInt8) (v:Value) (z:Int) (w:World) (hown:w.ownsRow base 5 1 v m (byL l)) (hb:base≤w.heap.size) (h0:0≤z) (h1:z<18446744073709551616) (hm:m≤10000000) :
  Calls Tryz.prog 90 #[v,.int .u64 z,.int .i64 4] w fun e w'=>∃ v',e=.returned v'∧w'.ownsRow base 5 1 v' (m+4) (byL (l++le 4 z))∧Below base w w':=rput_at base m l v z 4 w hown hb h0 h1 (by omega) hm
theorem w64_byte (b:UInt8):wrap64 (b.toNat:Int)=(b.toNat:Int):=by
 have:=b.toNat_lt
 unfold wrap64
 omega
theorem mod_byte (b:UInt8):(b.toNat:Int) % 256=(b.toNat:Int):=by
 have:=b.toNat_lt
 omega
theorem u64_b (z:Int):0≤IntKind.u64.wrap z∧IntKind.u64.wrap z<18446744073709551616:=by rw [IntKind.wrap_u64];omega
theorem u64_h (z:Int):0≤IntKind.u64.wrap z / 4294967296∧IntKind.u64.wrap z / 4294967296<18446744073709551616:=by rw [IntKind.wrap_u64];omega
theorem renc_1 (op:Int) (reg:Bool) (dst src off imm f:Int) (w:World) (hf:frm (ix op)=f) (hs:slo f=1) (r o i:Int) (k0:Bool) (a b:UInt8) (hV:cdV (ix op) reg=(a.toNat:Int)) (hK:cdB (ix op) reg=k0) (hr:sr (ix op)=r) (ho:of (ix op)=o) (hi:im (ix op)=i)
  (hbb:16*(r+src)+dst=(b.toNat:Int)) (hs0:0≤r+src) (hs1:r+src≤15) (_:-100000≤o+off) (_:o+off≤100000) :
  Calls Tryz.prog 52 #[.agg #[.int .i64 op,.bool reg,.int .i64 dst,.int .i64 src,.int .i64 off,.int .i64 imm]] w fun e w'=>∃ v,e=.returned v∧w'.ownsRow w.heap.size 5 1 v 8 (byL ([a,b]++le 2 (off+o)++le 4 (imm+i)))∧Below w.heap.size w w':=by
 have HC:=Lib.hid (fun w=>rcode_at op reg _ k0 w hV hK)
 have HX:=Lib.hid (fun w=>rfixed_at op r o i w hr ho hi)
 have HS:=Lib.hid (fun w=>rslots_at op f 1 w hf hs)
 have S:=RenS.start w #[.int .i64 op,.bool reg,.int .i64 dst,.int .i64 src,.int .i64 off,.int .i64 imm]
 have hw1:=w64_byte b
 have hm1:=mod_byte b
 have hu0:=(u64_b imm).1
 have hu1:=(u64_b imm).2
 clear hf hs hV hK hr ho hi
 go_enter Tryz.func52,Tryz.ntmps52
 obtain⟨x0,x1,x2,x3,x4,x5⟩:=cells6 S.cell
 go_upto_region 4 with (first|(go_at_call 89;((with_reducible refine (HC.out _).mono ?_);rintro e w1 ⟨rfl,hb1⟩;replace S:=S.below hb1;clear x0 x1 x2 x3 x4 x5;obtain⟨x0,x1,x2,x3,x4,x5⟩:=cells6 S.cell))|(go_at_call 76;((with_reducible refine (HX.out _).mono ?_);rintro e w2 ⟨rfl,hb2⟩;replace S:=S.below hb2;clear x0 x1 x2 x3 x4 x5;obtain⟨x0,x1,x2,x3,x4,x5⟩:=cells6 S.cell)))
 have hown:=own_two w2 (w.heap.size+1) S.size a b
 replace S:=S.below (bnew w2 (.cells #[.int .u8 (a.toNat:Int),.int .u8 (b.toNat:Int)] 5))
 clear x0 x1 x2 x3 x4 x5 hw1 hm1 hbb
 obtain⟨x0,x1,x2,x3,x4,x5⟩:=cells6 S.cell
 generalize w2.alloc _=W at S hown x0 x1 x2 x3 x4 x5 ⊢
 go_wp2_with (first|(go_at_call 90;((with_reducible refine (rput2 _ _ _ _ _ _ hown S.size (u64_b _).1 (u64_b _).2 (by omega)).mono ?_);rintro e w3 ⟨v3,rfl,hown3,hb3⟩;replace S:=S.low hb3;clear x0 x1 x2 x3 x4 x5;obtain⟨x0,x1,x2,x3,x4,x5⟩:=cells6 S.cell))|(go_at_call 90;((with_reducible refine (rput4 _ _ _ _ _ _ hown3 S.size (u64_b _).1 (u64_b _).2 (by omega)).mono ?_);rintro e w4 ⟨v4,rfl,hown4,hb4⟩;replace S:=S.low hb4;clear x0 x1 x2 x3 x4 x5;obtain⟨x0,x1,x2,x3,x4,x5⟩:=cells6 S.cell))|(go_at_call 50;((with_reducible refine (HS.out _).mono ?_);rintro e w5 ⟨rfl,rfl⟩)))
 go_ret
 refine⟨_,rfl,?_,S.fin⟩
 have hh:=own_mono hown4 (Nat.le_succ w.heap.size)
 rw [le2_u64,le4_u64,Int.add_comm o off] at hh
 exact hh
theorem renc_2 (op:Int) (reg:Bool) (dst src off imm f:Int) (w:World) (hf:frm (ix op)=f) (hs:slo f=2) (r o i:Int) (k0:Bool) (a b:UInt8) (hV:cdV (ix op) reg=(a.toNat:Int)) (hK:cdB (ix op) reg=k0) (hr:sr (ix op)=r) (ho:of (ix op)=o) (hi:im (ix op)=i)
  (hbb:16*(r+src)+dst=(b.toNat:Int)) (hs0:0≤r+src) (hs1:r+src≤15) (_:-100000≤o+off) (_:o+off≤100000) :
  Calls Tryz.prog 52 #[.agg #[.int .i64 op,.bool reg,.int .i64 dst,.int .i64 src,.int .i64 off,.int .i64 imm]] w fun e w'=>∃ v,e=.returned v∧w'.ownsRow w.heap.size 5 1 v 16 (byL ([a,b]++le 2 (off+o)++le 4 (imm+i)++le 4 0++le 4 (imm / 4294967296)))∧Below w.heap.size w w':=by
 have HC:=Lib.hid (fun w=>rcode_at op reg _ k0 w hV hK)
 have HX:=Lib.hid (fun w=>rfixed_at op r o i w hr ho hi)
 have HS:=Lib.hid (fun w=>rslots_at op f 2 w hf hs)
 have S:=RenS.start w #[.int .i64 op,.bool reg,.int .i64 dst,.int .i64 src,.int .i64 off,.int .i64 imm]
 have hw1:=w64_byte b
 have hm1:=mod_byte b
 have hu0:=(u64_b imm).1
 have hu1:=(u64_b imm).2
 clear hf hs hV hK hr ho hi
 go_enter Tryz.func52,Tryz.ntmps52
 obtain⟨x0,x1,x2,x3,x4,x5⟩:=cells6 S.cell
 go_upto_region 4 with (first|(go_at_call 89;((with_reducible refine (HC.out _).mono ?_);rintro e w1 ⟨rfl,hb1⟩;replace S:=S.below hb1;clear x0 x1 x2 x3 x4 x5;obtain⟨x0,x1,x2,x3,x4,x5⟩:=cells6 S.cell))|(go_at_call 76;((with_reducible refine (HX.out _).mono ?_);rintro e w2 ⟨rfl,hb2⟩;replace S:=S.below hb2;clear x0 x1 x2 x3 x4 x5;obtain⟨x0,x1,x2,x3,x4,x5⟩:=cells6 S.cell)))
 have hown:=own_two w2 (w.heap.size+1) S.size a b
 replace S:=S.below (bnew w2 (.cells #[.int .u8 (a.toNat:Int),.int .u8 (b.toNat:Int)] 5))
 clear x0 x1 x2 x3 x4 x5 hw1 hm1 hbb
 obtain⟨x0,x1,x2,x3,x4,x5⟩:=cells6 S.cell
 generalize w2.alloc _=W at S hown x0 x1 x2 x3 x4 x5 ⊢
 go_wp2_with (first|(go_at_call 90;((with_reducible refine (rput2 _ _ _ _ _ _ hown S.size (u64_b _).1 (u64_b _).2 (by omega)).mono ?_);rintro e w3 ⟨v3,rfl,hown3,hb3⟩;replace S:=S.low hb3;clear x0 x1 x2 x3 x4 x5;obtain⟨x0,x1,x2,x3,x4,x5⟩:=cells6 S.cell))|(go_at_call 90;((with_reducible refine (rput4 _ _ _ _ _ _ hown3 S.size (u64_b _).1 (u64_b _).2 (by omega)).mono ?_);rintro e w4 ⟨v4,rfl,hown4,hb4⟩;replace S:=S.low hb4;clear x0 x1 x2 x3 x4 x5;obtain⟨x0,x1,x2,x3,x4,x5⟩:=cells6 S.cell))|(go_at_call 50;((with_reducible refine (HS.out _).mono ?_);rintro e w5 ⟨rfl,rfl⟩))|(go_at_call 90;((with_reducible refine (rput4 _ _ _ _ _ _ hown4 S.size (by decide) (by decide) (by omega)).mono ?_);rintro e w6 ⟨v6,rfl,hown6,hb6⟩;replace S:=S.low hb6;clear x0 x1 x2 x3 x4 x5;obtain⟨x0,x1,x2,x3,x4,x5⟩:=cells6 S.cell))|(go_at_call 90;((with_reducible refine (rput4 _ _ _ _ _ _ hown6 S.size (u64_h _).1 (u64_h _).2 (by omega)).mono ?_);rintro e w7 ⟨v7,rfl,hown7,hb7⟩;replace S:=S.low hb7;clear x0 x1 x2 x3 x4 x5;obtain⟨x0,x1,x2,x3,x4,x5⟩:=cells6 S.cell)))
 go_ret
 refine⟨_,rfl,?_,S.fin⟩
 have hh:=own_mono hown7 (Nat.le_succ w.heap.size)
 rw [le2_u64,le4_u64,Int.add_comm o off,le4_hi imm] at hh
 exact hh
end Go.Proofs.YtihiggnglmhggaaGreatDoor.L5
end
