/- Lemmas and walks of L10Sam, L10Opw, L5Decm, L5Join: what each theorem states; conditions stand in each theorem. -/
import Derived.Test.YtihiggnglmhggaaGreatDoorM13
import Derived.Test.YtihiggnglmhggaaGreatDoorL5Decr
set_option maxHeartbeats 2000000
set_option maxRecDepth 100000
section
namespace Go.Proofs.YtihiggnglmhggaaGreatDoor.L10
open Go.RowKit Go.Maps
attribute [local go_sem] Oper.semAt_some
theorem bx (P:Prop):∃ b:Bool,b=true↔P:=by
 by_cases h:P
 ·exact⟨true,by simp [h]⟩
 ·exact⟨false,by simp [h]⟩
theorem take_eq {α:Type} {l m:List α} {k:Nat} (h1:k<l.length) (h2:k<m.length) (h:l.take k=m.take k) (e:l[k]=m[k]):l.take (k+1)=m.take (k+1):=by
 rw [List.take_add_one,List.take_add_one,h,List.getElem?_eq_getElem h1,List.getElem?_eq_getElem h2,e]
theorem take_all {α:Type} {l m:List α} {n:Nat} (h1:l.length=n) (h2:m.length=n) (h:l.take n=m.take n):l=m:=by
 rwa [List.take_of_length_le (by omega),List.take_of_length_le (by omega)] at h
theorem get_ne {α:Type} {l m:List α} {k:Nat} (h1:k<l.length) (h2:k<m.length) (h:l[k]≠m[k]):l≠m:=by
 rintro rfl;exact h rfl
theorem df_form4 {w:World} {v:Value} {l:List L9.Df} {n:Nat} (hn:l.length=n) (h:DfAt w v l):∃ a c,v=.slice a n c∧(0<n→∃ b o,a=some ⟨b,o,none⟩∧b<w.heap.size∧∀ j,(h:j<l.length)→w.cell? ⟨b,o+j*4,none⟩=some (.string l[j].nm)∧w.cell? ⟨b,o+j*4+1,none⟩=some (.int .i64 l[j].key)∧w.cell? ⟨b,o+j*4+2,none⟩=some (.int .i64 l[j].val)∧w.cell? ⟨b,o+j*4+3,none⟩=some (.int .i64 l[j].ent)):=by
 obtain⟨a,c,rfl,hc⟩:=df_form hn h
 refine⟨a,c,rfl,fun h0=>?_⟩
 obtain⟨b,o,rfl,hb,hc⟩:=hc h0
 exact⟨b,o,rfl,hb,fun j hj=>⟨hc j hj 0 _ rfl,hc j hj 1 _ rfl,hc j hj 2 _ rfl,hc j hj 3 _ rfl⟩⟩
theorem equalI_at (v v':Value) (l m:List Int) (b:Bool) (w:World) (hl:l.length≤100000) (hm:m.length≤100000) (hv:InAt w v l) (hv':InAt w v' m) (hb:b=true↔l=m) :
  Calls Tryz.prog 20 #[v,v'] w fun e w'=>e=.returned (.bool b)∧Below w.heap.size w w':=by
 obtain⟨n,hn⟩:∃ n,l.length=n:=⟨_,rfl⟩
 obtain⟨n',hn'⟩:∃ n,m.length=n:=⟨_,rfl⟩
 obtain⟨a,c,rfl,hc⟩:=in_form hn hv
 obtain⟨a',c',rfl,hc'⟩:=in_form hn' hv'
 rw [hn] at hl
 rw [hn'] at hm
 by_cases hne:n=n'
 ·subst hne
  have HN:=Lib.hid hn
  have HM:=Lib.hid hn'
  have HC:=Lib.hid hc
  have HC':=Lib.hid hc'
  have HB:=Lib.hid hb
  clear hn hn' hc hc' hb hv hv'
  go_enter Tryz.func20,Tryz.ntmps20
  go_wp2
  go_loopw [5,13] (fun _ i wr=>∃ (k q:Nat),k≤n∧i=.int .i64 (k:Int)∧wr=w.drewN q∧Hid (l.take k=m.take k)) (fun _ i _=>n-(intOf i).toNat)
  case atStart=>exact⟨0,0,Nat.zero_le _,rfl,rfl,Lib.hid rfl⟩
  case round =>
   obtain⟨k,q,hk,rfl,rfl,hT⟩:=hrel
   by_cases hlt:k<n
   ·have hk1:k<l.length:=by rw [HN.out];exact hlt
    have hk2:k<m.length:=by rw [HM.out];exact hlt
    obtain⟨b1,o1,rfl,hb1,hc1⟩:=HC.out (by omega)
    obtain⟨b2,o2,rfl,hb2,hc2⟩:=HC'.out (by omega)
    have hx:=hc1 k hk1
    have hy:=hc2 k hk2
    clear hc1 hc2
    have hlt':(k:Int)<(n:Int):=by omega
    by_cases he:l[k]=m[k]
    ·have HT:=Lib.hid (take_eq hk1 hk2 hT.out he)
     rw [← he] at hy
     obtain⟨d,hd⟩:∃ d,l[k]=d:=⟨_,rfl⟩
     rw [hd] at hx hy
     clear he hd hT
     go_wp2
     go_quiet (fail)
     go_wp2
     go_roundw
     case rel=>exact⟨k+1,q+nq,by omega,by go_num,rfl,HT⟩
     case measure=>simp [intOf];omega
    ·have HB2:Hid (b=false):=Lib.hid (by
      cases b with
      | false=>rfl
      | true=>exact absurd (HB.out.1 rfl) (get_ne hk1 hk2 he))
     obtain⟨d,hd⟩:∃ d,l[k]=d:=⟨_,rfl⟩
     obtain⟨d',hd'⟩:∃ d,m[k]=d:=⟨_,rfl⟩
     rw [hd] at hx
     rw [hd'] at hy
     rw [hd,hd'] at he
     have ht:(d==d')=false:=by simpa using he
     clear hd hd' hT
     go_wp2
     go_quiet (fail)
     go_wp2
     go_ret
     rw [HB2.out]
     exact⟨rfl,L8.bdN (L8.bdN (Below.refl _ _) _) _⟩
   ·obtain rfl:k=n:=by omega
    have HB2:Hid (b=true):=Lib.hid (HB.out.2 (take_all HN.out HM.out hT.out))
    clear hT
    go_wp2
    go_ret
    rw [HB2.out]
    exact⟨rfl,L8.bdN (Below.refl _ _) _⟩
 ·have hbf:b=false:=by
   cases b with
   | false=>rfl
   | true =>
    have:=hb.1 rfl
    subst this
    omega
  subst hbf
  have h1:¬ (n:Int)=(n':Int):=by omega
  have h2:((n:Int)==(n':Int))=false:=by simpa using h1
  clear hn hn' hc hc' hb hv hv'
  go_enter Tryz.func20,Tryz.ntmps20
  go_wp2
  go_ret
  exact⟨rfl,Below.refl _ _⟩
end Go.Proofs.YtihiggnglmhggaaGreatDoor.L10
end
section
namespace Go.Proofs.YtihiggnglmhggaaGreatDoor.L10
open Go.ChangeShapes Go.WideShapes Go.ChangeAt Go.RowKit Go.Deep
def Wt {H:Type} (t:TypeId) (d:DataW H):Prop:=∀ n∈d.weights Tryz.prog t,n≤reachBytes
def TxRoom (l:List ByteArray):Prop:=l.length≤8796093022208∧∀ t∈l,t.size≤140737488351232
section
variable {H:Type} {enc:TypeId × Value→H} {W:World} {base:Nat} {sp:Nat→Bool} {held:Bool}
end
end Go.Proofs.YtihiggnglmhggaaGreatDoor.L10
end
section
namespace Go.Proofs.YtihiggnglmhggaaGreatDoor.L5
open Go.RowKit L3 L1 L4
structure Ix where
 op:Int
 reg:Bool
 dst:Int
 src:Int
 off:Int
 imm:Int
def Ix.z:Ix:=⟨0,false,0,0,0,0⟩
abbrev Ix.cs (x:Ix):Array Value:=#[.int .i64 x.op,.bool x.reg,.int .i64 x.dst,.int .i64 x.src,.int .i64 x.off,.int .i64 x.imm]
def bt' (l:List UInt8) (i:Nat):UInt8:=l.getD i 0
def offL (l:List UInt8):Int:=sx 16 (((bt' l 2).toNat:Int)*1+((bt' l 3).toNat:Int)*256)
def immL (l:List UInt8):Int:=sx 32 (((bt' l 4).toNat:Int)*1+((bt' l 5).toNat:Int)*256+((bt' l 6).toNat:Int)*65536+((bt' l 7).toNat:Int)*16777216)
def hiL (l:List UInt8):Int:=sx 32 (((bt' l 12).toNat:Int)*1+((bt' l 13).toNat:Int)*256+((bt' l 14).toNat:Int)*65536+((bt' l 15).toNat:Int)*16777216)
def idL (l:List UInt8):Int × Bool × Bool:=idF ((bt' l 0).toNat:Int) (((bt' l 1).toNat:Int) / 16) (offL l) (immL l) 86 0
def fL (l:List UInt8):Int:=frm (ix (idL l).1)
def ivL (l:List UInt8):Int:=if uI (fL l) (idL l).2.1 then immL l else 0
def rdL (l:List UInt8):Ix :=
 ⟨(idL l).1,(idL l).2.1,if uD (fL l) then ((bt' l 1).toNat:Int) % 16 else 0,if uS (fL l) (idL l).2.1 then ((bt' l 1).toNat:Int) / 16 else 0,if uO (fL l) then offL l else 0,
  if slo (fL l)=2 then bits .or .i64 (wrap64 (ivL l % 4294967296)) (hiL l*4294967296) else ivL l⟩
def Ix.chk (f:Int) (x:Ix):Int:=chkF f x.reg x.dst x.src x.off x.imm
def Ix.enc (j:Nat) (f:Int) (x:Ix):List UInt8:=encL j f x.reg x.dst x.src x.off x.imm
def decF (l:List UInt8):Ix × Int × Int :=
 if l.length<8 then (.z,0,17)
 else if (idL l).2.2=false then (.z,0,6)
 else if slo (fL l)=2∧l.length<16 then (.z,0,17)
 else if 11≤((bt' l 1).toNat:Int) % 16∨11≤((bt' l 1).toNat:Int) / 16 then (.z,0,5)
 else if (rdL l).chk (fL l)=0∧l.take ((rdL l).enc (ix (idL l).1) (fL l)).length=(rdL l).enc (ix (idL l).1) (fL l) then (rdL l,slo (fL l),0)
 else (.z,0,12)
def BsAt (w:World) (v:Value) (l:List UInt8):Prop :=
 ∃ a cap,v=.slice a l.length cap∧l.length≤cap∧l.length≤maxLen∧(l=[]∨∃ k o,a=some ⟨k,o,none⟩∧Bytes w k o l)
theorem Bytes.get {w:World} {k o:Nat} {l:List UInt8} (h:Bytes w k o l) (i:Nat) (hi:i<l.length):w.cell? ⟨k,o+i,none⟩=some (.int .u8 ((bt' l i).toNat:Int)):=by
 rw [h i hi,bt',List.getD,List.getElem?_eq_getElem hi]
 rfl
theorem Bytes.eight {w:World} {k o:Nat} {l:List UInt8} (h:Bytes w k o l) (hi:8≤l.length):Eight w k o (bt' l 0) (bt' l 1) (bt' l 2) (bt' l 3) (bt' l 4) (bt' l 5) (bt' l 6) (bt' l 7) :=
 ⟨h.get 0 (by omega),h.get 1 (by omega),h.get 2 (by omega),h.get 3 (by omega),h.get 4 (by omega),h.get 5 (by omega),h.get 6 (by omega),h.get 7 (by omega)⟩
theorem dec_short (a:Option Addr) (n cap:Nat) (w:World) (hn:n<8):Calls Tryz.prog 171 #[.slice a n cap] w fun e w'=>e=.returned (.tuple #[.agg Ix.z.cs,.int .i64 0,.int .i64 17])∧Below w.heap.size w w':=by
 have n8:(n:Int)<8:=by omega
 have S:=DecS.start w #[.int .i64 0,.bool false,.int .i64 0,.int .i64 0,.int .i64 0,.int .i64 0]
 go_enter Tryz.func171,Tryz.ntmps171
 go_wp2_with (first|(refine wpList_store_row rfl _ _ _ rfl w.heap.size #[.int .i64 0,.bool false,.int .i64 0,.int .i64 0,.int .i64 0,.int .i64 0] rfl rfl 45 _ S.hg (by kernel_rfl) rfl (ins_one _ _ _ _ _ _) ?_;replace S:=S.set #[.int .i64 0,.bool false,.int .i64 0,.int .i64 0,.int .i64 0,.int .i64 0];obtain⟨x0,x1,x2,x3,x4,x5⟩:=cells6 S.hg))
 exact bodyPost_ret (v:=.tuple #[.agg #[.int .i64 0,.bool false,.int .i64 0,.int .i64 0,.int .i64 0,.int .i64 0],.int .i64 0,.int .i64 17]) (by simp [results,Tryz.results171,go_sem,x0,x1,x2,x3,x4,x5]) rfl ⟨rfl,S.hb⟩
theorem id_ok (code src off imm:Int):∀ (n k:Nat) (op:Int) (r:Bool),idF code src off imm n k=(op,r,true)→∃ j,k≤j∧j<k+n∧op=(j:Int)∧hitK code src off imm j=true∧r=regK code j
 | 0,k,op,r,h=>by simp [idF] at h
 | n+1,k,op,r,h=>by
  unfold idF at h
  split at h
  ·rename_i hh
   simp only [Prod.mk.injEq,and_true] at h
   exact⟨k,Nat.le_refl _,by omega,h.1.symm,hh,h.2.symm⟩
  ·obtain⟨j,h1,h2,h3⟩:=id_ok code src off imm n (k+1) op r h
   exact⟨j,by omega,by omega,h3⟩
theorem sx32_b (x:Int):-2147483648≤sx 32 x∧sx 32 x≤2147483647:=by
 unfold sx
 simp
 omega
theorem or_hi (a b:Int) (ha:0≤a) (ha2:a<4294967296) (hb0:-2147483648≤b) (hb1:b≤2147483647):bits .or .i64 a (b*4294967296)=a+b*4294967296:=by
 show IntKind.i64.wrap (((BitVec.ofInt 64 a ||| BitVec.ofInt 64 (b*4294967296)).toNat:Nat):Int)=_
 rw [BitVec.toNat_or,BitVec.toNat_ofInt,BitVec.toNat_ofInt]
 obtain⟨A,hA⟩:∃ A:Nat,(a % ((2 ^ 64:Nat):Int)).toNat=A:=⟨_,rfl⟩
 obtain⟨Q,hQ⟩:∃ Q:Nat,(b % 4294967296).toNat=Q:=⟨_,rfl⟩
 have e:(b*4294967296 % ((2 ^ 64:Nat):Int)).toNat=2 ^ 32*Q:=by
  have:((2 ^ 64:Nat):Int)=18446744073709551616:=rfl
  rw [this]
  omega
 have hA':A=a.toNat:=by
  have:((2 ^ 64:Nat):Int)=18446744073709551616:=rfl
  rw [this] at hA
  omega
 rw [hA,e,Nat.or_comm,← Nat.two_pow_add_eq_or_of_lt (by omega) Q]
 rw [IntKind.wrap_i64]
 omega
theorem vb (a b:Int) (h0:0≤a) (h1:a<4294967296) (h2:-2147483648≤b) (h3:b≤2147483647):-9223372036854775808≤a+b*4294967296∧a+b*4294967296≤9223372036854775807:=by omega
theorem take_beq (a b:List UInt8) (h:a=b):(a==b)=true:=by rw [h];simp
theorem take_bne (a b:List UInt8) (h:a≠b):(a==b)=false:=by simpa using h
theorem slo_of {f:Int} (h:IsF f):slo f=0∨slo f=1∨slo f=2:=by
 rcases h with rfl|rfl|rfl|rfl|rfl|rfl|rfl|rfl|rfl|rfl|rfl|rfl|rfl <;> decide
theorem decode_any (v:Value) (l:List UInt8) (w:World) (hw:Wid w) (hv:BsAt w v l) :
  Calls Tryz.prog 171 #[v] w fun e w'=>e=.returned (.tuple #[.agg (decF l).1.cs,.int .i64 (decF l).2.1,.int .i64 (decF l).2.2])∧Below w.heap.size w w':=by
 obtain⟨a,cap,rfl,hc,hm,hb⟩:=hv
 unfold maxLen at hm
 unfold decF
 by_cases h8:l.length<8
 ·rw [if_pos h8]
  exact dec_short a l.length cap w h8
 rw [if_neg h8]
 obtain⟨k,o,rfl,hB⟩:∃ k o,a=some ⟨k,o,none⟩∧Bytes w k o l:=by
  rcases hb with rfl|h
  ·simp at h8
  ·exact h
 have hE:=hB.eight (by omega)
 obtain⟨⟨op,r,ok⟩,hid⟩:∃ i,idL l=i:=⟨_,rfl⟩
 have hfL:fL l=frm (ix op):=by unfold fL;rw [hid]
 obtain⟨f,hf⟩:∃ f,frm (ix op)=f:=⟨_,rfl⟩
 rw [hf] at hfL
 have hid':idF ((bt' l 0).toNat:Int) (((bt' l 1).toNat:Int) / 16) (offL l) (immL l) 86 0=(op,r,ok):=hid
 simp only [hid]
 cases ok
 ·simp only [if_true]
  exact dec_op k o l.length cap (bt' l 0) (bt' l 1) (bt' l 2) (bt' l 3) (bt' l 4) (bt' l 5) (bt' l 6) (bt' l 7) (offL l) (immL l) w hw hE (by omega) hc (by omega) rfl rfl op r false hid' rfl
 simp only [Bool.true_eq_false,if_false]
 rw [hfL]
 have hs:=slo_of (hf ▸ frm_isF op:IsF f)
 obtain⟨j,-,hj,hop,-,-⟩:=id_ok _ _ _ _ _ _ _ _ hid'
 have hj':ix op<86:=by rw [hop,ix_nat (by omega)];omega
 have hs12:slo f=1∨slo f=2:=by
  have:=(tab4 _ hj').1
  rwa [← frm_fm hj',hf] at this
 have hiv:(if uI f r then immL l else 0)=ivL l:=by unfold ivL;rw [hfL,hid]
 obtain⟨D,hd⟩:∃ D,(if uD f then ((bt' l 1).toNat:Int) % 16 else 0)=D:=⟨_,rfl⟩
 obtain⟨S,hs'⟩:∃ S,(if uS f r then ((bt' l 1).toNat:Int) / 16 else 0)=S:=⟨_,rfl⟩
 obtain⟨O,ho⟩:∃ O,(if uO f then offL l else 0)=O:=⟨_,rfl⟩
 have hivb:-2147483648≤ivL l∧ivL l≤2147483647:=by
  rw [← hiv]
  split
  ·exact sx32_b _
  ·omega
 rcases hs12 with hs1|hs2
 ·rw [if_neg (by omega)]
  by_cases hreg:11≤((bt' l 1).toNat:Int) % 16∨11≤((bt' l 1).toNat:Int) / 16
  ·rw [if_pos hreg]
   exact dec_reg1 k o l.length cap (bt' l 0) (bt' l 1) (bt' l 2) (bt' l 3) (bt' l 4) (bt' l 5) (bt' l 6) (bt' l 7) (offL l) (immL l) w hw hE (by omega) hc (by omega) rfl rfl op r true hid' rfl f hf hs1 hreg
  rw [if_neg hreg]
  have hrd:rdL l=⟨op,r,D,S,O,ivL l⟩:=by
   unfold rdL
   rw [hid,hfL,← hd,← hs',← ho]
   simp [hs1]
  have hchk:(rdL l).chk f=chkF f r D S O (ivL l):=by rw [hrd];rfl
  have henc:(rdL l).enc (ix op) f=encL (ix op) f r D S O (ivL l):=by rw [hrd];rfl
  have hcs:(rdL l).cs=insA op r D S O (ivL l):=by rw [hrd]
  obtain⟨x,hx⟩:∃ x,rdL l=x:=⟨_,rfl⟩
  rw [hx] at hchk henc hcs ⊢
  clear hrd hx
  by_cases h0:x.chk f=0
  ·have hO:=(chk_ok _ _ _ _ _ _).1 (hchk.symm.trans h0)
   have hlen:(x.enc (ix op) f).length=8:=by rw [henc,encL_length];simp [hs1]
   by_cases hp:l.take (x.enc (ix op) f).length=x.enc (ix op) f
   ·rw [if_pos ⟨h0,hp⟩,hcs,hs1]
    exact dec_yes1 k o l.length cap (bt' l 0) (bt' l 1) (bt' l 2) (bt' l 3) (bt' l 4) (bt' l 5) (bt' l 6) (bt' l 7) (offL l) (immL l) w hw hE (by omega) hc (by omega) rfl rfl op r true hid' rfl f hf hs1 (by omega) (by omega) D S O (ivL l) hd hs' ho hiv l (x.enc (ix op) f) _ rfl hB hO (by omega) (by omega) henc.symm rfl (by omega) (take_beq _ _ hp)
   ·rw [if_neg (fun h=>hp h.2)]
    exact dec_no1 k o l.length cap (bt' l 0) (bt' l 1) (bt' l 2) (bt' l 3) (bt' l 4) (bt' l 5) (bt' l 6) (bt' l 7) (offL l) (immL l) w hw hE (by omega) hc (by omega) rfl rfl op r true hid' rfl f hf hs1 (by omega) (by omega) D S O (ivL l) hd hs' ho hiv l (x.enc (ix op) f) _ rfl hB hO (by omega) (by omega) henc.symm rfl (by omega) (take_bne _ _ hp)
  ·rw [if_neg (fun h=>h0 h.1)]
   exact dec_bad1 k o l.length cap (bt' l 0) (bt' l 1) (bt' l 2) (bt' l 3) (bt' l 4) (bt' l 5) (bt' l 6) (bt' l 7) (offL l) (immL l) w hw hE (by omega) hc (by omega) rfl rfl op r true hid' rfl f hf hs1 (by omega) (by omega) D S O (ivL l) hd hs' ho hiv _ hchk.symm (by simpa using h0)
 ·have hhi:=sx32_b (((bt' l 12).toNat:Int)*1+((bt' l 13).toNat:Int)*256+((bt' l 14).toNat:Int)*65536+((bt' l 15).toNat:Int)*16777216)
  have hor:bits .or .i64 (wrap64 (ivL l % 4294967296)) (hiL l*4294967296)=ivL l % 4294967296+hiL l*4294967296:=by
   rw [show wrap64 (ivL l % 4294967296)=ivL l % 4294967296 by unfold wrap64;omega]
   exact or_hi _ _ (by omega) (by omega) hhi.1 hhi.2
  have hhi':-2147483648≤hiL l∧hiL l≤2147483647:=hhi
  by_cases h16:l.length<16
  ·rw [if_pos ⟨hs2,h16⟩]
   exact dec_short2 k o l.length cap (bt' l 0) (bt' l 1) (bt' l 2) (bt' l 3) (bt' l 4) (bt' l 5) (bt' l 6) (bt' l 7) (offL l) (immL l) w hw hE (by omega) hc (by omega) rfl rfl op r true hid' rfl f hf hs2 h16
  rw [if_neg (fun h=>h16 h.2)]
  by_cases hreg:11≤((bt' l 1).toNat:Int) % 16∨11≤((bt' l 1).toNat:Int) / 16
  ·rw [if_pos hreg]
   exact dec_reg2 k o l.length cap (bt' l 0) (bt' l 1) (bt' l 2) (bt' l 3) (bt' l 4) (bt' l 5) (bt' l 6) (bt' l 7) (offL l) (immL l) w hw hE (by omega) hc (by omega) rfl rfl op r true hid' rfl f hf hs2 (by omega) hreg
  rw [if_neg hreg]
  obtain⟨V,hV⟩:∃ V,bits .or .i64 (wrap64 (ivL l % 4294967296)) (hiL l*4294967296)=V:=⟨_,rfl⟩
  have hVb:-9223372036854775808≤V∧V≤9223372036854775807:=by rw [← hV,hor];exact vb _ _ (Int.emod_nonneg _ (by decide)) (Int.emod_lt_of_pos _ (by decide)) hhi'.1 hhi'.2
  have hrd:rdL l=⟨op,r,D,S,O,V⟩:=by
   unfold rdL
   rw [hid,hfL,← hd,← hs',← ho,← hV]
   simp [hs2]
  have hchk:(rdL l).chk f=chkF f r D S O V:=by rw [hrd];rfl
  have henc:(rdL l).enc (ix op) f=encL (ix op) f r D S O V:=by rw [hrd];rfl
  have hcs:(rdL l).cs=insA op r D S O V:=by rw [hrd]
  obtain⟨x,hx⟩:∃ x,rdL l=x:=⟨_,rfl⟩
  rw [hx] at hchk henc hcs ⊢
  clear hrd hx
  by_cases h0:x.chk f=0
  ·have hO:=(chk_ok _ _ _ _ _ _).1 (hchk.symm.trans h0)
   have hlen:(x.enc (ix op) f).length=16:=by rw [henc,encL_length];simp [hs2]
   by_cases hp:l.take (x.enc (ix op) f).length=x.enc (ix op) f
   ·rw [if_pos ⟨h0,hp⟩,hcs,hs2]
    exact dec_yes2 k o l.length cap (bt' l 0) (bt' l 1) (bt' l 2) (bt' l 3) (bt' l 4) (bt' l 5) (bt' l 6) (bt' l 7) (offL l) (immL l) w hw hE (by omega) hc (by omega) rfl rfl op r true hid' rfl f hf hs2 (by omega) (by omega) (by omega) D S O (ivL l) hd hs' ho hiv (bt' l 12) (bt' l 13) (bt' l 14) (bt' l 15) (hB.get 12 (by omega)) (hB.get 13 (by omega)) (hB.get 14 (by omega)) (hB.get 15 (by omega)) (hiL l) V rfl hV hhi.1 hhi.2 l (x.enc (ix op) f) _ rfl hB hO hVb.1 hVb.2 henc.symm rfl (by omega) (take_beq _ _ hp)
   ·rw [if_neg (fun h=>hp h.2)]
    exact dec_no2 k o l.length cap (bt' l 0) (bt' l 1) (bt' l 2) (bt' l 3) (bt' l 4) (bt' l 5) (bt' l 6) (bt' l 7) (offL l) (immL l) w hw hE (by omega) hc (by omega) rfl rfl op r true hid' rfl f hf hs2 (by omega) (by omega) (by omega) D S O (ivL l) hd hs' ho hiv (bt' l 12) (bt' l 13) (bt' l 14) (bt' l 15) (hB.get 12 (by omega)) (hB.get 13 (by omega)) (hB.get 14 (by omega)) (hB.get 15 (by omega)) (hiL l) V rfl hV hhi.1 hhi.2 l (x.enc (ix op) f) _ rfl hB hO hVb.1 hVb.2 henc.symm rfl (by omega) (take_bne _ _ hp)
  ·rw [if_neg (fun h=>h0 h.1)]
   exact dec_bad2 k o l.length cap (bt' l 0) (bt' l 1) (bt' l 2) (bt' l 3) (bt' l 4) (bt' l 5) (bt' l 6) (bt' l 7) (offL l) (immL l) w hw hE (by omega) hc (by omega) rfl rfl op r true hid' rfl f hf hs2 (by omega) (by omega) (by omega) D S O (ivL l) hd hs' ho hiv (bt' l 12) (bt' l 13) (bt' l 14) (bt' l 15) (hB.get 12 (by omega)) (hB.get 13 (by omega)) (hB.get 14 (by omega)) (hB.get 15 (by omega)) (hiL l) V rfl hV hhi.1 hhi.2 _ hchk.symm (by simpa using h0)
def Ix.f (x:Ix):Int:=frm (ix x.op)
def Ix.err (x:Ix):Int:=chkF x.f x.reg x.dst x.src x.off x.imm
def Ix.bytes (x:Ix):List UInt8:=encL (ix x.op) x.f x.reg x.dst x.src x.off x.imm
def Ix.fits (x:Ix):Prop:=-9223372036854775808≤x.imm∧x.imm≤9223372036854775807
def joinB (l:List Ix):List UInt8:=l.flatMap Ix.bytes
def byL (l:List UInt8):List Value:=l.map fun c=>Value.int .u8 (c.toNat:Int)
theorem byL_append (a b:List UInt8):byL (a++b)=byL a++byL b:=by simp [byL]
theorem bytes_length (x:Ix):x.bytes.length≤16:=by
 unfold Ix.bytes
 rw [encL_length]
 split <;> omega
theorem own_below {w w':World} {base e:TypeId} {size:Nat} {v:Value} {n:Nat} {xs:List Value} (h:w.ownsRow base e size v n xs) (hb:Below w.heap.size w w'):w'.ownsRow base e size v n xs:=by
 refine⟨h.1,?_⟩
 rcases h.2 with h|⟨g,cap,cur,hv,hg,hh,r⟩
 ·exact .inl h
 ·exact .inr ⟨g,cap,cur,hv,hg,(hb.block _ (lt_of_block hh)).trans hh,r⟩
theorem own_base {w:World} {base:Nat} {e:TypeId} {size:Nat} {v:Value} {n:Nat} {xs:List Value} (h:w.ownsRow base e size v n xs):∀ k,v.ownBlock=some k→base≤k:=by
 intro k hk
 rcases h.2 with ⟨rfl,_⟩|⟨g,cap,cur,rfl,hb,_⟩
 ·cases hk
 ·simp [Value.ownBlock] at hk
  omega
theorem byL_len (l:List UInt8):(byL l).length=l.length:=by simp [byL]
theorem byL_one (l:List UInt8):∀ u∈byL l,u.oneCell'=true:=by
 intro u hu
 obtain⟨c,-,rfl⟩:=List.mem_map.1 hu
 rfl
theorem owns_slice' {w:World} {base e:TypeId} {size:Nat} {v:Value} {n:Nat} {xs:List Value} (h:w.ownsRow base e size v n xs):∃ a c,v=.slice a n c:=by
 rcases h.2 with ⟨rfl,rfl⟩|⟨g,cap,cur,rfl,_⟩
 ·exact⟨_,_,rfl⟩
 ·exact⟨_,_,rfl⟩
def Inss (w:World) (k o:Nat) (xs:List Ix):Prop:=∀ i,(h:i<xs.length)→∀ m u,xs[i].cs[m]?=some u→w.cell? ⟨k,o+i*6+m,none⟩=some u
theorem Inss.up {w W:World} {k o:Nat} {xs:List Ix} (h:Inss w k o xs) (hb:Below w.heap.size w W):Inss W k o xs:=fun i hi m u hu=>cell_up hb (h i hi m u hu)
def InAt (w:World) (v:Value) (xs:List Ix):Prop :=
 ∃ a cap,v=.slice a xs.length cap∧(xs=[]∨∃ k o,a=some ⟨k,o,none⟩∧Inss w k o xs)
end Go.Proofs.YtihiggnglmhggaaGreatDoor.L5
end
