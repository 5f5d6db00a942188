/- Lemmas and walks of L14Bd, L5Decm, L5Join, L5Same, L5Itr, L8Cut, L15Se: what each theorem states; conditions stand in each theorem. -/
import Derived.Lib.BufferWrite
import Derived.Test.YtdgnjhhieemcaaaGreatDoorL5Decr
import Derived.Laws.AppendOwnNone
import Derived.Lib.SlBytesConst
set_option maxHeartbeats 4000000
set_option maxRecDepth 100000
section
namespace Go.Proofs.YtdgnjhhieemcaaaGreatDoor.L14
open Go.RowKit
attribute [local go_sem] Oper.semAt_some
def rowZ {α:Type} (enc:α→Value) (z:Value) (xs:List α) (N:Nat):Array Value:=(xs.map enc++List.replicate (N-xs.length) z).toArray
theorem rowZ_made {α:Type} (enc:α→Value) (z:Value) (N:Nat):madeCells #[z] N=rowZ enc z [] N:=by
 apply Array.ext
 ·simp [size_madeCells,rowZ]
 ·intro i h1 h2
  simp [madeCells,rowZ,Nat.mod_one]
theorem rowZ_zero {α:Type} (enc:α→Value) (z:Value) (xs:List α) (x:α) (N:Nat) (hx:enc x=z) (h:xs.length<N):rowZ enc z xs N=rowZ enc z (xs++[x]) N:=by
 unfold rowZ
 obtain⟨m,hm⟩:∃ m,N-xs.length=m+1:=⟨N-xs.length-1,by omega⟩
 rw [hm,List.length_append,List.length_cons,List.length_nil,show N-(xs.length+(0+1))=m by omega,List.replicate_succ,List.map_append,List.map_cons,List.map_nil,hx]
 simp
theorem rowZ_set {α:Type} (enc:α→Value) (z:Value) (xs:List α) (x:α) (N:Nat) (h:xs.length<N):(rowZ enc z xs N).setIfInBounds xs.length (enc x)=rowZ enc z (xs++[x]) N:=by
 unfold rowZ
 rw [List.setIfInBounds_toArray]
 congr 1
 rw [List.set_append_right _ _ (by simp)]
 simp only [List.length_map,Nat.sub_self,List.map_append,List.map_cons,List.map_nil,List.length_append,List.length_cons,List.length_nil]
 obtain⟨m,hm⟩:∃ m,N-xs.length=m+1:=⟨N-xs.length-1,by omega⟩
 rw [hm,List.replicate_succ,List.set_cons_zero,show N-(xs.length+(0+1))=m by omega]
 simp
theorem rowZ_at {α:Type} (enc:α→Value) (z:Value) (xs:List α) (N j:Nat) (h:j<xs.length):(rowZ enc z xs N)[j]?=some (enc xs[j]):=by
 unfold rowZ
 rw [List.getElem?_toArray,List.getElem?_append_left (by simpa using h)]
 simp [h]
theorem rowZ_next {α:Type} (enc:α→Value) (z:Value) (xs:List α) (N:Nat) (h:xs.length<N):(rowZ enc z xs N)[xs.length]?=some z:=by
 unfold rowZ
 rw [List.getElem?_toArray,List.getElem?_append_right (by simp),List.length_map,Nat.sub_self,List.getElem?_replicate,if_pos (by omega)]
theorem cells_set {w:World} {b k:Nat} {cs:Array Value} {v:Value} {t:TypeId} {fr:Nat × Nat} (h:w.heap[b]?=some (.cells cs t fr)):(w.setCell ⟨b,k,none⟩ v).heap[b]?=some (.cells (cs.setIfInBounds k v) t fr):=by
 have hlt:=lt_of_block h
 have h':w.heap[b]=.cells cs t fr:=by simpa [Array.getElem?_eq_getElem hlt] using h
 show (w.heap.modify b _)[b]?=_
 rw [Array.getElem?_eq_getElem (by simpa using hlt),Array.getElem_modify_self,h']
 rfl
theorem cell_in {w:World} {b k:Nat} {cs:Array Value} {t:TypeId} (h:w.heap[b]?=some (.cells cs t (0,0))):w.cell? ⟨b,k,none⟩=cs[k]?∧w.frozen? ⟨b,k,none⟩=false:=by
 simp [World.cell?,World.frozen?,h]
end Go.Proofs.YtdgnjhhieemcaaaGreatDoor.L14
end
section
namespace Go.Proofs.YtdgnjhhieemcaaaGreatDoor.L5
open Go.RowKit L3 L1 L4
structure Ix where
 op:Int
 reg:Bool
 dst:Int
 src:Int
 off:Int
 imm:Int
def Ix.z:Ix:=⟨0,false,0,0,0,0⟩
abbrev Ix.cs (x:Ix):Array Value:=#[.int .i64 x.op,.bool x.reg,.int .i64 x.dst,.int .i64 x.src,.int .i64 x.off,.int .i64 x.imm]
def bt' (l:List UInt8) (i:Nat):UInt8:=l.getD i 0
def offL (l:List UInt8):Int:=sx 16 (((bt' l 2).toNat:Int)*1+((bt' l 3).toNat:Int)*256)
def immL (l:List UInt8):Int:=sx 32 (((bt' l 4).toNat:Int)*1+((bt' l 5).toNat:Int)*256+((bt' l 6).toNat:Int)*65536+((bt' l 7).toNat:Int)*16777216)
def hiL (l:List UInt8):Int:=sx 32 (((bt' l 12).toNat:Int)*1+((bt' l 13).toNat:Int)*256+((bt' l 14).toNat:Int)*65536+((bt' l 15).toNat:Int)*16777216)
def idL (l:List UInt8):Int × Bool × Bool:=idF ((bt' l 0).toNat:Int) (((bt' l 1).toNat:Int) / 16) (offL l) (immL l) 86 0
def fL (l:List UInt8):Int:=frm (ix (idL l).1)
def ivL (l:List UInt8):Int:=if uI (fL l) (idL l).2.1 then immL l else 0
def rdL (l:List UInt8):Ix :=
 ⟨(idL l).1,(idL l).2.1,if uD (fL l) then ((bt' l 1).toNat:Int) % 16 else 0,if uS (fL l) (idL l).2.1 then ((bt' l 1).toNat:Int) / 16 else 0,if uO (fL l) then offL l else 0,
  if slo (fL l)=2 then bits .or .i64 (wrap64 (ivL l % 4294967296)) (hiL l*4294967296) else ivL l⟩
def Ix.chk (f:Int) (x:Ix):Int:=chkF f x.reg x.dst x.src x.off x.imm
def Ix.enc (j:Nat) (f:Int) (x:Ix):List UInt8:=encL j f x.reg x.dst x.src x.off x.imm
def decF (l:List UInt8):Ix × Int × Int :=
 if l.length<8 then (.z,0,17)
 else if (idL l).2.2=false then (.z,0,6)
 else if slo (fL l)=2∧l.length<16 then (.z,0,17)
 else if 11≤((bt' l 1).toNat:Int) % 16∨11≤((bt' l 1).toNat:Int) / 16 then (.z,0,5)
 else if (rdL l).chk (fL l)=0∧l.take ((rdL l).enc (ix (idL l).1) (fL l)).length=(rdL l).enc (ix (idL l).1) (fL l) then (rdL l,slo (fL l),0)
 else (.z,0,12)
def BsAt (w:World) (v:Value) (l:List UInt8):Prop :=
 ∃ a cap,v=.slice a l.length cap∧l.length≤cap∧l.length≤maxLen∧(l=[]∨∃ k o,a=some ⟨k,o,none⟩∧Bytes w k o l)
theorem Bytes.get {w:World} {k o:Nat} {l:List UInt8} (h:Bytes w k o l) (i:Nat) (hi:i<l.length):w.cell? ⟨k,o+i,none⟩=some (.int .u8 ((bt' l i).toNat:Int)):=by
 rw [h i hi,bt',List.getD,List.getElem?_eq_getElem hi]
 rfl
theorem Bytes.eight {w:World} {k o:Nat} {l:List UInt8} (h:Bytes w k o l) (hi:8≤l.length):Eight w k o (bt' l 0) (bt' l 1) (bt' l 2) (bt' l 3) (bt' l 4) (bt' l 5) (bt' l 6) (bt' l 7) :=
 ⟨h.get 0 (by omega),h.get 1 (by omega),h.get 2 (by omega),h.get 3 (by omega),h.get 4 (by omega),h.get 5 (by omega),h.get 6 (by omega),h.get 7 (by omega)⟩
theorem dec_short (a:Option Addr) (n cap:Nat) (w:World) (hn:n<8):Calls Tryz.prog 233 #[.slice a n cap] w fun e w'=>e=.returned (.tuple #[.agg Ix.z.cs,.int .i64 0,.int .i64 17])∧Below w.heap.size w w':=by
 have n8:(n:Int)<8:=by omega
 have S:=DecS.start w #[.int .i64 0,.bool false,.int .i64 0,.int .i64 0,.int .i64 0,.int .i64 0]
 go_enter Tryz.func233,Tryz.ntmps233
 go_wp2_with (first|(refine wpList_store_row rfl _ _ _ rfl w.heap.size #[.int .i64 0,.bool false,.int .i64 0,.int .i64 0,.int .i64 0,.int .i64 0] rfl rfl 45 _ S.hg (by kernel_rfl) rfl (ins_one _ _ _ _ _ _) ?_;replace S:=S.set #[.int .i64 0,.bool false,.int .i64 0,.int .i64 0,.int .i64 0,.int .i64 0];obtain⟨x0,x1,x2,x3,x4,x5⟩:=cells6 S.hg))
 exact bodyPost_ret (v:=.tuple #[.agg #[.int .i64 0,.bool false,.int .i64 0,.int .i64 0,.int .i64 0,.int .i64 0],.int .i64 0,.int .i64 17]) (by simp [results,Tryz.results233,go_sem,x0,x1,x2,x3,x4,x5]) rfl ⟨rfl,S.hb⟩
theorem id_ok (code src off imm:Int):∀ (n k:Nat) (op:Int) (r:Bool),idF code src off imm n k=(op,r,true)→∃ j,k≤j∧j<k+n∧op=(j:Int)∧hitK code src off imm j=true∧r=regK code j
 | 0,k,op,r,h=>by simp [idF] at h
 | n+1,k,op,r,h=>by
  unfold idF at h
  split at h
  ·rename_i hh
   simp only [Prod.mk.injEq,and_true] at h
   exact⟨k,Nat.le_refl _,by omega,h.1.symm,hh,h.2.symm⟩
  ·obtain⟨j,h1,h2,h3⟩:=id_ok code src off imm n (k+1) op r h
   exact⟨j,by omega,by omega,h3⟩
theorem sx32_b (x:Int):-2147483648≤sx 32 x∧sx 32 x≤2147483647:=by
 unfold sx
 simp
 omega
theorem or_hi (a b:Int) (ha:0≤a) (ha2:a<4294967296) (hb0:-2147483648≤b) (hb1:b≤2147483647):bits .or .i64 a (b*4294967296)=a+b*4294967296:=by
 show IntKind.i64.wrap (((BitVec.ofInt 64 a ||| BitVec.ofInt 64 (b*4294967296)).toNat:Nat):Int)=_
 rw [BitVec.toNat_or,BitVec.toNat_ofInt,BitVec.toNat_ofInt]
 obtain⟨A,hA⟩:∃ A:Nat,(a % ((2 ^ 64:Nat):Int)).toNat=A:=⟨_,rfl⟩
 obtain⟨Q,hQ⟩:∃ Q:Nat,(b % 4294967296).toNat=Q:=⟨_,rfl⟩
 have e:(b*4294967296 % ((2 ^ 64:Nat):Int)).toNat=2 ^ 32*Q:=by
  have:((2 ^ 64:Nat):Int)=18446744073709551616:=rfl
  rw [this]
  omega
 have hA':A=a.toNat:=by
  have:((2 ^ 64:Nat):Int)=18446744073709551616:=rfl
  rw [this] at hA
  omega
 rw [hA,e,Nat.or_comm,← Nat.two_pow_add_eq_or_of_lt (by omega) Q]
 rw [IntKind.wrap_i64]
 omega
theorem vb (a b:Int) (h0:0≤a) (h1:a<4294967296) (h2:-2147483648≤b) (h3:b≤2147483647):-9223372036854775808≤a+b*4294967296∧a+b*4294967296≤9223372036854775807:=by omega
theorem take_beq (a b:List UInt8) (h:a=b):(a==b)=true:=by rw [h];simp
theorem take_bne (a b:List UInt8) (h:a≠b):(a==b)=false:=by simpa using h
theorem slo_of {f:Int} (h:IsF f):slo f=0∨slo f=1∨slo f=2:=by
 rcases h with rfl|rfl|rfl|rfl|rfl|rfl|rfl|rfl|rfl|rfl|rfl|rfl|rfl <;> decide
theorem decode_any (v:Value) (l:List UInt8) (w:World) (hw:Wid w) (hv:BsAt w v l) :
  Calls Tryz.prog 233 #[v] w fun e w'=>e=.returned (.tuple #[.agg (decF l).1.cs,.int .i64 (decF l).2.1,.int .i64 (decF l).2.2])∧Below w.heap.size w w':=by
 obtain⟨a,cap,rfl,hc,hm,hb⟩:=hv
 unfold maxLen at hm
 unfold decF
 by_cases h8:l.length<8
 ·rw [if_pos h8]
  exact dec_short a l.length cap w h8
 rw [if_neg h8]
 obtain⟨k,o,rfl,hB⟩:∃ k o,a=some ⟨k,o,none⟩∧Bytes w k o l:=by
  rcases hb with rfl|h
  ·simp at h8
  ·exact h
 have hE:=hB.eight (by omega)
 obtain⟨⟨op,r,ok⟩,hid⟩:∃ i,idL l=i:=⟨_,rfl⟩
 have hfL:fL l=frm (ix op):=by unfold fL;rw [hid]
 obtain⟨f,hf⟩:∃ f,frm (ix op)=f:=⟨_,rfl⟩
 rw [hf] at hfL
 have hid':idF ((bt' l 0).toNat:Int) (((bt' l 1).toNat:Int) / 16) (offL l) (immL l) 86 0=(op,r,ok):=hid
 simp only [hid]
 cases ok
 ·simp only [if_true]
  exact dec_op k o l.length cap (bt' l 0) (bt' l 1) (bt' l 2) (bt' l 3) (bt' l 4) (bt' l 5) (bt' l 6) (bt' l 7) (offL l) (immL l) w hw hE (by omega) hc (by omega) rfl rfl op r false hid' rfl
 simp only [Bool.true_eq_false,if_false]
 rw [hfL]
 have hs:=slo_of (hf ▸ frm_isF op:IsF f)
 obtain⟨j,-,hj,hop,-,-⟩:=id_ok _ _ _ _ _ _ _ _ hid'
 have hj':ix op<86:=by rw [hop,ix_nat (by omega)];omega
 have hs12:slo f=1∨slo f=2:=by
  have:=(tab4 _ hj').1
  rwa [← frm_fm hj',hf] at this
 have hiv:(if uI f r then immL l else 0)=ivL l:=by unfold ivL;rw [hfL,hid]
 obtain⟨D,hd⟩:∃ D,(if uD f then ((bt' l 1).toNat:Int) % 16 else 0)=D:=⟨_,rfl⟩
 obtain⟨S,hs'⟩:∃ S,(if uS f r then ((bt' l 1).toNat:Int) / 16 else 0)=S:=⟨_,rfl⟩
 obtain⟨O,ho⟩:∃ O,(if uO f then offL l else 0)=O:=⟨_,rfl⟩
 have hivb:-2147483648≤ivL l∧ivL l≤2147483647:=by
  rw [← hiv]
  split
  ·exact sx32_b _
  ·omega
 rcases hs12 with hs1|hs2
 ·rw [if_neg (by omega)]
  by_cases hreg:11≤((bt' l 1).toNat:Int) % 16∨11≤((bt' l 1).toNat:Int) / 16
  ·rw [if_pos hreg]
   exact dec_reg1 k o l.length cap (bt' l 0) (bt' l 1) (bt' l 2) (bt' l 3) (bt' l 4) (bt' l 5) (bt' l 6) (bt' l 7) (offL l) (immL l) w hw hE (by omega) hc (by omega) rfl rfl op r true hid' rfl f hf hs1 hreg
  rw [if_neg hreg]
  have hrd:rdL l=⟨op,r,D,S,O,ivL l⟩:=by
   unfold rdL
   rw [hid,hfL,← hd,← hs',← ho]
   simp [hs1]
  have hchk:(rdL l).chk f=chkF f r D S O (ivL l):=by rw [hrd];rfl
  have henc:(rdL l).enc (ix op) f=encL (ix op) f r D S O (ivL l):=by rw [hrd];rfl
  have hcs:(rdL l).cs=insA op r D S O (ivL l):=by rw [hrd]
  obtain⟨x,hx⟩:∃ x,rdL l=x:=⟨_,rfl⟩
  rw [hx] at hchk henc hcs ⊢
  clear hrd hx
  by_cases h0:x.chk f=0
  ·have hO:=(chk_ok _ _ _ _ _ _).1 (hchk.symm.trans h0)
   have hlen:(x.enc (ix op) f).length=8:=by rw [henc,encL_length];simp [hs1]
   by_cases hp:l.take (x.enc (ix op) f).length=x.enc (ix op) f
   ·rw [if_pos ⟨h0,hp⟩,hcs,hs1]
    exact dec_yes1 k o l.length cap (bt' l 0) (bt' l 1) (bt' l 2) (bt' l 3) (bt' l 4) (bt' l 5) (bt' l 6) (bt' l 7) (offL l) (immL l) w hw hE (by omega) hc (by omega) rfl rfl op r true hid' rfl f hf hs1 (by omega) (by omega) D S O (ivL l) hd hs' ho hiv l (x.enc (ix op) f) _ rfl hB hO (by omega) (by omega) henc.symm rfl (by omega) (take_beq _ _ hp)
   ·rw [if_neg (fun h=>hp h.2)]
    exact dec_no1 k o l.length cap (bt' l 0) (bt' l 1) (bt' l 2) (bt' l 3) (bt' l 4) (bt' l 5) (bt' l 6) (bt' l 7) (offL l) (immL l) w hw hE (by omega) hc (by omega) rfl rfl op r true hid' rfl f hf hs1 (by omega) (by omega) D S O (ivL l) hd hs' ho hiv l (x.enc (ix op) f) _ rfl hB hO (by omega) (by omega) henc.symm rfl (by omega) (take_bne _ _ hp)
  ·rw [if_neg (fun h=>h0 h.1)]
   exact dec_bad1 k o l.length cap (bt' l 0) (bt' l 1) (bt' l 2) (bt' l 3) (bt' l 4) (bt' l 5) (bt' l 6) (bt' l 7) (offL l) (immL l) w hw hE (by omega) hc (by omega) rfl rfl op r true hid' rfl f hf hs1 (by omega) (by omega) D S O (ivL l) hd hs' ho hiv _ hchk.symm (by simpa using h0)
 ·have hhi:=sx32_b (((bt' l 12).toNat:Int)*1+((bt' l 13).toNat:Int)*256+((bt' l 14).toNat:Int)*65536+((bt' l 15).toNat:Int)*16777216)
  have hor:bits .or .i64 (wrap64 (ivL l % 4294967296)) (hiL l*4294967296)=ivL l % 4294967296+hiL l*4294967296:=by
   rw [show wrap64 (ivL l % 4294967296)=ivL l % 4294967296 by unfold wrap64;omega]
   exact or_hi _ _ (by omega) (by omega) hhi.1 hhi.2
  have hhi':-2147483648≤hiL l∧hiL l≤2147483647:=hhi
  by_cases h16:l.length<16
  ·rw [if_pos ⟨hs2,h16⟩]
   exact dec_short2 k o l.length cap (bt' l 0) (bt' l 1) (bt' l 2) (bt' l 3) (bt' l 4) (bt' l 5) (bt' l 6) (bt' l 7) (offL l) (immL l) w hw hE (by omega) hc (by omega) rfl rfl op r true hid' rfl f hf hs2 h16
  rw [if_neg (fun h=>h16 h.2)]
  by_cases hreg:11≤((bt' l 1).toNat:Int) % 16∨11≤((bt' l 1).toNat:Int) / 16
  ·rw [if_pos hreg]
   exact dec_reg2 k o l.length cap (bt' l 0) (bt' l 1) (bt' l 2) (bt' l 3) (bt' l 4) (bt' l 5) (bt' l 6) (bt' l 7) (offL l) (immL l) w hw hE (by omega) hc (by omega) rfl rfl op r true hid' rfl f hf hs2 (by omega) hreg
  rw [if_neg hreg]
  obtain⟨V,hV⟩:∃ V,bits .or .i64 (wrap64 (ivL l % 4294967296)) (hiL l*4294967296)=V:=⟨_,rfl⟩
  have hVb:-9223372036854775808≤V∧V≤9223372036854775807:=by rw [← hV,hor];exact vb _ _ (Int.emod_nonneg _ (by decide)) (Int.emod_lt_of_pos _ (by decide)) hhi'.1 hhi'.2
  have hrd:rdL l=⟨op,r,D,S,O,V⟩:=by
   unfold rdL
   rw [hid,hfL,← hd,← hs',← ho,← hV]
   simp [hs2]
  have hchk:(rdL l).chk f=chkF f r D S O V:=by rw [hrd];rfl
  have henc:(rdL l).enc (ix op) f=encL (ix op) f r D S O V:=by rw [hrd];rfl
  have hcs:(rdL l).cs=insA op r D S O V:=by rw [hrd]
  obtain⟨x,hx⟩:∃ x,rdL l=x:=⟨_,rfl⟩
  rw [hx] at hchk henc hcs ⊢
  clear hrd hx
  by_cases h0:x.chk f=0
  ·have hO:=(chk_ok _ _ _ _ _ _).1 (hchk.symm.trans h0)
   have hlen:(x.enc (ix op) f).length=16:=by rw [henc,encL_length];simp [hs2]
   by_cases hp:l.take (x.enc (ix op) f).length=x.enc (ix op) f
   ·rw [if_pos ⟨h0,hp⟩,hcs,hs2]
    exact dec_yes2 k o l.length cap (bt' l 0) (bt' l 1) (bt' l 2) (bt' l 3) (bt' l 4) (bt' l 5) (bt' l 6) (bt' l 7) (offL l) (immL l) w hw hE (by omega) hc (by omega) rfl rfl op r true hid' rfl f hf hs2 (by omega) (by omega) (by omega) D S O (ivL l) hd hs' ho hiv (bt' l 12) (bt' l 13) (bt' l 14) (bt' l 15) (hB.get 12 (by omega)) (hB.get 13 (by omega)) (hB.get 14 (by omega)) (hB.get 15 (by omega)) (hiL l) V rfl hV hhi.1 hhi.2 l (x.enc (ix op) f) _ rfl hB hO hVb.1 hVb.2 henc.symm rfl (by omega) (take_beq _ _ hp)
   ·rw [if_neg (fun h=>hp h.2)]
    exact dec_no2 k o l.length cap (bt' l 0) (bt' l 1) (bt' l 2) (bt' l 3) (bt' l 4) (bt' l 5) (bt' l 6) (bt' l 7) (offL l) (immL l) w hw hE (by omega) hc (by omega) rfl rfl op r true hid' rfl f hf hs2 (by omega) (by omega) (by omega) D S O (ivL l) hd hs' ho hiv (bt' l 12) (bt' l 13) (bt' l 14) (bt' l 15) (hB.get 12 (by omega)) (hB.get 13 (by omega)) (hB.get 14 (by omega)) (hB.get 15 (by omega)) (hiL l) V rfl hV hhi.1 hhi.2 l (x.enc (ix op) f) _ rfl hB hO hVb.1 hVb.2 henc.symm rfl (by omega) (take_bne _ _ hp)
  ·rw [if_neg (fun h=>h0 h.1)]
   exact dec_bad2 k o l.length cap (bt' l 0) (bt' l 1) (bt' l 2) (bt' l 3) (bt' l 4) (bt' l 5) (bt' l 6) (bt' l 7) (offL l) (immL l) w hw hE (by omega) hc (by omega) rfl rfl op r true hid' rfl f hf hs2 (by omega) (by omega) (by omega) D S O (ivL l) hd hs' ho hiv (bt' l 12) (bt' l 13) (bt' l 14) (bt' l 15) (hB.get 12 (by omega)) (hB.get 13 (by omega)) (hB.get 14 (by omega)) (hB.get 15 (by omega)) (hiL l) V rfl hV hhi.1 hhi.2 _ hchk.symm (by simpa using h0)
def Ix.f (x:Ix):Int:=frm (ix x.op)
def Ix.err (x:Ix):Int:=chkF x.f x.reg x.dst x.src x.off x.imm
def Ix.bytes (x:Ix):List UInt8:=encL (ix x.op) x.f x.reg x.dst x.src x.off x.imm
def Ix.fits (x:Ix):Prop:=-9223372036854775808≤x.imm∧x.imm≤9223372036854775807
def joinB (l:List Ix):List UInt8:=l.flatMap Ix.bytes
def byL (l:List UInt8):List Value:=l.map fun c=>Value.int .u8 (c.toNat:Int)
theorem byL_append (a b:List UInt8):byL (a++b)=byL a++byL b:=by simp [byL]
theorem byC_list (l:List UInt8):(byC l).toList=byL l:=by simp [byC,byL]
theorem enc_is (x:Ix) (l:List UInt8) (n:Nat) (w:World) (hw:Wid w) (hx:x.fits) (h0:x.err=0) (hl:x.bytes=l) (hn:l.length=n) :
  Calls Tryz.prog 121 #[.agg #[.int .i64 x.op,.bool x.reg,.int .i64 x.dst,.int .i64 x.src,.int .i64 x.off,.int .i64 x.imm]] w fun e w'=>∃ k,w.heap.size≤k∧e=.returned (.tuple #[.slice (some ⟨k,0,none⟩) n n,.int .i64 0])∧w'.heap[k]?=some (.cells (byC l) 5)∧Below w.heap.size w w' :=
 encode_at x.op x.reg x.dst x.src x.off x.imm x.f l n w hw rfl ((chk_ok _ _ _ _ _ _).1 h0) hx.1 hx.2 hl hn
theorem enc_no (x:Ix) (R:Int) (w:World) (hw:Wid w) (h:x.err=R) (hR:(R != 0)=true) :
  Calls Tryz.prog 121 #[.agg #[.int .i64 x.op,.bool x.reg,.int .i64 x.dst,.int .i64 x.src,.int .i64 x.off,.int .i64 x.imm]] w fun e w'=>e=.returned (.tuple #[.slice none 0 0,.int .i64 R])∧Below w.heap.size w w' :=
 encode_no x.op x.reg x.dst x.src x.off x.imm x.f R w hw rfl h hR
theorem bytes_length (x:Ix):x.bytes.length≤16:=by
 unfold Ix.bytes
 rw [encL_length]
 split <;> omega
theorem own_below {w w':World} {base e:TypeId} {size:Nat} {v:Value} {n:Nat} {xs:List Value} (h:w.ownsRow base e size v n xs) (hb:Below w.heap.size w w'):w'.ownsRow base e size v n xs:=by
 refine⟨h.1,?_⟩
 rcases h.2 with h|⟨g,cap,cur,hv,hg,hh,r⟩
 ·exact .inl h
 ·exact .inr ⟨g,cap,cur,hv,hg,(hb.block _ (lt_of_block hh)).trans hh,r⟩
theorem own_base {w:World} {base:Nat} {e:TypeId} {size:Nat} {v:Value} {n:Nat} {xs:List Value} (h:w.ownsRow base e size v n xs):∀ k,v.ownBlock=some k→base≤k:=by
 intro k hk
 rcases h.2 with ⟨rfl,_⟩|⟨g,cap,cur,rfl,hb,_⟩
 ·cases hk
 ·simp [Value.ownBlock] at hk
  omega
theorem byL_len (l:List UInt8):(byL l).length=l.length:=by simp [byL]
theorem byL_one (l:List UInt8):∀ u∈byL l,u.oneCell'=true:=by
 intro u hu
 obtain⟨c,-,rfl⟩:=List.mem_map.1 hu
 rfl
theorem byL_at {w:World} {k:Nat} {l:List UInt8} (h:w.heap[k]?=some (.cells (byC l) 5)):∀ j u,(byL l)[j]?=some u→w.cell? ((⟨k,0,none⟩:Addr).add j)=some u:=by
 rw [← byC_list]
 exact World.news_of_block h
theorem owns_slice' {w:World} {base e:TypeId} {size:Nat} {v:Value} {n:Nat} {xs:List Value} (h:w.ownsRow base e size v n xs):∃ a c,v=.slice a n c:=by
 rcases h.2 with ⟨rfl,rfl⟩|⟨g,cap,cur,rfl,_⟩
 ·exact⟨_,_,rfl⟩
 ·exact⟨_,_,rfl⟩
def Inss (w:World) (k o:Nat) (xs:List Ix):Prop:=∀ i,(h:i<xs.length)→∀ m u,xs[i].cs[m]?=some u→w.cell? ⟨k,o+i*6+m,none⟩=some u
theorem Inss.up {w W:World} {k o:Nat} {xs:List Ix} (h:Inss w k o xs) (hb:Below w.heap.size w W):Inss W k o xs:=fun i hi m u hu=>cell_up hb (h i hi m u hu)
def JoinP (w:World) (xs:List Ix) (e:Ending) (w':World):Prop :=
 ((∃ p x q,xs=p++x::q∧(∀ y∈p,y.err=0)∧x.err≠0∧e=.returned (.tuple #[.slice none 0 0,.int .i64 (p.length:Int),.int .i64 x.err])) ∨
  ((∀ y∈xs,y.err=0)∧∃ v,e=.returned (.tuple #[v,.int .i64 0,.int .i64 0])∧w'.ownsRow w.heap.size 5 1 v (joinB xs).length (byL (joinB xs))))∧Below w.heap.size w w'
theorem join_some (k o n cap:Nat) (xs:List Ix) (w:World) (hw:Wid w) (hn:xs.length=n) (hm:n≤100000) (hi:Inss w k o xs) (hf:∀ x∈xs,x.fits) :
  Calls Tryz.prog 81 #[.slice (some ⟨k,o,none⟩) n cap] w fun e w'=>JoinP w xs e w':=by
 obtain⟨i0,hi0,hz0,hz1,hz2⟩:=info_parts Tryz.info5
 have HW:=Lib.hid hw
 have HI:=Lib.hid hi
 have HF:=Lib.hid hf
 have HN:=Lib.hid hn
 clear hw hi hf hn
 go_enter Tryz.func81,Tryz.ntmps81
 go_wp2
 go_loopw [5,12] (fun b i wr=>∃ (j:Nat) (m:Nat) (l:List UInt8),j≤n∧i=.int .i64 (j:Int)∧wr.ownsRow w.heap.size 5 1 b m (byL l)∧m≤16*j∧Hid (l=joinB (xs.take j))∧Hid (∀ y∈xs.take j,y.err=0)∧Below w.heap.size w wr) (fun _ i _=>n-(intOf i).toNat)
 case atStart=>exact⟨0,0,[],Nat.zero_le _,rfl,World.ownsRow_nil _ _ _ _,by omega,Lib.hid (by simp [joinB]),Lib.hid (by simp),Below.refl _ _⟩
 case round =>
  obtain⟨j,m,l,hj,rfl,hown,hm16,hL,hG,hB⟩:=hrel
  by_cases hlt:j<n
  ·have hjx:j<xs.length:=by rw [HN.out];exact hlt
   obtain⟨x,hx⟩:∃ x,xs[j]=x:=⟨_,rfl⟩
   have hI:=(HI.out.up hB) j hjx
   rw [hx] at hI
   have a0:=hI 0 _ rfl
   have a1:=hI 1 _ rfl
   have a2:=hI 2 _ rfl
   have a3:=hI 3 _ rfl
   have a4:=hI 4 _ rfl
   have a5:=hI 5 _ rfl
   rw [Nat.add_zero] at a0
   have hlt':(j:Int)<(n:Int):=by omega
   have HX:=Lib.hid hx
   clear hI hx
   by_cases h0:x.err=0
   ·have HE:=Lib.hid (fun (W:World) (hb:Below w.heap.size w W)=>enc_is x x.bytes _ W (wid_below HW.out hb) (HF.out x (by rw [← HX.out];exact List.getElem_mem _)) h0 rfl rfl)
    have H0:=Lib.hid h0
    clear h0
    have hBW:=Lib.hid (hB.alloc hB.size (.cells x.cs 45))
    have hsz:=hB.size
    have hb16:=bytes_length x
    go_wp2_with (first|(go_at_call 121;((with_reducible refine (HE.out _ hBW.out).mono ?_);rintro e w2 ⟨kk,hkk,rfl,hck,hb2⟩;have hown2:=own_below hown (bch (bnew wr (.cells x.cs 45)) hb2)))|(at_builtin;refine wpList_append_own _ rfl _ _ 23 rfl w.heap.size 5 i0 (.int .u8 0) 1 1 Tryz.underlying23 hi0 hz0 hz1 hz2 rfl (by decide) _ m _ rfl hown2 ⟨kk,0,none⟩ x.bytes.length x.bytes.length (byL x.bytes) rfl (by rw [byL_len];omega) (byL_at hck) (byL_one _) (by unfold maxLen;omega) (by omega) (by have:=hb2.size;simp at this;omega) ?_;intro v' w3 hown3 hgrow3 _))
    go_roundw
    case rel =>
     have hT:xs.take (j+1)=xs.take j++[x]:=by rw [List.take_succ_eq_append_getElem hjx,HX.out]
     refine⟨j+1,m+x.bytes.length,l++x.bytes,by omega,by go_num,by rw [byL_append];exact hown3,by omega,Lib.hid ?_,Lib.hid ?_,((hBW.out.trans (hb2.mono (by simp;omega)))).grown hgrow3 (by have:=hb2.size;simp at this;omega) (own_base hown)⟩
     ·rw [hT,hL.out]
      simp [joinB]
     ·rw [hT]
      intro y hy
      rcases List.mem_append.1 hy with h|h
      ·exact hG.out y h
      ·rw [List.mem_singleton.1 h];exact H0.out
    case measure=>simp [intOf];omega
   ·have hne:(x.err != 0)=true:=by simpa using h0
    have HE:=Lib.hid (fun (W:World) (hb:Below w.heap.size w W)=>enc_no x x.err W (wid_below HW.out hb) rfl hne)
    have hBW:=Lib.hid (hB.alloc hB.size (.cells x.cs 45))
    have hsz:=hB.size
    have H0:=Lib.hid h0
    clear h0
    go_wp2_with (first|(go_at_call 121;((with_reducible refine (HE.out _ hBW.out).mono ?_);rintro e w2 ⟨rfl,hb2⟩)))
    refine bodyPost_ret (v:=.tuple #[.slice none 0 0,.int .i64 (j:Int),.int .i64 x.err]) (by simp [results,Tryz.results81,go_sem]) rfl ⟨.inl ⟨xs.take j,x,xs.drop (j+1),?_,hG.out,H0.out,?_⟩,hBW.out.trans (hb2.mono (by simp;omega))⟩
    ·rw [← HX.out,← List.drop_eq_getElem_cons hjx,List.take_append_drop]
    ·rw [List.length_take,Nat.min_eq_left (by omega)]
  ·have hge:¬ (j:Int)<(n:Int):=by omega
   have hjn:j=n:=by omega
   have HJ:=Lib.hid hjn
   clear hjn
   obtain⟨va,vc,rfl⟩:=owns_slice' hown
   go_wp2
   have hT:xs.take j=xs:=List.take_of_length_le (by rw [HN.out,HJ.out];exact Nat.le_refl _)
   have hLL:l=joinB xs:=by rw [hL.out,hT]
   have hml:m=(joinB xs).length:=by have:=hown.1;rw [byL_len,hLL] at this;omega
   refine bodyPost_ret (v:=.tuple #[.slice va m vc,.int .i64 0,.int .i64 0]) (by simp [results,Tryz.results81,go_sem]) rfl ⟨.inr ⟨fun y hy=>hG.out y (by rw [hT];exact hy),_,rfl,?_⟩,hB⟩
   rw [← hml,← hLL]
   exact hown
theorem join_none (a:Option Addr) (cap:Nat) (w:World):Calls Tryz.prog 81 #[.slice a 0 cap] w fun e w'=>JoinP w [] e w':=by
 go_enter Tryz.func81,Tryz.ntmps81
 go_wp2
 refine wp_loop_rounds 1 ?_
 rw [rounds_succ]
 go_wp2
 exact bodyPost_ret (v:=.tuple #[.slice none 0 0,.int .i64 0,.int .i64 0]) (by simp [results,Tryz.results81,go_sem]) rfl ⟨.inr ⟨(fun y hy=>by cases hy),_,rfl,World.ownsRow_nil _ _ _ _⟩,Below.refl _ _⟩
def InAt (w:World) (v:Value) (xs:List Ix):Prop :=
 ∃ a cap,v=.slice a xs.length cap∧(xs=[]∨∃ k o,a=some ⟨k,o,none⟩∧Inss w k o xs)
theorem join_at (v:Value) (xs:List Ix) (w:World) (hw:Wid w) (hm:xs.length≤100000) (hv:InAt w v xs) (hf:∀ x∈xs,x.fits):Calls Tryz.prog 81 #[v] w fun e w'=>JoinP w xs e w':=by
 obtain⟨a,cap,rfl,h⟩:=hv
 rcases h with rfl|⟨k,o,rfl,h⟩
 ·exact join_none a cap w
 ·exact join_some k o _ cap xs w hw rfl hm h hf
def BsV (w:World) (v:Value) (l:List UInt8):Prop:=∃ a cap,v=.slice a l.length cap∧(l=[]∨∃ k o,a=some ⟨k,o,none⟩∧Bytes w k o l)
theorem BsAt.v {w:World} {v:Value} {l:List UInt8} (h:BsAt w v l):BsV w v l:=by
 obtain⟨a,cap,h1,-,-,h4⟩:=h
 exact⟨a,cap,h1,h4⟩
theorem BsV.below {w w':World} {v:Value} {l:List UInt8} (h:BsV w v l) (hb:Below w.heap.size w w'):BsV w' v l:=by
 obtain⟨a,cap,rfl,h3⟩:=h
 refine⟨a,cap,rfl,?_⟩
 rcases h3 with h3|⟨k,o,rfl,h3⟩
 ·exact .inl h3
 ·exact .inr ⟨k,o,rfl,h3.up hb⟩
theorem own_bytes {w:World} {base:Nat} {v:Value} {n:Nat} {l:List UInt8} (h:w.ownsRow base 5 1 v n (byL l)):BsAt w v l:=by
 have hl:l.length=n:=by have:=h.1;rw [byL_len] at this;omega
 subst hl
 rcases h.2 with ⟨rfl,h0⟩|⟨g,cap,cur,rfl,hb,hg,hnc,hcm,hcs,htk⟩
 ·have:l=[]:=List.eq_nil_of_length_eq_zero h0
  subst this
  exact⟨none,0,rfl,by simp,by unfold maxLen;omega,.inl rfl⟩
 ·refine⟨_,cap,rfl,hnc,Nat.le_trans hnc hcm,.inr ⟨g,0,rfl,fun j hj=>?_⟩⟩
  have h1:(cur.toList.take (l.length*1))[j]?=some (.int .u8 (l[j].toNat:Int)):=by
   rw [htk];simp [byL,hj]
  rw [List.getElem?_take] at h1
  simp [hj] at h1
  rw [Nat.zero_add]
  exact cell_of hg (by simpa using h1)
end Go.Proofs.YtdgnjhhieemcaaaGreatDoor.L5
end
section
namespace Go.Proofs.YtdgnjhhieemcaaaGreatDoor.L5
open Go.RowKit Go.Shelf L3 L1 L4
attribute [local go_sem] Oper.semAt_some
structure Rdg where
 at':Nat
 x:Ix
 e:Int
abbrev Rdg.cs (r:Rdg):Array Value:=#[.int .i64 r.x.op,.bool r.x.reg,.int .i64 r.x.dst,.int .i64 r.x.src,.int .i64 r.x.off,.int .i64 r.x.imm,.int .i64 r.e]
abbrev Rdg.vs (r:Rdg):Array Value:=#[.int .i64 (r.at':Int),.agg r.cs]
def rds:Nat→Nat→List UInt8→List Rdg
 | 0,_,_=>[]
 | n+1,a,l=>if l=[] then [] else if (decF l).2.2≠0 then [⟨a,(decF l).1,(decF l).2.2⟩] else ⟨a,(decF l).1,0⟩::rds n (a+(decF l).2.1.toNat) (l.drop (8*(decF l).2.1.toNat))
theorem grown_of_below {w w':World} (h:Below w.heap.size w w'):w.grownBy w' none:=⟨h.os,h.tape,h.output,h.size,fun k hk _=>h.block k hk⟩
theorem decF_ok (l:List UInt8) (h:(decF l).2.2=0):∃ s:Nat,(decF l).2.1=(s:Int)∧1≤s∧s≤2∧8*s≤l.length:=by
 unfold decF at h ⊢
 by_cases h8:l.length<8
 ·rw [if_pos h8] at h
  exact absurd h (by decide)
 rw [if_neg h8] at h ⊢
 by_cases hi:(idL l).2.2=false
 ·rw [if_pos hi] at h
  exact absurd h (by decide)
 rw [if_neg hi] at h ⊢
 by_cases h16:slo (fL l)=2∧l.length<16
 ·rw [if_pos h16] at h
  exact absurd h (by decide)
 rw [if_neg h16] at h ⊢
 by_cases hr:11≤((bt' l 1).toNat:Int) % 16∨11≤((bt' l 1).toNat:Int) / 16
 ·rw [if_pos hr] at h
  exact absurd h (by decide)
 rw [if_neg hr] at h ⊢
 split at h
 ·rename_i hh
  rw [if_pos hh]
  have hop:fL l≠-1:=((chk_ok _ _ _ _ _ _).1 hh.1).hop
  have hs:=(tab4 _ (frm_lt hop)).1
  rw [← frm_fm (frm_lt hop)] at hs
  change slo (fL l)=1∨slo (fL l)=2 at hs
  rcases hs with hs|hs
  ·exact⟨1,hs,by omega,by omega,by omega⟩
  ·refine⟨2,hs,by omega,by omega,?_⟩
   have:¬ l.length<16:=fun h=>h16 ⟨hs,h⟩
   omega
 ·exact absurd h (by decide)
theorem sl_from (k o n cap a:Nat) (h:a≤n) (hc:n≤cap) (w:World) :
  (Instr.slice 23 (.slice (some ⟨k,o,none⟩) n cap) (some (.int .i64 (a:Int))) none none).run Tryz.prog w=.ok (.slice (some ⟨k,if cap=a then o else o+a,none⟩) (n-a) (cap-a)) w:=by
 have h2:a≤cap:=by omega
 by_cases hq:cap=a <;> simp [go_sem,Tryz.underlying23,h,hq]
def BsL (n:Nat) (w:World) (v:Value) (l:List UInt8):Prop :=
 ∃ a cap,v=.slice a l.length cap∧l.length≤cap∧l.length≤maxLen∧(l=[]∨∃ k o,a=some ⟨k,o,none⟩∧k<n∧Bytes w k o l)
theorem BsL.at {n:Nat} {w:World} {v:Value} {l:List UInt8} (h:BsL n w v l):BsAt w v l:=by
 obtain⟨a,cap,rfl,h1,h2,h3⟩:=h
 refine⟨a,cap,rfl,h1,h2,?_⟩
 rcases h3 with h3|⟨k,o,rfl,_,h3⟩
 ·exact .inl h3
 ·exact .inr ⟨k,o,rfl,h3⟩
theorem BsL.below {n:Nat} {w w':World} {v:Value} {l:List UInt8} (h:BsL n w v l) (hb:Below n w w'):BsL n w' v l:=by
 obtain⟨a,cap,rfl,h1,h2,h3⟩:=h
 refine⟨a,cap,rfl,h1,h2,?_⟩
 rcases h3 with h3|⟨k,o,rfl,hk,h3⟩
 ·exact .inl h3
 ·exact .inr ⟨k,o,rfl,hk,fun j hj=>(hb.cell (p:=⟨k,o+j,none⟩) hk).trans (h3 j hj)⟩
theorem BsAt.low {w:World} {v:Value} {l:List UInt8} (h:BsAt w v l):BsL w.heap.size w v l:=by
 obtain⟨a,cap,rfl,h1,h2,h3⟩:=h
 refine⟨a,cap,rfl,h1,h2,?_⟩
 rcases h3 with h3|⟨k,o,rfl,h3⟩
 ·exact .inl h3
 ·by_cases h0:l=[]
  ·exact .inl h0
  ·have hp:0<l.length:=List.length_pos_iff.2 h0
   exact .inr ⟨k,o,rfl,World.block_lt_of_cell? w _ (h3 0 hp),h3⟩
theorem wid_low {n:Nat} {w w':World} (h:Wid w) (hb:Below n w w') (hn:0<n):Wid w':=by
 obtain⟨t,fr,hw⟩:=h
 exact⟨t,fr,(hb.block _ hn).trans hw⟩
theorem rds_nil (n a:Nat):rds n a []=[]:=by cases n <;> simp [rds]
theorem rds_bad (n a:Nat) (l:List UInt8) (h:l≠[]) (he:(decF l).2.2≠0):rds (n+1) a l=[⟨a,(decF l).1,(decF l).2.2⟩]:=by simp [rds,h,he]
theorem rds_go (n a s:Nat) (l:List UInt8) (h:l≠[]) (he:(decF l).2.2=0) (hs:(decF l).2.1=(s:Int)):rds (n+1) a l=⟨a,(decF l).1,0⟩::rds n (a+s) (l.drop (8*s)):=by simp [rds,h,he,hs]
theorem readings_in (n:Nat) (hn:2≤n) (lp Bn n₀:Nat) (v:Value) (l:List UInt8) (fu:Nat) (hfu:l.length≤fu) (J Jx:List Rdg→World→Prop) (W:World) (hJ:AbidesFrom W.heap.size J)
  (hY:∀ pre x W1,J pre W1→pre.length<(rds fu 0 l).length→YieldAt Fence.wide (n-1) Tryz.prog lp (Rdg.vs x) W1 fun e W' =>
   (e=.returned (.bool true)∧J (pre++[x]) W'∧Below n₀ W1 W')∨(e=.returned (.bool false)∧Jx (pre++[x]) W'))
  (hBn:W.cell? ⟨Bn,0,none⟩=some v) (hv:BsL n₀ W v l) (hn₀:n₀≤W.heap.size) (h0n:0<n₀) (hw:Wid W) (h0:J [] W) :
  CallsIn Fence.wide n Tryz.prog 232 #[.func (.yield lp) #[] #[],.pointer (some ⟨Bn,0,none⟩)] W fun e W'=>(∃ v,e=.returned v) ∧
   ((∃ ys,ys=rds fu 0 l∧J ys W')∨(∃ pre,pre <+: rds fu 0 l∧Jx pre W')):=by
 refine callsIn_of_wp Tryz.func232 rfl trivial ?_ rfl
 simp only [Tryz.ntmps232,List.size_toArray,List.length_cons,List.length_nil,Nat.reduceAdd,Nat.reduceSub,Array.replicate_succ,Array.replicate_zero,List.push_toArray,List.append_toArray,List.nil_append,List.cons_append]
 gi_wp2
 gi_region
 gi_wp2
 have hD:Below W.heap.size W W.drew:=(Below.refl _ _).drew
 have hJD:=hJ _ _ _ none h0 (grown_of_below hD) (fun r e=>by cases e)
 have h1n:1≤n:=by omega
 have hLm:l.length≤9223372036854775807:=by
  obtain⟨a,cap,-,h1,h2,-⟩:=hv
  unfold maxLen at h2
  omega
 gi_loopw [3,4] (fun a r wr=>∃ (pre:List Rdg) (k:Nat) (l':List UInt8) (fu':Nat),a=.int .i64 (k:Int)∧BsL n₀ wr r l'∧Wid wr∧n₀≤wr.heap.size∧Hid (rds fu 0 l=pre++rds fu' k l')∧l'.length≤fu'∧8*k+l'.length=l.length∧J pre wr) (fun a _ _=>l.length-8*(intOf a).toNat)
 case atStart=>exact⟨[],0,l,fu,rfl,hv.below (hD.mono hn₀),wid_below hw hD,hn₀,Lib.hid rfl,hfu,by omega,hJD⟩
 case round =>
  obtain⟨pre,k,l',fu',rfl,hr,hwr,hnr,hR,hf',hk8,hJr⟩:=hrel
  have hra:=hr
  obtain⟨ad,cap,rfl,hc1,hc2,hc3⟩:=hra
  by_cases hl0:l'=[]
  ·subst hl0
   gi_wp2
   go_end0
   exact⟨⟨_,rfl⟩,.inl (by rw [hR.out,rds_nil,List.append_nil];exact hJr)⟩
  ·have hp:0<l'.length:=List.length_pos_iff.2 hl0
   have hDC:=Lib.hid (callsIn_wide (n:=n-1).2 (decode_any _ l' wr hwr hr.at))
   obtain⟨⟨x,sl,er⟩,hd⟩:∃ d,decF l'=d:=⟨_,rfl⟩
   rw [hd] at hDC
   obtain⟨fu1,rfl⟩:∃ q,fu'=q+1:=⟨fu'-1,by omega⟩
   have hlt:pre.length<(rds fu 0 l).length:=by
    rw [hR.out,List.length_append]
    by_cases he:(decF l').2.2=0
    ·obtain⟨q,hq,-⟩:=decF_ok l' he
     rw [rds_go _ _ _ _ hl0 he hq]
     simp
    ·rw [rds_bad _ _ _ hl0 he]
     simp
   have hJn:=Lib.hid (fun (w1:World) (hb:Below wr.heap.size wr w1)=>hJ _ _ _ none hJr (grown_of_below (bch hb (bnew w1 (.cells x.cs 45)))) (fun r e=>by cases e))
   have hYn:=Lib.hid (fun (w1:World) (hb:Below wr.heap.size wr w1)=>hY pre ⟨k,x,er⟩ _ (hJn.out w1 hb) hlt)
   have hN:=Lib.hid (fun (w1:World) (hb:Below wr.heap.size wr w1)=>(bch hb (bnew w1 (.cells x.cs 45))).mono hnr)
   by_cases he:er=0
   ·subst he
    gi_wp2_with (refine⟨trivial,?_⟩;gi_at_call 233;((with_reducible refine (hDC.out).mono ?_);rintro e w1 ⟨rfl,hb1⟩;obtain⟨fn,tmps,assign,body,hy,hYR⟩:=hYn.out w1 hb1))
    obtain⟨s,hs,s1,s2,s8⟩:=decF_ok l' (by rw [hd])
    rw [hd] at hs
    obtain rfl:sl=(s:Int):=hs
    obtain⟨kk,oo,rfl,hkk,hby⟩:∃ kk oo,ad=some ⟨kk,oo,none⟩∧kk<n₀∧Bytes wr kk oo l':=by
     rcases hc3 with h|h
     ·exact absurd h hl0
     ·exact h
    have hpre:rds fu 0 l=(pre++[⟨k,x,0⟩])++rds fu1 (k+s) (l'.drop (8*s)):=by
     rw [hR.out,rds_go fu1 k s l' hl0 (by rw [hd]) (by rw [hd]),hd]
     simp
    refine hYR.mono ?_
    rintro e W3 (⟨rfl,hJ3,hk3⟩|⟨rfl,hJx3⟩)
    ·have hB3:=(hN.out w1 hb1).trans hk3
     have hsl:=sl_from kk oo l'.length cap (8*s) (by omega) hc1
     have e1:((8*s:Nat):Int)=(s:Int)*8:=by omega
     rw [e1] at hsl
     have hnew:BsL n₀ W3 (.slice (some ⟨kk,if cap=8*s then oo else oo+8*s,none⟩) (l'.length-8*s) (cap-8*s)) (l'.drop (8*s)):=by
      refine⟨_,_,by rw [List.length_drop],by rw [List.length_drop];omega,by rw [List.length_drop];omega,?_⟩
      by_cases hcap:cap=8*s
      ·exact .inl (List.drop_eq_nil_of_le (by omega))
      ·refine .inr ⟨kk,oo+8*s,by rw [if_neg hcap],hkk,fun j hj=>?_⟩
       rw [List.length_drop] at hj
       have:=hby (8*s+j) (by omega)
       rw [List.getElem_drop,Nat.add_assoc]
       exact (hB3.cell (p:=⟨kk,_,none⟩) hkk).trans this
     have hW3:=wid_low hwr hB3 h0n
     have hz3:n₀≤W3.heap.size:=by have:=hB3.size;omega
     have hP:=Lib.hid hpre
     have hq:l'.length-8*s≤fu1:=by omega
     generalize (if cap=8*s then oo else oo+8*s)=o2 at hsl hnew
     clear hpre hd hR hY hYn hJn hN hYR hby hc3 hr hDC
     gi_wp2
     go_roundw
     case rel=>exact⟨pre++[⟨k,x,0⟩],k+s,l'.drop (8*s),fu1,by go_num,hnew,hW3,hz3,hP,by rw [List.length_drop];exact hq,by rw [List.length_drop];omega,hJ3⟩
     case measure=>simp [intOf];omega
    ·have hP:=Lib.hid hpre
     clear hpre hd hR hY hYn hJn hN hYR hby hc3 hr hDC
     gi_wp2
     refine bodyPost_ret (results_none rfl _ _ _) rfl ?_
     exact⟨⟨_,rfl⟩,.inr ⟨pre++[⟨k,x,0⟩],⟨_,hP.out.symm⟩,hJx3⟩⟩
   ·have hen:(er != 0)=true:=by simpa using he
    have hpre:rds fu 0 l=pre++[⟨k,x,er⟩]:=by
     rw [hR.out,rds_bad fu1 k l' hl0 (by rw [hd];exact he),hd]
    have hP:=Lib.hid hpre
    clear hpre hd hR
    gi_wp2_with (refine⟨trivial,?_⟩;gi_at_call 233;((with_reducible refine (hDC.out).mono ?_);rintro e w1 ⟨rfl,hb1⟩;obtain⟨fn,tmps,assign,body,hy,hYR⟩:=hYn.out w1 hb1))
    refine hYR.mono ?_
    rintro e W3 (⟨rfl,hJ3,hk3⟩|⟨rfl,hJx3⟩)
    ·clear hY hYn hJn hN hYR hc3 hr hDC
     gi_wp2
     refine bodyPost_ret (results_none rfl _ _ _) rfl ?_
     exact⟨⟨_,rfl⟩,.inl ⟨_,hP.out.symm,hJ3⟩⟩
    ·clear hY hYn hJn hN hYR hc3 hr hDC
     gi_wp2
     refine bodyPost_ret (results_none rfl _ _ _) rfl ?_
     exact⟨⟨_,rfl⟩,.inr ⟨pre++[⟨k,x,er⟩],by rw [hP.out];exact List.prefix_refl _,hJx3⟩⟩
end Go.Proofs.YtdgnjhhieemcaaaGreatDoor.L5
end
section
namespace Go.Proofs.YtdgnjhhieemcaaaGreatDoor.L8
open Go.RowKit L2
attribute [local go_sem] Oper.semAt_some
def hdl:List UInt8→List UInt8
 | []=>[]
 | c::r=>if c==10 then [] else c::hdl r
def tll:List UInt8→List UInt8
 | []=>[]
 | c::r=>if c==10 then r else tll r
theorem hdl_le:∀ l,(hdl l).length≤l.length
 | []=>Nat.le_refl _
 | c::r=>by
  have:=hdl_le r
  unfold hdl;split <;> simp <;> omega
theorem tll_lt:∀ l,l≠[]→(tll l).length<l.length
 | [],h=>absurd rfl h
 | c::r,_=>by
  unfold tll
  split
  ·simp
  ·cases r with
   | nil=>simp [tll]
   | cons a r=>have:=tll_lt (a::r) (by simp);simp only [List.length_cons] at this ⊢;omega
def lsx:List UInt8→List UInt8→List (List UInt8)
 | a,[]=>if a=[] then [] else [a]
 | a,c::r=>if c==10 then a::lsx [] r else lsx (a++[c]) r
theorem lsx_step:∀ (l a:List UInt8),a++l≠[]→lsx a l=(a++hdl l)::lsx [] (tll l)
 | [],a,h=>by
  have ha:a≠[]:=by simpa using h
  simp [lsx,hdl,tll,ha]
 | c::r,a,_=>by
  by_cases hc:(c==10)=true
  ·have e1:lsx a (c::r)=a::lsx [] r:=by rw [lsx,if_pos hc]
   have e2:hdl (c::r)=[]:=by rw [hdl,if_pos hc]
   have e3:tll (c::r)=r:=by rw [tll,if_pos hc]
   rw [e1,e2,e3,List.append_nil]
  ·have e1:lsx a (c::r)=lsx (a++[c]) r:=by rw [lsx,if_neg hc]
   have e2:hdl (c::r)=c::hdl r:=by rw [hdl,if_neg hc]
   have e3:tll (c::r)=tll r:=by rw [tll,if_neg hc]
   rw [e1,e2,e3,lsx_step r (a++[c]) (by simp),List.append_assoc];rfl
theorem ln_lsx (L:List UInt8):∀ (l a:List UInt8) (i fr:Nat),L.drop fr=a++l→i=fr+a.length→(ln i fr l).map (fun p=>(L.drop p.1).take (p.2-p.1))=lsx a l
 | [],a,i,fr,h,hi=>by
  rw [List.append_nil] at h
  unfold ln lsx
  by_cases ha:a=[]
  ·subst ha
   rw [if_pos rfl,if_neg (by simp at hi;omega)];rfl
  ·have:0<a.length:=List.length_pos_iff.2 ha
   rw [if_neg ha,if_pos (by omega)]
   simp only [List.map_cons,List.map_nil,h]
   rw [List.take_of_length_le (by omega)]
 | c::r,a,i,fr,h,hi=>by
  unfold ln lsx
  by_cases hc:(c==10)=true
  ·rw [if_pos hc,if_pos hc]
   simp only [List.map_cons,h]
   rw [show i-fr=a.length by omega,List.take_left,ln_lsx L r [] (i+1) (i+1) ?_ (by simp)]
   rw [List.nil_append,hi,Nat.add_assoc,← List.drop_drop,h,← List.drop_drop,List.drop_left];rfl
  ·rw [if_neg hc,if_neg hc]
   exact ln_lsx L r (a++[c]) (i+1) fr (by rw [h];simp) (by simp;omega)
def mkB (l:List UInt8):ByteArray:=⟨l.toArray⟩
theorem mkB_of (s:ByteArray):mkB s.data.toList=s:=by unfold mkB;rw [Array.toArray_toList]
theorem mkB_list (l:List UInt8):(mkB l).data.toList=l:=by simp [mkB]
theorem mkB_size (l:List UInt8):(mkB l).size=l.length:=by rw [← size_list,mkB_list]
theorem lns_lsx (s:ByteArray):lns s=(lsx [] s.data.toList).map mkB:=by
 rw [← ln_lsx s.data.toList s.data.toList [] 0 0 (by simp) rfl,List.map_map]
 unfold lns exX
 refine List.map_congr_left fun p _=>?_
 show _=mkB ((s.data.toList.drop p.1).take (p.2-p.1))
 rw [← ext_list,mkB_of]
theorem ix_cases:∀ l:List UInt8,(Lib.indexByte l 10=-1∧hdl l=l∧tll l=[])∨∃ i:Nat,Lib.indexByte l 10=(i:Int)∧i<l.length∧hdl l=l.take i∧tll l=l.drop (i+1)
 | []=>.inl ⟨rfl,rfl,rfl⟩
 | c::r=>by
  unfold Lib.indexByte hdl tll
  by_cases hc:(c==10)=true
  ·rw [if_pos hc,if_pos hc,if_pos hc]
   exact .inr ⟨0,rfl,by simp,rfl,rfl⟩
  ·rw [if_neg hc,if_neg hc,if_neg hc]
   rcases ix_cases r with ⟨h1,h2,h3⟩|⟨i,h1,h2,h3,h4⟩
   ·left
    rw [h1,h2,h3]
    exact⟨rfl,rfl,rfl⟩
   ·right
    refine⟨i+1,?_,by rw [List.length_cons];omega,by rw [h3,List.take_succ_cons],by rw [h4,List.drop_succ_cons]⟩
    rw [h1,if_neg (by rw [beq_iff_eq];omega)];rfl
theorem indexByte_at (s:ByteArray) (w:World):Calls Tryz.prog 271 #[.string s,.int .u8 10] w fun e w'=>e=.returned (.int .i64 (Lib.indexByte s.data.toList 10))∧w=w':=by
 go_enter Tryz.func271,Tryz.ntmps271
 go_wp2
 rw [run_callFunc_extern Tryz.func291 (by kernel_rfl) (by kernel_rfl) (by kernel_rfl) (e:=Extern.BytealgIndexByte.indexByte) (by kernel_rfl),Lib.run_indexByteString]
 simp only [Result.andThen]
 rw [Oper.upon_value]
 go_wp2
 go_ret
 exact⟨rfl,rfl⟩
theorem index_nl (s:ByteArray) (w:World):Calls Tryz.prog 253 #[.string s,.string ⟨#[10]⟩] w fun e w'=>e=.returned (.int .i64 (Lib.indexByte s.data.toList 10))∧w=w':=by
 have HI:=Lib.hid (fun w=>indexByte_at s w)
 have hix:∀ w,(Instr.index 9 (.string ⟨#[10]⟩) (.int .i64 0)).run Tryz.prog w=.ok (.int .u8 10) w:=fun w=>by
  rw [run_index_string w 9 ⟨#[10]⟩ .i64 0 Tryz.underlying9,dif_pos (by decide)];rfl
 by_cases hs:s.data.toList=[10]
 ·have hx:Lib.indexByte s.data.toList 10=0:=by rw [hs];rfl
  have t1:(([10]:List UInt8)==s.toList)=true:=by rw [Lib.toList_data,hs];rfl
  rw [hx]
  clear hs hx HI
  go_enter Tryz.func253,Tryz.ntmps253
  go_wp2
  go_ret
  exact⟨rfl,rfl⟩
 ·have t1:(([10]:List UInt8)==s.toList)=false:=by
   rw [Lib.toList_data,beq_eq_false_iff_ne]
   exact fun e=>hs e.symm
  clear hs
  generalize Lib.indexByte s.data.toList 10=x at HI ⊢
  go_enter Tryz.func253,Tryz.ntmps253
  go_wp2_with (go_at_call 271;((with_reducible refine (HI.out _).mono ?_);rintro e w1 ⟨rfl,rfl⟩))
  go_ret
  exact⟨rfl,rfl⟩
theorem cutl_any (s:ByteArray) (hs:s.size≤1000000) (w:World):Calls Tryz.prog 221 #[.string s,.string ⟨#[10]⟩] w fun e w'=>(∃ b,e=.returned (.tuple #[.string (mkB (hdl s.data.toList)),.string (mkB (tll s.data.toList)),.bool b]))∧∃ m,w'=w.drewN m:=by
 have HI:=Lib.hid (fun w=>index_nl s w)
 rcases ix_cases s.data.toList with ⟨h1,h2,h3⟩|⟨i,h1,h2,h3,h4⟩
 ·rw [h1] at HI
  rw [h2,h3,mkB_of]
  clear h1 h2 h3
  go_enter Tryz.func221,Tryz.ntmps221
  go_wp2_with (go_at_call 253;((with_reducible refine (HI.out _).mono ?_);rintro e w1 ⟨rfl,rfl⟩))
  refine bodyPost_ret (v:=.tuple #[.string s,.string ⟨#[]⟩,.bool false]) (by simp [results,Tryz.results221,go_sem]) rfl ⟨⟨_,rfl⟩,0,rfl⟩
 ·rw [h1] at HI
  rw [size_list] at h2
  obtain⟨U,hU⟩:∃ U,s.extract 0 i=U:=⟨_,rfl⟩
  obtain⟨V,hV⟩:∃ V,s.extract (i+1) s.size=V:=⟨_,rfl⟩
  have e1:mkB (hdl s.data.toList)=U:=by rw [h3,← hU,← mkB_of (s.extract 0 i),ext_list];rfl
  have e2:mkB (tll s.data.toList)=V:=by rw [h4,← hV,← mkB_of (s.extract (i+1) s.size),ext_rest]
  have hu:∀ w,(Instr.slice 9 (.string s) none (some (.int .i64 (i:Int))) none).run Tryz.prog w=.ok (.string U) w:=fun w=>by
   rw [run_slice_string_to_if w 9 s .i64 i Tryz.underlying9,if_pos (by omega),← hU];rfl
  have hv:∀ w,(Instr.slice 9 (.string s) (some (.int .i64 ((i:Int)+1))) none none).run Tryz.prog w=.ok (.string V) w:=fun w=>by
   rw [run_slice_string_from_if w 9 s .i64 ((i:Int)+1) Tryz.underlying9,if_pos (by omega),← hV];rfl
  rw [e1,e2]
  clear h1 h3 h4 hU hV e1 e2
  go_enter Tryz.func221,Tryz.ntmps221
  go_upto_region 3 with (go_at_call 253;((with_reducible refine (HI.out _).mono ?_);rintro e w1 ⟨rfl,rfl⟩))
  go_quiet (fail)
  go_wp2
  refine bodyPost_ret (v:=.tuple #[.string U,.string V,.bool true]) (by simp [results,Tryz.results221,go_sem]) rfl ⟨⟨_,rfl⟩,_,rfl⟩
theorem cutnl_any (s:ByteArray) (hs:s.size≤1000000) (w:World):Calls Tryz.prog 187 #[.string s,.string ⟨#[10]⟩] w fun e w'=>(∃ b,e=.returned (.tuple #[.string (mkB (hdl s.data.toList)),.string (mkB (tll s.data.toList)),.bool b]))∧∃ m,w'=w.drewN m:=by
 have HC:=Lib.hid (fun w=>cutl_any s hs w)
 generalize mkB (hdl s.data.toList)=U at HC ⊢
 generalize mkB (tll s.data.toList)=V at HC ⊢
 go_enter Tryz.func187,Tryz.ntmps187
 go_wp2_with (go_at_call 221;((with_reducible refine (HC.out _).mono ?_);rintro e w1 ⟨⟨b,rfl⟩,m,rfl⟩))
 refine bodyPost_ret (v:=.tuple #[.string U,.string V,.bool b]) (by simp [results,Tryz.results187,go_sem]) rfl ⟨⟨_,rfl⟩,m,rfl⟩
end Go.Proofs.YtdgnjhhieemcaaaGreatDoor.L8
end
section
namespace Go.Proofs.YtdgnjhhieemcaaaGreatDoor.L15
open Go.RowKit Go.Shelf L14
attribute [local go_sem] Oper.semAt_some
theorem part_no (B i m:Nat) (a:Option Addr) (n c:Nat) (w:World) (hB:w.cell? ⟨B,0,none⟩=some (.slice a n c)) (hi:n<i+m) (_:i≤1000000000000) (_:m≤1000000000000) (I M:Int) (hI:I=(i:Int)) (hM:M=(m:Int)) :
  Calls Tryz.prog 204 #[.int .i64 I,.int .i64 M,.pointer (some ⟨B,0,none⟩)] w fun e w'=>e=.returned (.tuple #[.slice none 0 0,.bool false])∧w=w':=by
 subst hI hM
 have h1:(n:Int)<(i:Int)+(m:Int):=by omega
 go_enter Tryz.func204,Tryz.ntmps204
 go_wp2
 refine bodyPost_ret (v:=.tuple #[.slice none 0 0,.bool false]) (by simp [results,Tryz.results204,go_sem]) rfl ⟨rfl,rfl⟩
end Go.Proofs.YtdgnjhhieemcaaaGreatDoor.L15
end
