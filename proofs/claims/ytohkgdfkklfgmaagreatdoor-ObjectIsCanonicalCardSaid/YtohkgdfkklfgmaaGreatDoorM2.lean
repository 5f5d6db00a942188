/- Lemmas and walks of L2Rformat, L2Names, L2Valid, L2Rep: what each theorem states; conditions stand in each theorem. -/
import Derived.Test.YtohkgdfkklfgmaaGreatDoorL2Base
import Derived.Lib.ItoaMem
import Derived.Test.YtohkgdfkklfgmaaGreatDoorProg
import Derived.Lib.Strings
import Derived.Maps.OwnSet
section
set_option maxRecDepth 100000
set_option maxHeartbeats 2000000
namespace Go.Proofs.YtohkgdfkklfgmaaGreatDoor.L2
open Go.RowKit
def fl (r:Nat) (t:List UInt8):List UInt8:=if r=0∧t≠[] then t else Lib.decDigits r++t
def slen:Value→Nat
 | .string t=>if t.size=0 then 1 else 0
 | _=>0
theorem fl_len (r:Nat) (t:List UInt8):t.length≤(fl r t).length:=by
 unfold fl
 split
 ·exact Nat.le_refl _
 ·rw [List.length_append];omega
theorem dec_len:∀ (n u:Nat),u<10 ^ (n+1)→(Lib.decDigits u).length≤n+1
 | 0,u,h=>by
  rw [Lib.decDigits,dif_pos (by simpa using h)]
  exact Nat.le_refl _
 | n+1,u,h=>by
  rw [Lib.decDigits]
  split
  ·simp
  ·have hd:u / 10<10 ^ (n+1):=by
    have e:10 ^ (n+1+1)=10 ^ (n+1)*10:=Nat.pow_succ 10 (n+1)
    omega
   have:=dec_len n (u / 10) hd
   rw [List.length_append]
   simp
   omega
theorem fl_step (r:Nat) (t:List UInt8) (c:UInt8) (hr:r≠0∨t=[]) (hc:c=UInt8.ofNat (48+r % 10)):fl (r / 10) (c::t)=fl r t:=by
 subst hc
 have h1:fl r t=Lib.decDigits r++t:=by
  unfold fl
  rw [if_neg]
  rintro ⟨a,b⟩
  rcases hr with h|h
  ·exact h a
  ·exact b h
 rw [h1]
 unfold fl
 by_cases h10:r<10
 ·rw [if_pos ⟨by omega,by simp⟩,Lib.decDigits,dif_pos h10,Nat.mod_eq_of_lt h10]
  rfl
 ·rw [if_neg (by intro h;have:=h.1;omega)]
  rw [Lib.decDigits.eq_1 r,dif_neg h10,List.append_assoc]
  rfl
theorem fl_nil (u:Nat):fl u []=Lib.decDigits u:=by
 unfold fl;rw [if_neg (by simp),List.append_nil]
theorem dec_slice (d:Nat) (hd:d<10) (w:World) :
  (Instr.slice 9 (.string ⟨#[48,49,50,51,52,53,54,55,56,57]⟩) (some (.int .u64 (d:Int))) (some (.int .u64 ((d:Int)+1))) none).run Tryz.prog w=.ok (.string ⟨#[UInt8.ofNat (48+d)]⟩) w:=by
 rcases (show d=0∨d=1∨d=2∨d=3∨d=4∨d=5∨d=6∨d=7∨d=8∨d=9 by omega) with rfl|rfl|rfl|rfl|rfl|rfl|rfl|rfl|rfl|rfl <;> kernel_rfl
theorem size_list (t:ByteArray):t.size=t.data.toList.length:=by rw [Array.length_toList];rfl
theorem app_list (c:UInt8) (t:ByteArray):((⟨#[c]⟩:ByteArray)++t).data.toList=c::t.data.toList:=by simp
theorem app_eq (c:UInt8) (t:ByteArray):((⟨#[c]⟩:ByteArray)++t)=⟨(c::t.data.toList).toArray⟩:=by
 have h:=app_list c t
 cases hh:((⟨#[c]⟩:ByteArray)++t) with
 | mk a =>
  rw [hh] at h
  simp only at h
  rw [← h]
theorem rformat_any (x:Int) (w:World) (h0:-9223372036854775808≤x) (h1:x≤9223372036854775807) :
  Calls Tryz.prog 139 #[.int .i64 x] w fun e w'=>e=.returned (.string ⟨(Lib.itoa x).toArray⟩)∧w=w':=by
 obtain⟨u,hu⟩:∃ u:Nat,u=x.natAbs:=⟨_,rfl⟩
 have hub:u≤9223372036854775808:=by omega
 by_cases hneg:x<0
 ·have HI:Hid (Lib.itoa x=45::Lib.decDigits u):=Lib.hid (by rw [Lib.itoa,if_pos hneg,hu])
  have HW:Hid (IntKind.u64.wrap (-IntKind.u64.wrap x)=(u:Int)):=Lib.hid (by rw [IntKind.wrap_u64,IntKind.wrap_u64];omega)
  clear hu
  go_enter Tryz.func139,Tryz.ntmps139
  go_wp2
  go_loop [4,5] (fun r s=>∃ (k:Nat) (t:ByteArray),k≤u∧r=.int .u64 k∧s=.string t∧Hid (fl k t.data.toList=Lib.decDigits u)) (fun r s=>(intOf r).toNat+slen s)
  case atStart=>exact⟨u,⟨#[]⟩,Nat.le_refl _,by rw [HW.out],rfl,Lib.hid (fl_nil u)⟩
  case round =>
   obtain⟨k,t,hk,rfl,rfl,hF⟩:=hrel
   have htl:t.size≤20:=by
    have h1:=fl_len k t.data.toList
    rw [hF.out] at h1
    have h2:=dec_len 19 u (by omega)
    rw [size_list]
    omega
   by_cases hk0:0<k
   ·obtain⟨c,hc⟩:∃ c:UInt8,c=UInt8.ofNat (48+k % 10):=⟨_,rfl⟩
    have hsl:∀ w,(Instr.slice 9 (.string ⟨#[48,49,50,51,52,53,54,55,56,57]⟩) (some (.int .u64 ((k:Int) % 10))) (some (.int .u64 ((k:Int) % 10+1))) none).run Tryz.prog w=.ok (.string ⟨#[c]⟩) w:=fun w=>by
     have:=dec_slice (k % 10) (by omega) w
     rw [← hc] at this
     rwa [Int.natCast_emod] at this
    have HC:=Lib.hid hc
    clear hc
    have hmx:((1:Nat)+t.size)≤maxLen:=by unfold maxLen;omega
    go_wp2
    go_round
    case rel=>exact⟨k / 10,_,by omega,by go_num,rfl,Lib.hid (by rw [app_list,fl_step k _ _ (Or.inl (by omega)) HC.out];exact hF.out)⟩
    case measure =>
     simp only [intOf,slen]
     have:((⟨#[c]⟩:ByteArray)++t).size≠0:=by rw [size_list,app_list];simp
     rw [if_neg this]
     omega
   ·have hk00:k=0:=by omega
    subst hk00
    by_cases ht0:t.data.toList=[]
    ·have e1:t.toList=[]:=by rw [Lib.toList_data];exact ht0
     have e2:t.toList.isEmpty=true:=by rw [e1];rfl
     have HT:=Lib.hid ht0
     clear ht0
     go_wp2
     go_round
     case rel=>exact⟨0,_,by omega,rfl,rfl,Lib.hid (by rw [show (ByteArray.extract ⟨#[48,49,50,51,52,53,54,55,56,57]⟩ 0 1)=⟨#[48]⟩ from rfl,app_list,show (0:Nat)=0 / 10 from rfl,fl_step 0 _ 48 (Or.inr HT.out) rfl];exact hF.out)⟩
     case measure =>
      simp only [intOf,slen]
      have h1:(ByteArray.extract ⟨#[48,49,50,51,52,53,54,55,56,57]⟩ 0 1++t).size≠0:=by
       rw [show (ByteArray.extract ⟨#[48,49,50,51,52,53,54,55,56,57]⟩ 0 1)=⟨#[48]⟩ from rfl,size_list,app_list];simp
      have h2:t.size=0:=by rw [size_list,HT.out];rfl
      rw [if_neg h1,if_pos h2]
      omega
    ·have e2:t.toList.isEmpty=false:=by rw [Lib.toList_data];simpa using ht0
     have hF':t.data.toList=Lib.decDigits u:=by
      have:=hF.out
      unfold fl at this
      rwa [if_pos ⟨rfl,ht0⟩] at this
     have HG:=Lib.hid hF'
     clear hF' ht0
     go_wp2
     go_ret
     refine⟨?_,rfl⟩
     show Ending.returned (Value.string (⟨#[45]⟩++t))=_
     rw [HI.out,app_eq,HG.out]
 ·have HI:Hid (Lib.itoa x=Lib.decDigits u):=Lib.hid (by rw [Lib.itoa,if_neg hneg,hu];congr 1;omega)
  have HW:Hid (x=(u:Int)):=Lib.hid (by omega)
  clear hu
  go_enter Tryz.func139,Tryz.ntmps139
  go_wp2
  go_loop [4,5] (fun r s=>∃ (k:Nat) (t:ByteArray),k≤u∧r=.int .u64 k∧s=.string t∧Hid (fl k t.data.toList=Lib.decDigits u)) (fun r s=>(intOf r).toNat+slen s)
  case atStart=>exact⟨u,⟨#[]⟩,Nat.le_refl _,by rw [← HW.out],rfl,Lib.hid (fl_nil u)⟩
  case round =>
   obtain⟨k,t,hk,rfl,rfl,hF⟩:=hrel
   have htl:t.size≤20:=by
    have h1:=fl_len k t.data.toList
    rw [hF.out] at h1
    have h2:=dec_len 19 u (by omega)
    rw [size_list]
    omega
   by_cases hk0:0<k
   ·obtain⟨c,hc⟩:∃ c:UInt8,c=UInt8.ofNat (48+k % 10):=⟨_,rfl⟩
    have hsl:∀ w,(Instr.slice 9 (.string ⟨#[48,49,50,51,52,53,54,55,56,57]⟩) (some (.int .u64 ((k:Int) % 10))) (some (.int .u64 ((k:Int) % 10+1))) none).run Tryz.prog w=.ok (.string ⟨#[c]⟩) w:=fun w=>by
     have:=dec_slice (k % 10) (by omega) w
     rw [← hc] at this
     rwa [Int.natCast_emod] at this
    have HC:=Lib.hid hc
    clear hc
    have hmx:((1:Nat)+t.size)≤maxLen:=by unfold maxLen;omega
    go_wp2
    go_round
    case rel=>exact⟨k / 10,_,by omega,by go_num,rfl,Lib.hid (by rw [app_list,fl_step k _ _ (Or.inl (by omega)) HC.out];exact hF.out)⟩
    case measure =>
     simp only [intOf,slen]
     have:((⟨#[c]⟩:ByteArray)++t).size≠0:=by rw [size_list,app_list];simp
     rw [if_neg this]
     omega
   ·have hk00:k=0:=by omega
    subst hk00
    by_cases ht0:t.data.toList=[]
    ·have e1:t.toList=[]:=by rw [Lib.toList_data];exact ht0
     have e2:t.toList.isEmpty=true:=by rw [e1];rfl
     have HT:=Lib.hid ht0
     clear ht0
     go_wp2
     go_round
     case rel=>exact⟨0,_,by omega,rfl,rfl,Lib.hid (by rw [show (ByteArray.extract ⟨#[48,49,50,51,52,53,54,55,56,57]⟩ 0 1)=⟨#[48]⟩ from rfl,app_list,show (0:Nat)=0 / 10 from rfl,fl_step 0 _ 48 (Or.inr HT.out) rfl];exact hF.out)⟩
     case measure =>
      simp only [intOf,slen]
      have h1:(ByteArray.extract ⟨#[48,49,50,51,52,53,54,55,56,57]⟩ 0 1++t).size≠0:=by
       rw [show (ByteArray.extract ⟨#[48,49,50,51,52,53,54,55,56,57]⟩ 0 1)=⟨#[48]⟩ from rfl,size_list,app_list];simp
      have h2:t.size=0:=by rw [size_list,HT.out];rfl
      rw [if_neg h1,if_pos h2]
      omega
    ·have e2:t.toList.isEmpty=false:=by rw [Lib.toList_data];simpa using ht0
     have hF':t.data.toList=Lib.decDigits u:=by
      have:=hF.out
      unfold fl at this
      rwa [if_pos ⟨rfl,ht0⟩] at this
     have HG:=Lib.hid hF'
     clear hF' ht0
     go_wp2
     go_ret
     refine⟨?_,rfl⟩
     show Ending.returned (Value.string t)=_
     rw [HI.out,← HG.out]
end Go.Proofs.YtohkgdfkklfgmaaGreatDoor.L2
end
section
set_option maxRecDepth 100000
set_option maxHeartbeats 1000000
namespace Go.Proofs.YtohkgdfkklfgmaaGreatDoor.L2
open Go.RowKit
def regL:List ByteArray:=[⟨#[114,48]⟩,⟨#[114,49]⟩,⟨#[114,50]⟩,⟨#[114,51]⟩,⟨#[114,52]⟩,⟨#[114,53]⟩,⟨#[114,54]⟩,⟨#[114,55]⟩,⟨#[114,56]⟩,⟨#[114,57]⟩,⟨#[114,49,48]⟩]
def regS (k:Nat):ByteArray:=regL.getD k ⟨#[]⟩
abbrev regC:Array Value:=#[.string ⟨#[114,48]⟩,.string ⟨#[114,49]⟩,.string ⟨#[114,50]⟩,.string ⟨#[114,51]⟩,.string ⟨#[114,52]⟩,.string ⟨#[114,53]⟩,.string ⟨#[114,54]⟩,.string ⟨#[114,55]⟩,.string ⟨#[114,56]⟩,.string ⟨#[114,57]⟩,.string ⟨#[114,49,48]⟩]
def Regs (w:World):Prop:=∃ t fr,w.heap[2]?=some (.cells regC t fr)
theorem reg_index (k:Nat) (hk:k<11) (w:World):(Instr.index 222 (.agg regC) (.int .i64 (k:Int))).run Tryz.prog w=.ok (.string (regS k)) w:=by
 rcases (show k=0∨k=1∨k=2∨k=3∨k=4∨k=5∨k=6∨k=7∨k=8∨k=9∨k=10 by omega) with rfl|rfl|rfl|rfl|rfl|rfl|rfl|rfl|rfl|rfl|rfl <;> kernel_rfl
theorem txt_ne {a b:ByteArray} (h:¬ a=b):(a.toList==b.toList)=false:=by
 rw [Lib.toList_data,Lib.toList_data,beq_eq_false_iff_ne]
 intro e
 apply h
 cases a;cases b
 simp only [ByteArray.mk.injEq]
 exact Array.toList_inj.1 e
theorem txt_eq {a b:ByteArray} (h:a=b):(a.toList==b.toList)=true:=by
 rw [h];exact beq_self_eq_true _
def rgFrom:Nat→Nat→ByteArray→Nat × Bool
 | 0,_,_=>(0,false)
 | n+1,k,s=>if regS k=s then (k,true) else rgFrom n (k+1) s
def rg (s:ByteArray):Nat × Bool:=rgFrom 11 0 s
theorem register_any (s:ByteArray) (w:World) (hw:Regs w):Calls Tryz.prog 176 #[.string s] w fun e w'=>e=.returned (.tuple #[.int .i64 ((rg s).1:Int),.bool (rg s).2])∧w=w':=by
 obtain⟨t,fr,hg⟩:=hw
 obtain⟨C,hC⟩:∃ C,C=regC:=⟨_,rfl⟩
 rw [← hC] at hg
 have HC:=Lib.hid hC
 clear hC
 go_enter Tryz.func176,Tryz.ntmps176
 go_wp2_with (refine wpList_load_row rfl 222 _ rfl 2 rfl t _ fr _ hg Tryz.underlying222 rfl (by rw [HC.out];kernel_rfl) ?_)
 go_loop [7] (fun i=>∃ k:Nat,i=.int .i64 k∧k≤11∧Hid (rgFrom (11-k) k s=rg s)) (fun i=>11-(intOf i).toNat)
 case atStart=>exact⟨0,rfl,Nat.zero_le _,Lib.hid rfl⟩
 case round =>
  obtain⟨k,rfl,hk,hR⟩:=hrel
  by_cases hlt:k<11
  ·have hix:∀ w,(Instr.index 222 (.agg C) (.int .i64 (k:Int))).run Tryz.prog w=.ok (.string (regS k)) w:=fun w=>by rw [HC.out];exact reg_index k hlt w
   have hsub:11-k=(11-(k+1))+1:=by omega
   by_cases he:regS k=s
   ·have HR:Hid (rg s=(k,true)):=Lib.hid (by rw [← hR.out,hsub,rgFrom,if_pos he])
    go_wp2
    go_ret2
    exact⟨by rw [HR.out] <;> rfl,rfl⟩
   ·have HR:Hid (rgFrom (11-(k+1)) (k+1) s=rg s):=Lib.hid (by rw [← hR.out,hsub,rgFrom,if_neg he])
    have he2:=txt_ne he
    go_wp2
    go_round
    case rel=>exact⟨k+1,by go_num,by omega,HR⟩
    case measure=>simp [intOf];omega
  ·have HR:Hid (rg s=(0,false)):=Lib.hid (by rw [← hR.out,show 11-k=0 by omega];rfl)
   go_wp2
   go_ret2
   exact⟨by rw [HR.out] <;> rfl,rfl⟩
theorem register_at (s:ByteArray) (n:Int) (b:Bool) (w:World) (hw:Regs w) (h1:((rg s).1:Int)=n) (h2:(rg s).2=b):Calls Tryz.prog 176 #[.string s] w fun e w'=>e=.returned (.tuple #[.int .i64 n,.bool b])∧w=w':=by
 subst h1;subst h2;exact register_any s w hw
def nmS (n:Int):ByteArray:=if 0≤n∧n<11 then regS n.toNat else ⟨#[]⟩
theorem itoa_len (n:Nat) (hn:n<10 ^ 11):(Lib.itoa n).length≤11:=by
 have:Lib.itoa n=Lib.decDigits n:=by rw [Lib.itoa,if_neg (by omega)];rfl
 rw [this]
 exact dec_len 10 n hn
theorem regS_itoa (k:Nat) (hk:k<11):(⟨(114::Lib.itoa k).toArray⟩:ByteArray)=regS k:=by
 have:Lib.itoa k=Lib.decDigits k:=by rw [Lib.itoa,if_neg (by omega)];rfl
 rw [this]
 by_cases h:k<10
 ·rw [Lib.decDigits_one h]
  rcases (show k=0∨k=1∨k=2∨k=3∨k=4∨k=5∨k=6∨k=7∨k=8∨k=9 by omega) with rfl|rfl|rfl|rfl|rfl|rfl|rfl|rfl|rfl|rfl <;> rfl
 ·obtain rfl:k=10:=by omega
  rw [Lib.decDigits_two (by omega) (by omega)]
  rfl
theorem rformat_at (x:Int) (t:ByteArray) (w:World) (h0:-9223372036854775808≤x) (h1:x≤9223372036854775807) (h:t=⟨(Lib.itoa x).toArray⟩) :
  Calls Tryz.prog 139 #[.int .i64 x] w fun e w'=>e=.returned (.string t)∧w=w':=by
 subst h;exact rformat_any x w h0 h1
theorem rname_any (n:Int) (w:World):Calls Tryz.prog 93 #[.int .i64 n] w fun e w'=>e=.returned (.string (nmS n))∧w=w':=by
 by_cases h0:n<0
 ·have HN:Hid (nmS n=⟨#[]⟩):=Lib.hid (by rw [nmS,if_neg (by omega)])
  go_enter Tryz.func93,Tryz.ntmps93
  go_wp2
  go_ret
  exact⟨by rw [HN.out] <;> rfl,rfl⟩
 ·by_cases h1:n<11
  ·obtain⟨k,rfl⟩:∃ k:Nat,n=k:=⟨n.toNat,by omega⟩
   obtain⟨t,ht⟩:∃ t:ByteArray,t=⟨(Lib.itoa k).toArray⟩:=⟨_,rfl⟩
   have HN:Hid ((⟨#[114]⟩:ByteArray)++t=nmS k):=Lib.hid (by
    rw [nmS,if_pos (by omega),app_eq,ht]
    exact regS_itoa k (by omega))
   have hl:t.size≤11:=by
    rw [size_list,ht]
    exact itoa_len k (by omega)
   have HT:=Lib.hid ht
   have hmx:((1:Nat)+t.size)≤maxLen:=by unfold maxLen;omega
   have hmx2:((1:Nat)+t.size)≤9223372036854775807:=by omega
   clear h0 ht hl
   go_enter Tryz.func93,Tryz.ntmps93
   go_wp2_with (go_at_call 139;((with_reducible refine (rformat_at _ t _ (by omega) (by omega) HT.out).mono ?_);rintro e w' ⟨rfl,rfl⟩))
   go_ret
   exact⟨by rw [HN.out] <;> rfl,rfl⟩
  ·have HN:Hid (nmS n=⟨#[]⟩):=Lib.hid (by rw [nmS,if_neg (by omega)])
   go_enter Tryz.func93,Tryz.ntmps93
   go_wp2
   go_ret
   exact⟨by rw [HN.out] <;> rfl,rfl⟩
theorem rname_at (n:Int) (t:ByteArray) (w:World) (h:nmS n=t):Calls Tryz.prog 93 #[.int .i64 n] w fun e w'=>e=.returned (.string t)∧w=w':=by
 subst h;exact rname_any n w
theorem rregister_any (s:ByteArray) (w:World):Calls Tryz.prog 53 #[.string s] w fun e w'=>e=.returned (.tuple #[.int .i64 ((rg s).1:Int),.bool (rg s).2])∧w=w':=by
 go_enter Tryz.func53,Tryz.ntmps53
 go_wp2
 go_loop [4] (fun i=>∃ k:Nat,i=.int .i64 k∧k≤11∧Hid (rgFrom (11-k) k s=rg s)) (fun i=>11-(intOf i).toNat)
 case atStart=>exact⟨0,rfl,Nat.zero_le _,Lib.hid rfl⟩
 case round =>
  obtain⟨k,rfl,hk,hR⟩:=hrel
  by_cases hlt:k<11
  ·have hsub:11-k=(11-(k+1))+1:=by omega
   have hle:k≤10:=by omega
   have HN:Hid (nmS k=regS k):=Lib.hid (by rw [nmS,if_pos (by omega)];rfl)
   by_cases he:s=regS k
   ·have HR:Hid (rg s=(k,true)):=Lib.hid (by rw [← hR.out,hsub,rgFrom,if_pos he.symm])
    have he2:=txt_eq he
    clear he
    go_wp2_with (go_at_call 93;((with_reducible refine (rname_at _ _ _ HN.out).mono ?_);rintro e w' ⟨rfl,rfl⟩))
    go_ret2
    exact⟨by rw [HR.out] <;> rfl,rfl⟩
   ·have HR:Hid (rgFrom (11-(k+1)) (k+1) s=rg s):=Lib.hid (by rw [← hR.out,hsub,rgFrom,if_neg (fun h=>he h.symm)])
    have he2:=txt_ne he
    go_wp2_with (go_at_call 93;((with_reducible refine (rname_at _ _ _ HN.out).mono ?_);rintro e w' ⟨rfl,rfl⟩))
    go_round
    case rel=>exact⟨k+1,by go_num,by omega,HR⟩
    case measure=>simp [intOf];omega
  ·have HR:Hid (rg s=(0,false)):=Lib.hid (by rw [← hR.out,show 11-k=0 by omega];rfl)
   go_wp2
   go_ret2
   exact⟨by rw [HR.out] <;> rfl,rfl⟩
theorem rregister_at (s:ByteArray) (n:Int) (b:Bool) (w:World) (h1:((rg s).1:Int)=n) (h2:(rg s).2=b):Calls Tryz.prog 53 #[.string s] w fun e w'=>e=.returned (.tuple #[.int .i64 n,.bool b])∧w=w':=by
 subst h1;subst h2;exact rregister_any s w
end Go.Proofs.YtohkgdfkklfgmaaGreatDoor.L2
end
section
set_option maxRecDepth 100000
set_option maxHeartbeats 2000000
namespace Go.Proofs.YtohkgdfkklfgmaaGreatDoor.L2
open Go.RowKit Go.Sort
theorem Regs.lt {w:World} (h:Regs w):2<w.heap.size:=by
 obtain⟨t,fr,hg⟩:=h
 exact lt_of_block hg
theorem Regs.below {w w':World} (h:Regs w) (hb:Below w.heap.size w w'):Regs w':=by
 have hlt:=h.lt
 obtain⟨t,fr,hg⟩:=h
 exact⟨t,fr,(hb.block 2 hlt).trans hg⟩
def d0:List UInt8→Bool
 | []=>false
 | c::_=>dgt (c.toNat:Int)
def vd (s:ByteArray):Bool:=decide (1≤s.size) && decide (s.size≤32) && !d0 s.data.toList && !(rg s).2 && decide (wn s.data.toList=s.size)
theorem first_at (s:ByteArray) (h:0<s.size):d0 s.data.toList=dgt ((s[0]'h).toNat:Int):=by
 have:=drop_at s 0 h
 rw [List.drop_zero] at this
 rw [this]
 rfl
theorem wrap_byte (c:UInt8):wrap32 (c.toNat:Int)=c.toNat:=by
 have:=c.toNat_lt
 unfold wrap32
 omega
theorem valid_any (s:ByteArray) (w:World) (ht:Regs w):Calls Tryz.prog 153 #[.string s] w fun e w'=>e=.returned (.bool (vd s))∧Below w.heap.size w w':=by
 by_cases h0:s.size=0
 ·have HV:Hid (vd s=false):=Lib.hid (by simp [vd,h0])
  go_enter Tryz.func153,Tryz.ntmps153
  go_wp2
  go_ret
  exact⟨by rw [HV.out] <;> rfl,Below.refl _ _⟩
 ·have hp:0<s.size:=by omega
  by_cases h1:32<s.size
  ·have HV:Hid (vd s=false):=Lib.hid (by
    rw [vd,show decide (s.size≤32)=false from by simp;omega];simp)
   go_enter Tryz.func153,Tryz.ntmps153
   go_wp2
   go_ret
   exact⟨by rw [HV.out] <;> rfl,Below.refl _ _⟩
  ·have e1:decide (1≤s.size)=true:=by simp;omega
   have e2:decide (s.size≤32)=true:=by simp;omega
   have HF:=Lib.hid (first_at s hp)
   have f1:((s.size:Int)==0)=false:=by rw [beq_eq_false_iff_ne];omega
   have f2:decide ((32:Int)<(s.size:Int))=false:=by rw [decide_eq_false_iff_not];omega
   cases hd:dgt ((s[0]'hp).toNat:Int) with
   | true =>
    have HD:Hid (dgt (wrap32 ((s[0]'hp).toNat:Int))=true):=Lib.hid (by rw [wrap_byte];exact hd)
    have HV:Hid (vd s=false):=Lib.hid (by rw [vd,HF.out,hd];simp)
    clear hd e1 e2
    go_enter Tryz.func153,Tryz.ntmps153
    go_wp2_with (go_at_call 175;((with_reducible refine (isDigit_at _ true _ HD.out).mono ?_);rintro e w' ⟨rfl,rfl⟩))
    go_ret
    exact⟨by rw [HV.out] <;> rfl,Below.refl _ _⟩
   | false =>
    have HD:Hid (dgt (wrap32 ((s[0]'hp).toNat:Int))=false):=Lib.hid (by rw [wrap_byte];exact hd)
    obtain⟨n,hn⟩:∃ n:Int,((rg s).1:Int)=n:=⟨_,rfl⟩
    have HG:=Lib.hid hn
    cases hr:(rg s).2 with
    | true =>
     have HR:=Lib.hid hr
     have HV:Hid (vd s=false):=Lib.hid (by rw [vd,hr];simp)
     clear hd hn hr e1 e2
     go_enter Tryz.func153,Tryz.ntmps153
     go_wp2_with (first|(go_at_call 175;((with_reducible refine (isDigit_at _ false _ HD.out).mono ?_);rintro e w' ⟨rfl,rfl⟩))|(go_at_call 176;((with_reducible refine (register_at s n true _ ht HG.out HR.out).mono ?_);rintro e w' ⟨rfl,rfl⟩)))
     go_ret
     exact⟨by rw [HV.out] <;> rfl,Below.refl _ _⟩
    | false =>
     have HR:=Lib.hid hr
     obtain⟨m,hm⟩:∃ m:Nat,m=wn s.data.toList:=⟨_,rfl⟩
     have HM:Hid ((wn s.data.toList:Int)=(m:Int)):=Lib.hid (by rw [hm])
     have HV:Hid (vd s=decide (m=s.size)):=Lib.hid (by rw [vd,hr,HF.out,hd,e1,e2,hm];simp)
     clear hd hn hr hm e1 e2
     by_cases hms:m=s.size
     ·have HV2:Hid (vd s=true):=Lib.hid (by rw [HV.out];simpa using hms)
      go_enter Tryz.func153,Tryz.ntmps153
      go_wp2_with (first|(go_at_call 175;((with_reducible refine (isDigit_at _ false _ HD.out).mono ?_);rintro e w' ⟨rfl,rfl⟩))|(go_at_call 176;((with_reducible refine (register_at s n false _ ht HG.out HR.out).mono ?_);rintro e w' ⟨rfl,rfl⟩))|(go_at_call 177;((with_reducible refine (word_at s m _ HM.out).mono ?_);rintro e w1 ⟨rfl,hb1⟩)))
      go_ret
      exact⟨by rw [HV2.out] <;> rfl,hb1⟩
     ·have HV2:Hid (vd s=false):=Lib.hid (by rw [HV.out];simpa using hms)
      have hne:((m:Int)==(s.size:Int))=false:=by rw [beq_eq_false_iff_ne];omega
      go_enter Tryz.func153,Tryz.ntmps153
      go_wp2_with (first|(go_at_call 175;((with_reducible refine (isDigit_at _ false _ HD.out).mono ?_);rintro e w' ⟨rfl,rfl⟩))|(go_at_call 176;((with_reducible refine (register_at s n false _ ht HG.out HR.out).mono ?_);rintro e w' ⟨rfl,rfl⟩))|(go_at_call 177;((with_reducible refine (word_at s m _ HM.out).mono ?_);rintro e w1 ⟨rfl,hb1⟩)))
      go_ret
      exact⟨by rw [HV2.out] <;> rfl,hb1⟩
theorem valid_at (s:ByteArray) (b:Bool) (w:World) (ht:Regs w) (h:vd s=b):Calls Tryz.prog 153 #[.string s] w fun e w'=>e=.returned (.bool b)∧Below w.heap.size w w':=by
 subst h;exact valid_any s w ht
theorem rvalid_any (s:ByteArray) (w:World) (hs:s.size≤9223372036854775807):Calls Tryz.prog 25 #[.string s] w fun e w'=>e=.returned (.bool (vd s))∧w=w':=by
 obtain⟨n,hn⟩:∃ n:Int,((rg s).1:Int)=n:=⟨_,rfl⟩
 obtain⟨r,hr⟩:∃ r:Bool,(rg s).2=r:=⟨_,rfl⟩
 obtain⟨m,hm⟩:∃ m:Nat,m=wn s.data.toList:=⟨_,rfl⟩
 have HG:=Lib.hid hn
 have HR:=Lib.hid hr
 have HM:Hid ((wn s.data.toList:Int)=(m:Int)):=Lib.hid (by rw [hm])
 by_cases h0:s.size=0
 ·have HV:Hid (vd s=false):=Lib.hid (by simp [vd,h0])
  have f1:decide ((1:Int)≤(s.size:Int))=false:=by rw [decide_eq_false_iff_not];omega
  clear hn hr hm
  go_enter Tryz.func25,Tryz.ntmps25
  go_wp2_with (go_at_call 53;((with_reducible refine (rregister_at s n r _ HG.out HR.out).mono ?_);rintro e w' ⟨rfl,rfl⟩))
  go_ret
  exact⟨by rw [HV.out] <;> rfl,rfl⟩
 ·have hp:0<s.size:=by omega
  have f1:decide ((1:Int)≤(s.size:Int))=true:=by rw [decide_eq_true_iff];omega
  have e1:decide (1≤s.size)=true:=by rw [decide_eq_true_iff];omega
  by_cases h1:32<s.size
  ·have HV:Hid (vd s=false):=Lib.hid (by
    rw [vd,show decide (s.size≤32)=false from by simp;omega];simp)
   have f2:decide ((s.size:Int)≤(32:Int))=false:=by rw [decide_eq_false_iff_not];omega
   clear hn hr hm
   go_enter Tryz.func25,Tryz.ntmps25
   go_wp2_with (go_at_call 53;((with_reducible refine (rregister_at s n r _ HG.out HR.out).mono ?_);rintro e w' ⟨rfl,rfl⟩))
   go_ret
   exact⟨by rw [HV.out] <;> rfl,rfl⟩
  ·have f2:decide ((s.size:Int)≤(32:Int))=true:=by rw [decide_eq_true_iff];omega
   have e2:decide (s.size≤32)=true:=by rw [decide_eq_true_iff];omega
   by_cases hms:m=s.size
   ·obtain⟨a,ha⟩:∃ a:Bool,decide ((48:Int)≤((s[0]'hp).toNat:Int))=a:=⟨_,rfl⟩
    obtain⟨b,hb⟩:∃ b:Bool,decide (((s[0]'hp).toNat:Int)≤57)=b:=⟨_,rfl⟩
    have HV:Hid (vd s=(!(a && b) && !r)):=Lib.hid (by rw [vd,hr,first_at s hp,dgt,ha,hb,e1,e2,← hm,hms];simp)
    have f3:((m:Int)==(s.size:Int))=true:=by rw [beq_iff_eq,hms]
    clear hn hr hm e1 e2 hms
    cases a <;> cases b <;> cases r
    all_goals
     go_enter Tryz.func25,Tryz.ntmps25
     go_wp2_with (first|(go_at_call 53;((with_reducible refine (rregister_at s n _ _ HG.out HR.out).mono ?_);rintro e w' ⟨rfl,rfl⟩))|(go_at_call 54;((with_reducible refine (rword_at s m _ hs HM.out).mono ?_);rintro e w' ⟨rfl,rfl⟩)))
     go_ret
     exact⟨by rw [HV.out] <;> rfl,rfl⟩
   ·have HV:Hid (vd s=false):=Lib.hid (by rw [vd,← hm,show decide (m=s.size)=false from by simpa using hms];simp)
    have f3:((m:Int)==(s.size:Int))=false:=by rw [beq_eq_false_iff_ne];omega
    clear hn hr hm e1 e2
    go_enter Tryz.func25,Tryz.ntmps25
    go_wp2_with (first|(go_at_call 53;((with_reducible refine (rregister_at s n _ _ HG.out HR.out).mono ?_);rintro e w' ⟨rfl,rfl⟩))|(go_at_call 54;((with_reducible refine (rword_at s m _ hs HM.out).mono ?_);rintro e w' ⟨rfl,rfl⟩)))
    go_ret
    exact⟨by rw [HV.out] <;> rfl,rfl⟩
theorem rvalid_at (s:ByteArray) (b:Bool) (w:World) (hs:s.size≤9223372036854775807) (h:vd s=b):Calls Tryz.prog 25 #[.string s] w fun e w'=>e=.returned (.bool b)∧w=w':=by
 subst h;exact rvalid_any s w hs
end Go.Proofs.YtohkgdfkklfgmaaGreatDoor.L2
end
section
set_option maxRecDepth 100000
set_option maxHeartbeats 1000000
namespace Go.Proofs.YtohkgdfkklfgmaaGreatDoor.L2
open Go.RowKit Go.Maps
theorem bool_inv {H:Type} {P:Program} {e:TypeId} (he:P.underlying e=some .bool) {v:Value} {z:DataW H × List MemPlace} (h:plainElem P e v=some z):∃ x,v=.bool x∧z=(.lit (.bool x),[]):=by
 unfold plainElem at h
 rw [he] at h
 cases v <;> simp at h
 exact⟨_,rfl,h.symm⟩
theorem wpList_look_bool {H:Type} {P:Program} (w:World) {ops:Array Oper} {rest:List Oper} {o:Oper} {a:Act} {Q:Exit→Act→World→Prop}
  (hg:o.guard=none) (m x:Operand) (t:TypeId) (hop:o.op=Op.lookup t m x false)
  (k e:TypeId) (K:Keyed P k) (ht:P.underlying t=some (.map k e)) (he:P.underlying e=some .bool) (hz:(zeroValue e).run P w=.ok (.bool false) w) (b n:Nat) (D:DataW H)
  (hm:a.eval m=.map (some b)) (hown:w.ownsMap P k (plainElem P e) b n D) (key:Value) (kl:Lit) (hx:a.eval x=key) (hkey:keyOf P k key=some kl)
  (c:Bool) (hat:D.atKey kl (.lit (.bool false))=.lit (.bool c))
  (hK:wpList P ops Q rest (a.put o.dst (.bool c)) w) :
  wpList P ops Q (o::rest) a w:=by
 refine wpList_plain hg fun K' hK'=>?_
 obtain⟨v,ps,hrun,hv⟩:=hown.lookup K ht hz (plainElem_bool he false) hkey
 rw [hat] at hv
 obtain⟨y,rfl,hy⟩:=bool_inv he hv
 simp only [Prod.mk.injEq,DataW.lit.injEq,Lit.bool.injEq] at hy
 obtain⟨rfl,_⟩:=hy
 unfold Oper.wp
 simp [execOp,hop,hm,hx,hrun,Result.andThen]
 exact hK' _ _ hK
section
variable {H:Type} (u z:DataW H) (k:Lit)
theorem fold_out:∀ (acc:List Lit) (m:DataW H),¬ k∈acc→(acc.foldl (fun m x=>m.put x u) m).atKey k z=m.atKey k z
 | [],_,_=>rfl
 | x::r,m,h=>by
  rw [List.foldl_cons,fold_out r _ (fun h'=>h (by simp [h'])),atKey_put_other (fun e=>h (by simp [e]))]
theorem fold_in:∀ (acc:List Lit) (m:DataW H),IsMap m→(∀ x∈acc,WideAt.IsKeyLit x)→k∈acc→(acc.foldl (fun m x=>m.put x u) m).atKey k z=u
 | x::r,m,hm,ha,h=>by
  rw [List.foldl_cons]
  by_cases hr:k∈r
  ·exact fold_in r _ (hm.put x u) (fun y hy=>ha y (by simp [hy])) hr
  ·obtain rfl:k=x:=by
    rcases List.mem_cons.1 h with h|h
    ·exact h
    ·exact absurd h hr
   rw [fold_out _ _ _ r _ hr,atKey_put_same hm (ha k (by simp))]
end
def txt (s:ByteArray):Lit:=.string s.data.toList
theorem txt_inj {a b:ByteArray} (h:txt a=txt b):a=b:=by
 cases a;cases b
 simp only [txt,Lit.string.injEq] at h
 rw [Array.toList_inj.1 h]
def on (l:List ByteArray) (x:ByteArray):Bool:=l.any fun s=>decide (s=x)
theorem on_mem (l:List ByteArray) (x:ByteArray):on l x=true↔x∈l:=by simp [on]
def rpFrom:Nat→Nat→List ByteArray→Int
 | 0,_,_=>-1
 | n+1,k,ss=>if on (ss.take k) (ss.getD k ByteArray.empty) then (k:Int) else rpFrom n (k+1) ss
def rp (ss:List ByteArray):Int:=rpFrom ss.length 0 ss
def TextsAt (w:World) (v:Value) (ss:List ByteArray):Prop :=
 (∃ b off cap,v=.slice (some ⟨b,off,none⟩) ss.length cap∧b<w.heap.size∧∀ j,j<ss.length→w.cell? ⟨b,off+j,none⟩=some (.string (ss.getD j ByteArray.empty)))∨(ss=[]∧∃ a cap,v=.slice a 0 cap)
theorem TextsAt.below {w w':World} {v:Value} {ss:List ByteArray} (h:TextsAt w v ss) (hb:Below w.heap.size w w'):TextsAt w' v ss:=by
 rcases h with ⟨b,off,cap,rfl,hlt,hc⟩|h
 ·exact Or.inl ⟨b,off,cap,rfl,Nat.lt_of_lt_of_le hlt hb.size,fun j hj=>(hb.cell (by exact hlt)).trans (hc j hj)⟩
 ·exact Or.inr h
theorem law9:Keyed Tryz.prog 9:=string_keyed Tryz.underlying9
theorem rrep_some (b off cap n:Nat) (ss:List ByteArray) (w:World) (hn:n=ss.length) (hn2:n≤1000)
  (hc:∀ j,j<n→w.cell? ⟨b,off+j,none⟩=some (.string (ss.getD j ByteArray.empty))) :
  Calls Tryz.prog 27 #[.slice (some ⟨b,off,none⟩) n cap] w fun e w'=>e=.returned (.int .i64 (rp ss))∧∃ m,w'=w.drewN m:=by
 have HC:=Lib.hid hc
 have HN:=Lib.hid hn
 clear hc hn
 go_enter Tryz.func27,Tryz.ntmps27
 go_wp2
 go_loopw [3] (fun i wr=>∃ k m:Nat,k≤n∧i=.int .i64 k∧wr=w.drewN m∧Hid (rpFrom (n-k) k ss=rp ss)) (fun i _=>n-(intOf i).toNat)
 case atStart=>exact⟨0,0,Nat.zero_le _,rfl,rfl,Lib.hid (by rw [HN.out];rfl)⟩
 case round =>
  obtain⟨k,m,hk,rfl,rfl,hR⟩:=hrel
  by_cases hlt:k<n
  ·have hsub:n-k=(n-(k+1))+1:=by omega
   obtain⟨x,hx⟩:∃ x,x=ss.getD k ByteArray.empty:=⟨_,rfl⟩
   have hcx:w.cell? ⟨b,off+k,none⟩=some (.string x):=hx ▸ HC.out k hlt
   have HX:=Lib.hid hx
   clear hx
   go_wp2
   go_loopw [4] (fun i wr=>∃ j m:Nat,j≤k∧i=.int .i64 j∧wr=w.drewN m∧Hid (¬ x∈ss.take j)) (fun i _=>k-(intOf i).toNat)
   case atStart=>exact⟨0,m,Nat.zero_le _,rfl,rfl,Lib.hid (by simp)⟩
   case round =>
    obtain⟨j,m',hj,rfl,rfl,hO⟩:=hrel
    by_cases hjk:j<k
    ·obtain⟨y,hy⟩:∃ y,y=ss.getD j ByteArray.empty:=⟨_,rfl⟩
     have hcy:w.cell? ⟨b,off+j,none⟩=some (.string y):=hy ▸ HC.out j (by omega)
     have hjl:j<ss.length:=by rw [← HN.out];omega
     have htake:ss.take (j+1)=ss.take j++[y]:=by
      rw [List.take_add_one,hy]
      simp [List.getD,List.getElem?_eq_getElem hjl]
     have HT:=Lib.hid htake
     clear hy htake
     by_cases he:x=y
     ·have hin:x∈ss.take k:=(List.take_subset_take_left _ (by omega:j+1≤k)) (by rw [HT.out,he];simp)
      have HR:Hid (rp ss=k):=Lib.hid (by rw [← hR.out,hsub,rpFrom,if_pos ((on_mem _ _).2 (by rw [← HX.out];exact hin))])
      have he2:=txt_eq he
      clear he hin
      go_wp2
      go_quiet (fail)
      go_wp2
      go_ret
      exact⟨by rw [HR.out] <;> rfl,m'+nq,World.drewN_drewN w m' nq⟩
     ·have HO:Hid (¬ x∈ss.take (j+1)):=Lib.hid (by
       rw [HT.out]
       intro h
       rcases List.mem_append.1 h with h|h
       ·exact hO.out h
       ·exact he (by simpa using h))
      have he2:=txt_ne he
      clear he
      go_wp2
      go_quiet (fail)
      go_wp2
      go_roundw
      case rel=>exact⟨j+1,m'+nq,by omega,by go_num,rfl,HO⟩
      case measure=>simp [intOf];omega
    ·have HR:Hid (rpFrom (n-(k+1)) (k+1) ss=rp ss):=Lib.hid (by
      rw [← hR.out,hsub,rpFrom,if_neg]
      intro h
      have h:=(on_mem _ _).1 h
      rw [← HX.out,show k=j by omega] at h
      exact hO.out h)
     go_wp2
     go_roundw
     case rel=>exact⟨k+1,m',by omega,by go_num,rfl,HR⟩
     case measure=>simp [intOf];omega
  ·have HR:Hid (rp ss=-1):=Lib.hid (by rw [← hR.out,show n-k=0 by omega];rfl)
   go_wp2
   go_ret
   exact⟨by rw [HR.out] <;> rfl,_,rfl⟩
theorem rrep_none (a:Option Addr) (cap:Nat) (w:World):Calls Tryz.prog 27 #[.slice a 0 cap] w fun e w'=>e=.returned (.int .i64 (-1))∧∃ m,w'=w.drewN m:=by
 go_enter Tryz.func27,Tryz.ntmps27
 go_wp2
 refine wp_loop_rounds 1 ?_
 rw [rounds_succ]
 go_wp2
 go_ret
 exact⟨rfl,0,rfl⟩
theorem rrep_any (v:Value) (ss:List ByteArray) (w:World) (hn:ss.length≤1000) (h:TextsAt w v ss) :
  Calls Tryz.prog 27 #[v] w fun e w'=>e=.returned (.int .i64 (rp ss))∧∃ m,w'=w.drewN m:=by
 rcases h with ⟨b,off,cap,rfl,hlt,hc⟩|⟨rfl,a,cap,rfl⟩
 ·exact rrep_some b off cap _ ss w rfl hn hc
 ·exact rrep_none a cap w
end Go.Proofs.YtohkgdfkklfgmaaGreatDoor.L2
end
