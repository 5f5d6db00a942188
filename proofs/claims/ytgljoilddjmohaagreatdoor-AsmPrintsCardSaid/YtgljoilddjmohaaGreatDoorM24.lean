/- Lemmas and walks of L11Pd, L11Nm, L11Rb: what each theorem states; conditions stand in each theorem. -/
import Derived.Test.YtgljoilddjmohaaGreatDoorM12
import Derived.Test.YtgljoilddjmohaaGreatDoorM21
import Derived.Test.YtgljoilddjmohaaGreatDoorM11
import Derived.Test.YtgljoilddjmohaaGreatDoorM14
section
namespace Go.Proofs.YtgljoilddjmohaaGreatDoor.L9
open Go.RowKit
open L8 (wb cmt spc pun tx tx_tok bad txts txts_tx size_list)
theorem wn_tail (x:UInt8) (rest:List UInt8) (hx:wb x=false):∀ l:List UInt8,L2.wn (l++x::rest)=L2.wn l
 | []=>by rw [List.nil_append,L8.wn_neg (by rw [hx];exact Bool.false_ne_true)];rfl
 | c::r=>by
  rw [List.cons_append]
  by_cases hw:wb c=true
  ·rw [L8.wn_pos hw,L8.wn_pos hw,wn_tail x rest hx r]
  ·rw [L8.wn_neg hw,L8.wn_neg hw]
theorem tx_nil (g:Nat):tx g []=([],true):=by cases g <;> rfl
theorem txB_of (s:ByteArray):txB s=(txts s).map (fun l=>(⟨l.toArray⟩:ByteArray)):=by
 rw [← txt_tkX]
 unfold txB L8.txt
 rw [List.map_map]
 exact List.map_congr_left fun x _=>rfl
theorem vd_tok {s:ByteArray} (h:L2.vd s=true):s.data.toList≠[]∧∀ c∈s.data.toList,wb c=true:=by
 unfold L2.vd at h
 simp only [Bool.and_eq_true,decide_eq_true_eq] at h
 obtain⟨⟨⟨⟨h1,_⟩,_⟩,_⟩,h5⟩:=h
 refine⟨fun h=>?_,?_⟩
 ·rw [← size_list,h] at h1;simp at h1
 ·have:=L8.wn_take s.data.toList
  rw [h5,← size_list,List.take_length] at this
  exact this
theorem tx_fuel:∀ (n f g:Nat) (l:List UInt8),l.length≤n→l.length≤f→l.length≤g→tx f l=tx g l
 | _,_,_,[],_,_,_=>by rw [tx_nil,tx_nil]
 | 0,_,_,c::r,h,_,_=>absurd h (by simp)
 | _,0,_,c::r,_,h,_=>absurd h (by simp)
 | _,_,0,c::r,_,_,h=>absurd h (by simp)
 | n+1,f+1,g+1,c::r,h0,h1,h2=>by
  simp only [List.length_cons] at h0 h1 h2
  rw [tx,tx,tx_fuel n f g r (by omega) (by omega) (by omega)]
  by_cases hw:wb c=true
  ·have hl:((c::r).drop (L2.wn (c::r))).length=r.length-L2.wn r:=by rw [L8.wn_pos hw,List.length_drop,List.length_cons];omega
   rw [tx_fuel n f g ((c::r).drop (L2.wn (c::r))) (by omega) (by omega) (by omega)]
  ·rw [if_neg hw,if_neg hw]
end Go.Proofs.YtgljoilddjmohaaGreatDoor.L9
end
section
namespace Go.Proofs.YtgljoilddjmohaaGreatDoor.L1
theorem rd_append (base:Nat):∀ (l m:List UInt8) (v:Nat) (o:Bool),rd base (l++m) v o=(rd base l v o).bind fun p=>rd base m p.1 p.2
 | [],m,v,o=>rfl
 | c::l,m,v,o=>by
  simp only [List.cons_append,rd]
  split
  ·exact rd_append base l m _ _
  ·rfl
theorem dgn_dec (d:Nat) (h:d<10):dgn (UInt8.ofNat (48+d))=d:=by
 rcases (show d=0∨d=1∨d=2∨d=3∨d=4∨d=5∨d=6∨d=7∨d=8∨d=9 by omega) with rfl|rfl|rfl|rfl|rfl|rfl|rfl|rfl|rfl|rfl <;> decide
theorem rd_one (c:UInt8) (v d:Nat) (hc:dgn c=d) (hd:d<10) (hv:v*10+d<18446744073709551616):rd 10 [c] v false=some (v*10+d,false):=by
 simp only [rd,hc,if_pos hd]
 rw [Nat.mod_eq_of_lt hv,decide_eq_false (by omega)]
 rfl
theorem rd_dec (n:Nat):∀ u,u≤n→u<18446744073709551616→rd 10 (Lib.decDigits u) 0 false=some (u,false):=by
 induction n with
 | zero =>
  intro u h _
  obtain rfl:u=0:=by omega
  rw [Lib.decDigits,dif_pos (by decide)]
  exact rd_one _ 0 0 (dgn_dec 0 (by decide)) (by decide) (by decide)
 | succ n ih =>
  intro u h hu
  rw [Lib.decDigits]
  split
  ·rename_i h10
   have:=rd_one (UInt8.ofNat (48+u)) 0 u (dgn_dec u h10) h10 (by omega)
   simpa using this
  ·rename_i h10
   rw [rd_append,ih (u / 10) (by omega) (by omega)]
   have:=rd_one (UInt8.ofNat (48+u % 10)) (u / 10) (u % 10) (dgn_dec _ (by omega)) (by omega) (by omega)
   simp only [Option.bind_some,this]
   congr 2
   omega
theorem dec_chars (n:Nat):∀ u,u≤n→∀ c∈Lib.decDigits u,dgn c<10:=by
 induction n with
 | zero =>
  intro u h c hc
  obtain rfl:u=0:=by omega
  rw [Lib.decDigits,dif_pos (by decide)] at hc
  simp only [List.mem_singleton] at hc
  rw [hc,dgn_dec 0 (by decide)]
  decide
 | succ n ih =>
  intro u h c hc
  rw [Lib.decDigits] at hc
  split at hc
  ·rename_i h10
   simp only [List.mem_singleton] at hc
   rw [hc,dgn_dec u h10]
   exact h10
  ·rename_i h10
   rcases List.mem_append.1 hc with h1|h1
   ·exact ih (u / 10) (by omega) c h1
   ·simp only [List.mem_singleton] at h1
    rw [h1,dgn_dec _ (by omega)]
    omega
theorem dec_ne (u:Nat):Lib.decDigits u≠[]:=by
 intro h
 have:=congrArg List.length h
 rw [Lib.decDigits] at this
 split at this
 ·simp at this
 ·simp at this
theorem dec_no (u:Nat) (p:List UInt8) (c:UInt8) (hc:c∈p) (hd:¬ dgn c<10):Lib.hasPrefix (Lib.decDigits u) p=false:=by
 cases h:Lib.hasPrefix (Lib.decDigits u) p with
 | false=>rfl
 | true =>
  have h1:p <+: Lib.decDigits u:=List.isPrefixOf_iff_prefix.1 h
  exact absurd (dec_chars u u (Nat.le_refl _) c (h1.subset hc)) hd
theorem us_dec (u:Nat) (hu:u<18446744073709551616):us (Lib.decDigits u)=some (u,false):=by
 have h1:=dec_no u [48,120] 120 (by decide) (by decide)
 have h2:(Lib.decDigits u).isEmpty=false:=by
  cases h:Lib.decDigits u with
  | nil=>exact absurd h (dec_ne u)
  | cons a l=>rfl
 simp only [us,h1,h2]
 exact rd_dec u u (Nat.le_refl _) hu
theorem ps_itoab (b x:Int) (hb:b=16∨b=32∨b=64) (hx:sx b x=x):ps (Lib.itoa x) b=(x,0):=by
 have hW:isW b=true:=by rcases hb with rfl|rfl|rfl <;> rfl
 have hr:-9223372036854775808≤x∧x≤9223372036854775807∧(x<0→((x.natAbs:Int)≤gr true b))∧(0≤x→((x.toNat:Int)≤gr false b)):=by
  rcases hb with rfl|rfl|rfl
  ·have e:(x+32768) % 65536-32768=x:=hx
   exact⟨by omega,by omega,fun _=>by show _≤(32768:Int);omega,fun _=>by show _≤(65535:Int);omega⟩
  ·have e:(x+2147483648) % 4294967296-2147483648=x:=hx
   exact⟨by omega,by omega,fun _=>by show _≤(2147483648:Int);omega,fun _=>by show _≤(4294967295:Int);omega⟩
  ·have e:(x+9223372036854775808) % 18446744073709551616-9223372036854775808=x:=hx
   exact⟨by omega,by omega,fun _=>by show _≤(9223372036854775808:Int);omega,fun _=>by show _≤(18446744073709551615:Int);omega⟩
 obtain⟨h0,h1,hn,hp0⟩:=hr
 by_cases hneg:x<0
 ·have e:Lib.itoa x=45::Lib.decDigits x.natAbs:=by rw [Lib.itoa,if_pos hneg]
  have hp:Lib.hasPrefix (45::Lib.decDigits x.natAbs) [45]=true:=by simp [Lib.hasPrefix,List.isPrefixOf]
  have ht:Lib.trimPrefix (45::Lib.decDigits x.natAbs) [45]=Lib.decDigits x.natAbs:=by rw [Lib.trimPrefix,hp];rfl
  have hs:sx b (-(x.natAbs:Int))=x:=by
   have:-(x.natAbs:Int)=x:=by omega
   rw [this,hx]
  unfold ps
  rw [e,ht,us_dec _ (by omega),hp]
  simp only [hW,decide_eq_true (hn hneg),if_true,hs]
  rfl
 ·have e:Lib.itoa x=Lib.decDigits x.toNat:=by rw [Lib.itoa,if_neg hneg]
  have hp:Lib.hasPrefix (Lib.decDigits x.toNat) [45]=false:=dec_no _ [45] 45 (by decide) (by decide)
  have ht:Lib.trimPrefix (Lib.decDigits x.toNat) [45]=Lib.decDigits x.toNat:=by rw [Lib.trimPrefix,hp];rfl
  have hs:sx b (x.toNat:Int)=x:=by
   have:(x.toNat:Int)=x:=by omega
   rw [this,hx]
  unfold ps
  rw [e,ht,us_dec _ (by omega),hp]
  simp only [hW,decide_eq_true (hp0 (by omega))]
  show (sx b (x.toNat:Int),(0:Int))=(x,0)
  rw [hs]
theorem dgn_wb:∀ c:UInt8,dgn c<10→L8.wb c=true:=by
 intro c
 have h:∀ n,n<256→(fun c:UInt8=>dgn c<10→L8.wb c=true) (UInt8.ofNat n):=by decide +kernel
 have:=h c.toNat c.toNat_lt
 simpa using this
end Go.Proofs.YtgljoilddjmohaaGreatDoor.L1
namespace Go.Proofs.YtgljoilddjmohaaGreatDoor.L11
open L9 (Df Ins IsWd tCom tOpn tShu tPlu tMin tCol eB spl offV joi shpB)
open L10 (Stm Pg)
def ly:List (ByteArray × Bool)→List UInt8
 | []=>[]
 | (t,b)::r=>t.data.toList++((if b then [32] else [])++ly r)
def Pun (t:ByteArray):Prop:=∃ c,t.data.toList=[c]∧L8.pun c=true
def okl:List (ByteArray × Bool)→Prop
 | []=>True
 | (t,b)::r=>(IsWd t∧(b=true∨r=[]∨∃ u v s,r=(u,v)::s∧Pun u)∨Pun t)∧okl r
theorem tx_word {t:ByteArray} (h:IsWd t) (f:Nat) (rest:List UInt8) (hr:rest=[]∨∃ x r,rest=x::r∧L8.wb x=false):L8.tx (f+1) (t.data.toList++rest)=(t.data.toList::(L8.tx f rest).1,(L8.tx f rest).2):=by
 have hne:t.data.toList≠[]:=fun e=>h.1 (by rw [← L8.size_list,e];rfl)
 rcases hr with rfl|⟨x,r,rfl,hx⟩
 ·rw [List.append_nil,L9.tx_nil]
  have hw:=(L8.isW_wn (t:=t.data.toList) (.inl ⟨hne,h.2.2.2⟩)).1 h.2.2.1
  match hl:t.data.toList,hne with
  | a::q,_ =>
   have ha:=h.2.2.2 a (by rw [hl];simp)
   obtain⟨_,h2,h3⟩:=(L8.byte_cases a).2.2 ha
   rw [hl] at hw
   rw [L8.tx,h3,if_neg Bool.false_ne_true,h2,if_neg Bool.false_ne_true,if_pos ha,hw,List.take_length,List.drop_length,L9.tx_nil]
 ·exact L8.tx_tok (.inl ⟨hne,h.2.2.2⟩) f x r hx
theorem tx_pun {t:ByteArray} (h:Pun t) (f:Nat) (rest:List UInt8):L8.tx (f+1) (t.data.toList++rest)=(t.data.toList::(L8.tx f rest).1,(L8.tx f rest).2):=by
 obtain⟨c,hc,hp⟩:=h
 obtain⟨h1,h2,h3⟩:=L8.pun_not hp
 rw [hc,List.singleton_append,L8.tx,h1,if_neg Bool.false_ne_true,h2,if_neg Bool.false_ne_true,h3,if_neg Bool.false_ne_true,if_pos hp]
theorem tx_sp (f:Nat) (rest:List UInt8):L8.tx (f+1) (32::rest)=L8.tx f rest:=by
 rw [L8.tx,if_neg (by decide),if_pos (by decide)]
theorem tx_ly:∀ (l:List (ByteArray × Bool)) (f:Nat),okl l→2*l.length≤f→L8.tx f (ly l)=(l.map (·.1.data.toList),true)
 | [],f,_,_=>L9.tx_nil f
 | (t,b)::r,f,h,hf=>by
  simp only [List.length_cons] at hf
  obtain⟨g,rfl⟩:∃ g,f=g+1:=⟨f-1,by omega⟩
  obtain⟨h1,h2⟩:=h
  have key:∀ g,2*r.length+1≤g→L8.tx g ((if b then [32] else [])++ly r)=(r.map (·.1.data.toList),true):=by
   intro g hg
   cases b
   ·exact tx_ly r g h2 (by omega)
   ·obtain⟨g',rfl⟩:∃ g',g=g'+1:=⟨g-1,by omega⟩
    show L8.tx (g'+1) (32::ly r)=_
    rw [tx_sp]
    exact tx_ly r g' h2 (by omega)
  rw [ly,List.map_cons]
  rcases h1 with ⟨hw,hs⟩|hp
  ·rw [tx_word hw,key g (by omega)]
   rcases hs with rfl|rfl|⟨u,v,s,rfl,c,hc,hp⟩
   ·exact .inr ⟨32,_,rfl,by decide⟩
   ·cases b
    ·exact .inl rfl
    ·exact .inr ⟨32,_,rfl,by decide⟩
   ·cases b
    ·refine .inr ⟨c,(if v then [32] else [])++ly s,?_,(L8.pun_not hp).2.2⟩
     show ly ((u,v)::s)=_
     rw [ly,hc];rfl
    ·exact .inr ⟨32,_,rfl,by decide⟩
  ·rw [tx_pun hp,key g (by omega)]
theorem ly_len:∀ (l:List (ByteArray × Bool)),okl l→l.length≤(ly l).length
 | [],_=>Nat.le_refl _
 | (t,b)::r,h=>by
  have ih:=ly_len r h.2
  have h1:1≤t.data.toList.length:=by
   rcases h.1 with ⟨hw,_⟩|⟨c,hc,_⟩
   ·have:=hw.1
    rw [← L8.size_list] at this
    omega
   ·rw [hc];exact Nat.le_refl _
  rw [ly]
  simp only [List.length_cons,List.length_append]
  omega
theorem toks_ly (s:ByteArray) (l:List (ByteArray × Bool)) (h:s.data.toList=ly l) (ho:okl l):L9.txB s=l.map (·.1)∧L8.bad s=-1:=by
 obtain⟨h1,h2⟩:=L8.txts_tx s
 have e:L8.tx s.size s.data.toList=(l.map (·.1.data.toList),true):=by
  have:=ly_len l ho
  rw [← L9.tx_fuel s.data.toList.length (2*(ly l).length) s.size s.data.toList (Nat.le_refl _) (by rw [h];omega) (by rw [L8.size_list];exact Nat.le_refl _),h]
  exact tx_ly l _ ho (by omega)
 rw [e] at h1 h2
 refine⟨?_,h2.2 rfl⟩
 rw [L9.txB_of,h1,List.map_map]
 exact List.map_congr_left fun x _=>rfl
theorem isWd_all {t:ByteArray} (h:t.data.toList≠[]) (h2:∀ c∈t.data.toList,L8.wb c=true):IsWd t:=by
 refine L9.isWd_of (.inl ⟨h,h2⟩) ?_
 unfold L8.isW
 split
 ·rename_i c hc
  have:=h2 c (by rw [hc];simp)
  rw [((L8.byte_cases c).2.2 this).1];rfl
 ·rfl
theorem isWd_vd {t:ByteArray} (h:L2.vd t=true):IsWd t:=isWd_all (L9.vd_tok h).1 (L9.vd_tok h).2
def wdC (l:List UInt8):Bool:=!l.isEmpty && l.all L8.wb
theorem isWd_c {t:ByteArray} (h:wdC t.data.toList=true):IsWd t:=by
 unfold wdC at h
 simp only [Bool.and_eq_true,Bool.not_eq_true',List.all_eq_true] at h
 exact isWd_all (by intro e;rw [e] at h;cases h.1) h.2
theorem isG_k {r:Int} (h:L4.isG r=true):∃ k:Nat,k<11∧r=(k:Int):=by
 unfold L4.isG at h
 simp only [Bool.and_eq_true,decide_eq_true_eq] at h
 exact⟨r.toNat,by omega,by omega⟩
theorem nmS_k {k:Nat} (h:k<11):L2.nmS (k:Int)=L2.regS k:=by
 unfold L2.nmS
 rw [if_pos ⟨by omega,by omega⟩]
 rfl
theorem reg_ok:∀ k,k<11→wdC (L2.regS k).data.toList=true∧L2.rg (L2.regS k)=(k,true):=by decide +kernel
theorem nm_wd {r:Int} (h:L4.isG r=true):IsWd (L2.nmS r):=by
 obtain⟨k,hk,rfl⟩:=isG_k h
 rw [nmS_k hk]
 exact isWd_c (reg_ok k hk).1
theorem nm_rg {r:Int} (h:L4.isG r=true):(L2.rg (L2.nmS r)).2=true∧((L2.rg (L2.nmS r)).1:Int)=r:=by
 obtain⟨k,hk,rfl⟩:=isG_k h
 rw [nmS_k hk,(reg_ok k hk).2]
 exact⟨rfl,rfl⟩
theorem nm_re {r:Int} (h:L4.isG r=true):L9.reV (L2.nmS r)=(r,0):=by
 obtain⟨h1,h2⟩:=nm_rg h
 unfold L9.reV
 rw [if_pos h1,h2]
theorem op_wd:∀ k,k<86→wdC (L3.nm k).data.toList=true∧decide (L3.nm k=L9.mapT)=false:=by decide +kernel
theorem op_wd_tl {k:Nat} (h:k<86):IsWd (L3.nm k):=isWd_c (op_wd k h).1
theorem nB_list (x:Int):(nB x).data.toList=Lib.itoa x:=by simp [nB]
theorem nu_nB {b x:Int} (hb:b=16∨b=32∨b=64) (hx:L1.sx b x=x):L9.nuV (nB x) b=(x,0):=by
 unfold L9.nuV
 rw [nB_list]
 exact L1.ps_itoab b x hb hx
def dB (n:Nat):ByteArray:=⟨(Lib.decDigits n).toArray⟩
theorem dB_list (n:Nat):(dB n).data.toList=Lib.decDigits n:=by simp [dB]
theorem dB_wd (n:Nat):IsWd (dB n):=isWd_all (by rw [dB_list];exact L1.dec_ne n) (by
 rw [dB_list]
 exact fun c hc=>L1.dgn_wb c (L1.dec_chars n n (Nat.le_refl _) c hc))
theorem nB_pos {x:Int} (h:0≤x):nB x=dB x.toNat:=by
 unfold nB dB
 rw [Lib.itoa,if_neg (by omega)]
theorem nB_neg {x:Int} (h:x<0):nB x=tMin++dB x.natAbs:=by
 apply ByteArray.ext
 apply Array.toList_inj.1
 unfold nB dB tMin
 rw [Lib.itoa,if_pos h]
 simp
theorem reg_114:∀ k,k<11→(L2.regS k).data.toList.head?=some 114:=by decide +kernel
theorem rgFrom_no (s:ByteArray) (h:s.data.toList.head?≠some 114):∀ n k,k+n≤11→(L2.rgFrom n k s).2=false
 | 0,_,_=>rfl
 | n+1,k,hk=>by
  rw [L2.rgFrom]
  rw [if_neg]
  ·exact rgFrom_no s h n (k+1) (by omega)
  ·intro e
   have:=reg_114 k (by omega)
   rw [e] at this
   exact h this
theorem nB_head (x:Int):(nB x).data.toList.head?≠some 114:=by
 rw [nB_list]
 unfold Lib.itoa
 split
 ·simp
 ·intro h
  have hm:(114:UInt8)∈Lib.decDigits x.toNat:=by
   cases hl:Lib.decDigits x.toNat with
   | nil=>rw [hl] at h;cases h
   | cons a r=>rw [hl] at h;simp only [List.head?_cons,Option.some.injEq] at h;rw [h];simp
  have:=L1.dec_chars x.toNat x.toNat (Nat.le_refl _) 114 hm
  revert this;decide
theorem nB_rg (x:Int):(L2.rg (nB x)).2=false:=rgFrom_no _ (nB_head x) 11 0 (by decide)
end Go.Proofs.YtgljoilddjmohaaGreatDoor.L11
end
section
namespace Go.Proofs.YtgljoilddjmohaaGreatDoor.L11
open L9 (Df Ins IsWd tCom tOpn tShu tPlu tMin tCol eB spl offV joi shpB)
open L10 (Stm Pg)
theorem in_op {t:ByteArray} {q:List ByteArray} {op f:Int} (hfi:L9.fiV t=op) (h0:0≤op) (hf:L3.frm (L3.ix op)=f) (hO:L9.Ops f q) (hs:(L9.shV f).any (fun x=>decide (x=shpB q))=true) {x:Ins} {tg mp:ByteArray} {r:L9.Rs}
  (hv:L9.opV f op (spl q) (offV (joi q))=(r,0)) (hx:r.x=x) (ht:r.tg=tg) (hm:r.mp=mp):L9.inV t q=(⟨x,tg,mp⟩,0):=by
 subst hx;subst ht;subst hm
 unfold L9.inV
 rw [hfi,if_neg (by omega),hf,hs,if_neg (by simp),L9.inR_fin,hf]
 obtain⟨_,h1,h2⟩:=L9.runs_ops (op:=op) hO
 rw [hv] at h1 h2
 have e:L9.st0 op q=⟨q,⟨op,false,0,0,0,0⟩,eB,eB⟩:=rfl
 rw [e]
 generalize L9.runs (L9.ksV f) ⟨q,⟨op,false,0,0,0,0⟩,eB,eB⟩=R at h1 h2 ⊢
 obtain⟨a,b,c,_⟩:=h2 h1
 unfold L9.fin
 rw [if_neg (by rw [h1];simp)]
 show ((⟨R.1.x,R.1.tg,R.1.mp⟩:L9.Cod),(0:Int))=_
 rw [a,b,c]
theorem nm_first:∀ i,i<86→(List.range i).all (fun k=>decide (L3.nm k≠L3.nm i))=true:=by decide +kernel
theorem fi_nm {k:Nat} (h:k<86):L9.fiV (L3.nm k)=(k:Int):=L9.fiV_hit h (fun j hj=>by
 have:=List.all_eq_true.1 (nm_first k h) j (List.mem_range.2 hj)
 simpa using this) rfl
theorem ne_col {t:ByteArray} (h:IsWd t):t≠tCol:=by
 rintro rfl
 have:=h.2.2.2 58 (by simp [tCol])
 revert this;decide
theorem shp_w {t:ByteArray} (h:IsWd t):L8.shl1 t.data.toList=119:=if_pos h.2.2.1
theorem pC:Pun tCom:=⟨44,rfl,by decide⟩
theorem pO:Pun tOpn:=⟨91,rfl,by decide⟩
theorem pS:Pun tShu:=⟨93,rfl,by decide⟩
theorem pP:Pun tPlu:=⟨43,rfl,by decide⟩
theorem pM:Pun tMin:=⟨45,rfl,by decide⟩
theorem it_code {s name:ByteArray} {q:List ByteArray} (hw:IsWd name) (hq:∀ b r,q=b::r→b≠tCol) (htx:L9.txB s=name::q) (hb:L8.bad s=-1) (hm:name≠L9.mapT) {x:Ins} {tg mp:ByteArray}
  (hi:L9.inV name q=(⟨x,tg,mp⟩,0)):L10.itL s=([.cd x tg mp],0):=by
 have hlab:L9.lab [] (name::q)=(0,[],name::q):=by
  cases q with
  | nil=>rw [L9.lab]
  | cons b r=>rw [L9.lab,if_neg (fun h=>hq b r rfl h.2)]
 unfold L10.itL
 rw [hb,if_neg (by decide),htx]
 unfold L10.itV
 rw [hlab]
 simp only [ne_eq,not_true_eq_false,if_false]
 rw [if_neg (by rw [hw.2.2.1];simp)]
 unfold L10.itI
 rw [if_neg hm,hi]
 rfl
def Rdn (s:ByteArray) (i:L10.It):Prop:=L10.itL s=([i],0)∧(10:UInt8)∉s.data.toList
theorem ly_lf:∀ (l:List (ByteArray × Bool)),okl l→(10:UInt8)∉ly l
 | [],_=>by simp [ly]
 | (t,b)::r,h=>by
  have ih:=ly_lf r h.2
  have h1:(10:UInt8)∉t.data.toList:=by
   rcases h.1 with ⟨hw,_⟩|⟨c,hc,hp⟩
   ·intro hm
    have:=hw.2.2.2 10 hm
    revert this;decide
   ·rw [hc]
    intro hm
    obtain rfl:(10:UInt8)=c:=by simpa using hm
    revert hp;decide
  rw [ly]
  intro hm
  rcases List.mem_append.1 hm with hm|hm
  ·exact h1 hm
  rcases List.mem_append.1 hm with hm|hm
  ·cases b
   ·cases hm
   ·simp at hm
  ·exact ih hm
theorem code_line {s:ByteArray} {k:Nat} (hk:k<86) {f:Int} (hf:L3.frm (L3.ix (k:Int))=f) (b0:Bool) (l:List (ByteArray × Bool)) (h:s.data.toList=ly ((L3.nm k,b0)::l)) (ho:okl ((L3.nm k,b0)::l))
  (hq:∀ b r,l.map (·.1)=b::r→b≠tCol) (hO:L9.Ops f (l.map (·.1))) (hs:(L9.shV f).any (fun x=>decide (x=shpB (l.map (·.1))))=true) {x:Ins} {tg mp:ByteArray} {r:L9.Rs}
  (hv:L9.opV f (k:Int) (spl (l.map (·.1))) (offV (joi (l.map (·.1))))=(r,0)) (hx:r.x=x) (ht:r.tg=tg) (hm:r.mp=mp):Rdn s (.cd x tg mp):=by
 obtain⟨h1,h2⟩:=toks_ly s _ h ho
 exact⟨it_code (op_wd_tl hk) hq h1 h2 (by simpa using (op_wd k hk).2) (in_op (fi_nm hk) (by omega) hf hO hs hv hx ht hm),by rw [h];exact ly_lf _ ho⟩
theorem okW {t u:ByteArray} {b v:Bool} {s:List (ByteArray × Bool)} (h:IsWd t) (hp:Pun u) (hr:okl ((u,v)::s)):okl ((t,b)::(u,v)::s):=⟨.inl ⟨h,.inr (.inr ⟨u,v,s,rfl,hp⟩)⟩,hr⟩
theorem okE {t:ByteArray} {b:Bool} (h:IsWd t):okl [(t,b)]:=⟨.inl ⟨h,.inr (.inl rfl)⟩,trivial⟩
theorem okS {t:ByteArray} {s:List (ByteArray × Bool)} (h:IsWd t) (hr:okl s):okl ((t,true)::s):=⟨.inl ⟨h,.inl rfl⟩,hr⟩
theorem okP {t:ByteArray} {b:Bool} {s:List (ByteArray × Bool)} (h:Pun t) (hr:okl s):okl ((t,b)::s):=⟨.inr h,hr⟩
section
variable {s:ByteArray} {k:Nat} (hk:k<86)
include hk
theorem f_none (hf:L3.frm (L3.ix (k:Int))=6) (h:s=L3.nm k):Rdn s (.cd ⟨k,false,0,0,0,0⟩ eB eB):=by
 refine code_line hk hf false [] (by rw [h];simp [ly]) (okE (op_wd_tl hk)) (fun b r h=>by cases h) (.none 6 rfl) (by decide) (r:=⟨2,Df.z,⟨k,false,0,0,0,0⟩,eB,eB⟩) ?_ rfl rfl rfl
 rfl
theorem f_one {f:Int} (hf:L3.frm (L3.ix (k:Int))=f) (hF:f=1∨f=3∨f=5) {a:ByteArray} (ha:IsWd a) (h:s=opF (L3.nm k) 0 [a]) {r:L9.Rs} (hv:L9.opV f (k:Int) [a] (offV (joi [a]))=(r,0)):Rdn s (.cd r.x r.tg r.mp):=by
 refine code_line hk hf true [(a,false)] (by rw [h];simp [ly,opF,opS,spB]) (okS (op_wd_tl hk) (okE ha)) (fun b r h=>by cases h;exact ne_col ha) (.one f a hF ha) ?_ (r:=r) ?_ rfl rfl rfl
 ·have e:shpB [a]=L9.sw:=by
   show (⟨#[L8.shl1 a.data.toList]⟩:ByteArray)=_
   rw [shp_w ha];rfl
  show (L9.shV _).any (fun x=>decide (x=shpB [a]))=true
  rw [e]
  rcases hF with rfl|rfl|rfl <;> decide
 ·show L9.opV f (k:Int) (spl [a]) _=_
  rw [L9.spl_one ha];exact hv
theorem f_two {f:Int} (hf:L3.frm (L3.ix (k:Int))=f) (hF:f=0∨f=10∨f=2∨f=11) {a b:ByteArray} (ha:IsWd a) (hb:IsWd b) (h:s=opF (L3.nm k) 0 [a,b]) {r:L9.Rs} (hv:∀ o,L9.opV f (k:Int) [a,b] o=(r,0)):Rdn s (.cd r.x r.tg r.mp):=by
 refine code_line hk hf true [(a,false),(tCom,true),(b,false)] (by rw [h];simp [ly,opF,opS,spB]) (okS (op_wd_tl hk) (okW ha pC (okP pC (okE hb)))) (fun b r h=>by cases h;exact ne_col ha) (.two f a b hF ha hb) ?_ (r:=r) ?_ rfl rfl rfl
 ·have e:shpB [a,tCom,b]=L9.sww:=by
   show (⟨#[L8.shl1 a.data.toList,44,L8.shl1 b.data.toList]⟩:ByteArray)=_
   rw [shp_w ha,shp_w hb];rfl
  show (L9.shV _).any (fun x=>decide (x=shpB [a,tCom,b]))=true
  rw [e]
  rcases hF with rfl|rfl|rfl|rfl <;> decide
 ·show L9.opV f (k:Int) (spl [a,tCom,b]) _=_
  rw [L9.spl_two ha hb];exact hv _
theorem f_neg {f:Int} (hf:L3.frm (L3.ix (k:Int))=f) (hF:f=0∨f=10) {a b:ByteArray} (ha:IsWd a) (hb:IsWd b) (h:s=opF (L3.nm k) 0 [a,tMin++b]) {r:L9.Rs} (hv:∀ o,L9.opV f (k:Int) [a,tMin++b] o=(r,0)):Rdn s (.cd r.x r.tg r.mp):=by
 refine code_line hk hf true [(a,false),(tCom,true),(tMin,false),(b,false)] (by rw [h];simp [ly,opF,opS,spB]) (okS (op_wd_tl hk) (okW ha pC (okP pC (okP pM (okE hb))))) (fun b r h=>by cases h;exact ne_col ha) (.neg f a b hF ha hb) ?_ (r:=r) ?_ rfl rfl rfl
 ·have e:shpB [a,tCom,tMin,b]=L9.swmw:=by
   show (⟨#[L8.shl1 a.data.toList,44,45,L8.shl1 b.data.toList]⟩:ByteArray)=_
   rw [shp_w ha,shp_w hb];rfl
  show (L9.shV _).any (fun x=>decide (x=shpB [a,tCom,tMin,b]))=true
  rw [e]
  rcases hF with rfl|rfl <;> decide
 ·show L9.opV f (k:Int) (spl [a,tCom,tMin,b]) _=_
  rw [L9.spl_neg ha hb];exact hv _
theorem f_three (hf:L3.frm (L3.ix (k:Int))=4) {a b c:ByteArray} (ha:IsWd a) (hb:IsWd b) (hc:IsWd c) (h:s=opF (L3.nm k) 0 [a,b,c]) {r:L9.Rs} (hv:∀ o,L9.opV 4 (k:Int) [a,b,c] o=(r,0)):Rdn s (.cd r.x r.tg r.mp):=by
 refine code_line hk hf true [(a,false),(tCom,true),(b,false),(tCom,true),(c,false)] (by rw [h];simp [ly,opF,opS,spB]) (okS (op_wd_tl hk) (okW ha pC (okP pC (okW hb pC (okP pC (okE hc)))))) (fun b r h=>by cases h;exact ne_col ha) (.three a b c ha hb hc) ?_ (r:=r) ?_ rfl rfl rfl
 ·have e:shpB [a,tCom,b,tCom,c]=L9.swww:=by
   show (⟨#[L8.shl1 a.data.toList,44,L8.shl1 b.data.toList,44,L8.shl1 c.data.toList]⟩:ByteArray)=_
   rw [shp_w ha,shp_w hb,shp_w hc];rfl
  show (L9.shV _).any (fun x=>decide (x=shpB [a,tCom,b,tCom,c]))=true
  rw [e];decide
 ·show L9.opV 4 (k:Int) (spl [a,tCom,b,tCom,c]) _=_
  rw [L9.spl_three ha hb hc];exact hv _
theorem f_threen (hf:L3.frm (L3.ix (k:Int))=4) {a b c:ByteArray} (ha:IsWd a) (hb:IsWd b) (hc:IsWd c) (h:s=opF (L3.nm k) 0 [a,tMin++b,c]) {r:L9.Rs} (hv:∀ o,L9.opV 4 (k:Int) [a,tMin++b,c] o=(r,0)):Rdn s (.cd r.x r.tg r.mp):=by
 refine code_line hk hf true [(a,false),(tCom,true),(tMin,false),(b,false),(tCom,true),(c,false)] (by rw [h];simp [ly,opF,opS,spB]) (okS (op_wd_tl hk) (okW ha pC (okP pC (okP pM (okW hb pC (okP pC (okE hc))))))) (fun b r h=>by cases h;exact ne_col ha) (.threen a b c ha hb hc) ?_ (r:=r) ?_ rfl rfl rfl
 ·have e:shpB [a,tCom,tMin,b,tCom,c]=L9.swmww:=by
   show (⟨#[L8.shl1 a.data.toList,44,45,L8.shl1 b.data.toList,44,L8.shl1 c.data.toList]⟩:ByteArray)=_
   rw [shp_w ha,shp_w hb,shp_w hc];rfl
  show (L9.shV _).any (fun x=>decide (x=shpB [a,tCom,tMin,b,tCom,c]))=true
  rw [e];decide
 ·show L9.opV 4 (k:Int) (spl [a,tCom,tMin,b,tCom,c]) _=_
  rw [L9.spl_threen ha hb hc];exact hv _
theorem f_load (hf:L3.frm (L3.ix (k:Int))=7) {a b:ByteArray} (ha:IsWd a) (hb:IsWd b) (h:s=opF (L3.nm k) 0 [a,(tOpn++(b++eB)++tShu)]) {r:L9.Rs} (hv:L9.opV 7 (k:Int) [a,b] false=(r,0)):Rdn s (.cd r.x r.tg r.mp):=by
 refine code_line hk hf true [(a,false),(tCom,true),(tOpn,false),(b,false),(tShu,false)] (by rw [h];simp [ly,opF,opS,spB,eB]) (okS (op_wd_tl hk) (okW ha pC (okP pC (okP pO (okW hb pS (okP pS trivial)))))) (fun b r h=>by cases h;exact ne_col ha) (.load a b ha hb) ?_ (r:=r) ?_ rfl rfl rfl
 ·have e:shpB [a,tCom,tOpn,b,tShu]=L9.swM0:=by
   show (⟨#[L8.shl1 a.data.toList,44,91,L8.shl1 b.data.toList,93]⟩:ByteArray)=_
   rw [shp_w ha,shp_w hb];rfl
  show (L9.shV _).any (fun x=>decide (x=shpB [a,tCom,tOpn,b,tShu]))=true
  rw [e]
  decide
 ·show L9.opV 7 (k:Int) (spl [a,tCom,tOpn,b,tShu]) (offV (joi [a,tCom,tOpn,b,tShu]))=_
  rw [L9.spl_load ha hb,L9.off_load ha hb];exact hv
theorem f_loadp (hf:L3.frm (L3.ix (k:Int))=7) {a b c:ByteArray} (ha:IsWd a) (hb:IsWd b) (hc:IsWd c) (h:s=opF (L3.nm k) 0 [a,(tOpn++(b++(tPlu++c))++tShu)]) {r:L9.Rs} (hv:L9.opV 7 (k:Int) [a,b,c] true=(r,0)):Rdn s (.cd r.x r.tg r.mp):=by
 refine code_line hk hf true [(a,false),(tCom,true),(tOpn,false),(b,false),(tPlu,false),(c,false),(tShu,false)] (by rw [h];simp [ly,opF,opS,spB]) (okS (op_wd_tl hk) (okW ha pC (okP pC (okP pO (okW hb pP (okP pP (okW hc pS (okP pS trivial)))))))) (fun b r h=>by cases h;exact ne_col ha) (.loadp a b c ha hb hc) ?_ (r:=r) ?_ rfl rfl rfl
 ·have e:shpB [a,tCom,tOpn,b,tPlu,c,tShu]=L9.swMp:=by
   show (⟨#[L8.shl1 a.data.toList,44,91,L8.shl1 b.data.toList,43,L8.shl1 c.data.toList,93]⟩:ByteArray)=_
   rw [shp_w ha,shp_w hb,shp_w hc];rfl
  show (L9.shV _).any (fun x=>decide (x=shpB [a,tCom,tOpn,b,tPlu,c,tShu]))=true
  rw [e]
  decide
 ·show L9.opV 7 (k:Int) (spl [a,tCom,tOpn,b,tPlu,c,tShu]) (offV (joi [a,tCom,tOpn,b,tPlu,c,tShu]))=_
  rw [L9.spl_loadp ha hb hc,L9.off_loadp];exact hv
theorem f_loadm (hf:L3.frm (L3.ix (k:Int))=7) {a b c:ByteArray} (ha:IsWd a) (hb:IsWd b) (hc:IsWd c) (h:s=opF (L3.nm k) 0 [a,(tOpn++(b++(tMin++c))++tShu)]) {r:L9.Rs} (hv:L9.opV 7 (k:Int) [a,b,tMin++c] true=(r,0)):Rdn s (.cd r.x r.tg r.mp):=by
 refine code_line hk hf true [(a,false),(tCom,true),(tOpn,false),(b,false),(tMin,false),(c,false),(tShu,false)] (by rw [h];simp [ly,opF,opS,spB]) (okS (op_wd_tl hk) (okW ha pC (okP pC (okP pO (okW hb pM (okP pM (okW hc pS (okP pS trivial)))))))) (fun b r h=>by cases h;exact ne_col ha) (.loadm a b c ha hb hc) ?_ (r:=r) ?_ rfl rfl rfl
 ·have e:shpB [a,tCom,tOpn,b,tMin,c,tShu]=L9.swMm:=by
   show (⟨#[L8.shl1 a.data.toList,44,91,L8.shl1 b.data.toList,45,L8.shl1 c.data.toList,93]⟩:ByteArray)=_
   rw [shp_w ha,shp_w hb,shp_w hc];rfl
  show (L9.shV _).any (fun x=>decide (x=shpB [a,tCom,tOpn,b,tMin,c,tShu]))=true
  rw [e]
  decide
 ·show L9.opV 7 (k:Int) (spl [a,tCom,tOpn,b,tMin,c,tShu]) (offV (joi [a,tCom,tOpn,b,tMin,c,tShu]))=_
  rw [L9.spl_loadm ha hb hc,L9.off_loadm hb];exact hv
theorem f_stor {f:Int} (hf:L3.frm (L3.ix (k:Int))=f) (hF:f=8∨f=9) {a b:ByteArray} (ha:IsWd a) (hb:IsWd b) (h:s=opF (L3.nm k) 0 [(tOpn++(a++eB)++tShu),b]) {r:L9.Rs} (hv:L9.opV f (k:Int) [a,b] false=(r,0)):Rdn s (.cd r.x r.tg r.mp):=by
 refine code_line hk hf true [(tOpn,false),(a,false),(tShu,false),(tCom,true),(b,false)] (by rw [h];simp [ly,opF,opS,spB,eB]) (okS (op_wd_tl hk) (okP pO (okW ha pS (okP pS (okP pC (okE hb)))))) (fun b r h=>by cases h;decide) (.stor f a b hF ha hb) ?_ (r:=r) ?_ rfl rfl rfl
 ·have e:shpB [tOpn,a,tShu,tCom,b]=L9.sM0w:=by
   show (⟨#[91,L8.shl1 a.data.toList,93,44,L8.shl1 b.data.toList]⟩:ByteArray)=_
   rw [shp_w ha,shp_w hb];rfl
  show (L9.shV _).any (fun x=>decide (x=shpB [tOpn,a,tShu,tCom,b]))=true
  rw [e]
  rcases hF with rfl|rfl <;> decide
 ·show L9.opV f (k:Int) (spl [tOpn,a,tShu,tCom,b]) (offV (joi [tOpn,a,tShu,tCom,b]))=_
  rw [L9.spl_stor ha hb,L9.off_stor ha hb];exact hv
theorem f_storp {f:Int} (hf:L3.frm (L3.ix (k:Int))=f) (hF:f=8∨f=9) {a b c:ByteArray} (ha:IsWd a) (hb:IsWd b) (hc:IsWd c) (h:s=opF (L3.nm k) 0 [(tOpn++(a++(tPlu++b))++tShu),c]) {r:L9.Rs} (hv:L9.opV f (k:Int) [a,b,c] true=(r,0)):Rdn s (.cd r.x r.tg r.mp):=by
 refine code_line hk hf true [(tOpn,false),(a,false),(tPlu,false),(b,false),(tShu,false),(tCom,true),(c,false)] (by rw [h];simp [ly,opF,opS,spB]) (okS (op_wd_tl hk) (okP pO (okW ha pP (okP pP (okW hb pS (okP pS (okP pC (okE hc)))))))) (fun b r h=>by cases h;decide) (.storp f a b c hF ha hb hc) ?_ (r:=r) ?_ rfl rfl rfl
 ·have e:shpB [tOpn,a,tPlu,b,tShu,tCom,c]=L9.sMpw:=by
   show (⟨#[91,L8.shl1 a.data.toList,43,L8.shl1 b.data.toList,93,44,L8.shl1 c.data.toList]⟩:ByteArray)=_
   rw [shp_w ha,shp_w hb,shp_w hc];rfl
  show (L9.shV _).any (fun x=>decide (x=shpB [tOpn,a,tPlu,b,tShu,tCom,c]))=true
  rw [e]
  rcases hF with rfl|rfl <;> decide
 ·show L9.opV f (k:Int) (spl [tOpn,a,tPlu,b,tShu,tCom,c]) (offV (joi [tOpn,a,tPlu,b,tShu,tCom,c]))=_
  rw [L9.spl_storp ha hb hc,L9.off_storp];exact hv
theorem f_storm {f:Int} (hf:L3.frm (L3.ix (k:Int))=f) (hF:f=8∨f=9) {a b c:ByteArray} (ha:IsWd a) (hb:IsWd b) (hc:IsWd c) (h:s=opF (L3.nm k) 0 [(tOpn++(a++(tMin++b))++tShu),c]) {r:L9.Rs} (hv:L9.opV f (k:Int) [a,tMin++b,c] true=(r,0)):Rdn s (.cd r.x r.tg r.mp):=by
 refine code_line hk hf true [(tOpn,false),(a,false),(tMin,false),(b,false),(tShu,false),(tCom,true),(c,false)] (by rw [h];simp [ly,opF,opS,spB]) (okS (op_wd_tl hk) (okP pO (okW ha pM (okP pM (okW hb pS (okP pS (okP pC (okE hc)))))))) (fun b r h=>by cases h;decide) (.storm f a b c hF ha hb hc) ?_ (r:=r) ?_ rfl rfl rfl
 ·have e:shpB [tOpn,a,tMin,b,tShu,tCom,c]=L9.sMmw:=by
   show (⟨#[91,L8.shl1 a.data.toList,45,L8.shl1 b.data.toList,93,44,L8.shl1 c.data.toList]⟩:ByteArray)=_
   rw [shp_w ha,shp_w hb,shp_w hc];rfl
  show (L9.shV _).any (fun x=>decide (x=shpB [tOpn,a,tMin,b,tShu,tCom,c]))=true
  rw [e]
  rcases hF with rfl|rfl <;> decide
 ·show L9.opV f (k:Int) (spl [tOpn,a,tMin,b,tShu,tCom,c]) (offV (joi [tOpn,a,tMin,b,tShu,tCom,c]))=_
  rw [L9.spl_storm ha hb hc,L9.off_storm ha];exact hv
theorem f_storn (hf:L3.frm (L3.ix (k:Int))=8) {a b:ByteArray} (ha:IsWd a) (hb:IsWd b) (h:s=opF (L3.nm k) 0 [(tOpn++(a++eB)++tShu),tMin++b]) {r:L9.Rs} (hv:L9.opV 8 (k:Int) [a,tMin++b] false=(r,0)):Rdn s (.cd r.x r.tg r.mp):=by
 refine code_line hk hf true [(tOpn,false),(a,false),(tShu,false),(tCom,true),(tMin,false),(b,false)] (by rw [h];simp [ly,opF,opS,spB,eB]) (okS (op_wd_tl hk) (okP pO (okW ha pS (okP pS (okP pC (okP pM (okE hb))))))) (fun b r h=>by cases h;decide) (.storn a b ha hb) ?_ (r:=r) ?_ rfl rfl rfl
 ·have e:shpB [tOpn,a,tShu,tCom,tMin,b]=L9.sM0mw:=by
   show (⟨#[91,L8.shl1 a.data.toList,93,44,45,L8.shl1 b.data.toList]⟩:ByteArray)=_
   rw [shp_w ha,shp_w hb];rfl
  show (L9.shV _).any (fun x=>decide (x=shpB [tOpn,a,tShu,tCom,tMin,b]))=true
  rw [e]
  decide
 ·show L9.opV 8 (k:Int) (spl [tOpn,a,tShu,tCom,tMin,b]) (offV (joi [tOpn,a,tShu,tCom,tMin,b]))=_
  rw [L9.spl_storn ha hb,L9.off_storn ha hb];exact hv
theorem f_storpn (hf:L3.frm (L3.ix (k:Int))=8) {a b c:ByteArray} (ha:IsWd a) (hb:IsWd b) (hc:IsWd c) (h:s=opF (L3.nm k) 0 [(tOpn++(a++(tPlu++b))++tShu),tMin++c]) {r:L9.Rs} (hv:L9.opV 8 (k:Int) [a,b,tMin++c] true=(r,0)):Rdn s (.cd r.x r.tg r.mp):=by
 refine code_line hk hf true [(tOpn,false),(a,false),(tPlu,false),(b,false),(tShu,false),(tCom,true),(tMin,false),(c,false)] (by rw [h];simp [ly,opF,opS,spB]) (okS (op_wd_tl hk) (okP pO (okW ha pP (okP pP (okW hb pS (okP pS (okP pC (okP pM (okE hc))))))))) (fun b r h=>by cases h;decide) (.storpn a b c ha hb hc) ?_ (r:=r) ?_ rfl rfl rfl
 ·have e:shpB [tOpn,a,tPlu,b,tShu,tCom,tMin,c]=L9.sMpmw:=by
   show (⟨#[91,L8.shl1 a.data.toList,43,L8.shl1 b.data.toList,93,44,45,L8.shl1 c.data.toList]⟩:ByteArray)=_
   rw [shp_w ha,shp_w hb,shp_w hc];rfl
  show (L9.shV _).any (fun x=>decide (x=shpB [tOpn,a,tPlu,b,tShu,tCom,tMin,c]))=true
  rw [e]
  decide
 ·show L9.opV 8 (k:Int) (spl [tOpn,a,tPlu,b,tShu,tCom,tMin,c]) (offV (joi [tOpn,a,tPlu,b,tShu,tCom,tMin,c]))=_
  rw [L9.spl_storpn ha hb hc,L9.off_storpn];exact hv
theorem f_stormn (hf:L3.frm (L3.ix (k:Int))=8) {a b c:ByteArray} (ha:IsWd a) (hb:IsWd b) (hc:IsWd c) (h:s=opF (L3.nm k) 0 [(tOpn++(a++(tMin++b))++tShu),tMin++c]) {r:L9.Rs} (hv:L9.opV 8 (k:Int) [a,tMin++b,tMin++c] true=(r,0)):Rdn s (.cd r.x r.tg r.mp):=by
 refine code_line hk hf true [(tOpn,false),(a,false),(tMin,false),(b,false),(tShu,false),(tCom,true),(tMin,false),(c,false)] (by rw [h];simp [ly,opF,opS,spB]) (okS (op_wd_tl hk) (okP pO (okW ha pM (okP pM (okW hb pS (okP pS (okP pC (okP pM (okE hc))))))))) (fun b r h=>by cases h;decide) (.stormn a b c ha hb hc) ?_ (r:=r) ?_ rfl rfl rfl
 ·have e:shpB [tOpn,a,tMin,b,tShu,tCom,tMin,c]=L9.sMmmw:=by
   show (⟨#[91,L8.shl1 a.data.toList,45,L8.shl1 b.data.toList,93,44,45,L8.shl1 c.data.toList]⟩:ByteArray)=_
   rw [shp_w ha,shp_w hb,shp_w hc];rfl
  show (L9.shV _).any (fun x=>decide (x=shpB [tOpn,a,tMin,b,tShu,tCom,tMin,c]))=true
  rw [e]
  decide
 ·show L9.opV 8 (k:Int) (spl [tOpn,a,tMin,b,tShu,tCom,tMin,c]) (offV (joi [tOpn,a,tMin,b,tShu,tCom,tMin,c]))=_
  rw [L9.spl_stormn ha hb hc,L9.off_stormn ha];exact hv
end
end Go.Proofs.YtgljoilddjmohaaGreatDoor.L11
end
