/- Lemmas and walks of L8Tk, L8Rtok, L8Rshp, L8Rsub, L8Lsh, L8Rlin: what each theorem states; conditions stand in each theorem. -/
import Derived.Test.YtgljoilddjmohaaGreatDoorL2Base
import Derived.Maps.AppendAt
import Derived.Deep.AppendLies
import Derived.Deep.WholeRow
import Derived.Deep.DeepCutAuto
import Derived.BigQuiet
section
namespace Go.Proofs.YtgljoilddjmohaaGreatDoor.L8
open L2
def cmt (c:UInt8):Bool:=c==59 || c==35
def spc (c:UInt8):Bool:=c==32 || c==9 || c==13
def pun (c:UInt8):Bool:=c==44 || c==91 || c==93 || c==43 || c==45 || c==58
def wb (c:UInt8):Bool:=wch (c.toNat:Int)
theorem byte_cases:∀ c:UInt8,(cmt c=true→spc c=false∧wb c=false∧pun c=false)∧(spc c=true→wb c=false∧pun c=false)∧(wb c=true→pun c=false∧spc c=false∧cmt c=false):=by
 intro c
 have h:∀ n,n<256→(fun c:UInt8=>(cmt c=true→spc c=false∧wb c=false∧pun c=false)∧(spc c=true→wb c=false∧pun c=false)∧(wb c=true→pun c=false∧spc c=false∧cmt c=false)) (UInt8.ofNat n):=by decide +kernel
 have:=h c.toNat c.toNat_lt
 simpa using this
def tk:Nat→Nat→List UInt8→List (Nat × Nat) × Int
 | 0,_,_=>([],-1)
 | _+1,_,[]=>([],-1)
 | f+1,i,c::r =>
  if cmt c then ([],-1)
  else if spc c then tk f (i+1) r
  else if wb c then ((i,i+wn (c::r))::(tk f (i+wn (c::r)) ((c::r).drop (wn (c::r)))).1,(tk f (i+wn (c::r)) ((c::r).drop (wn (c::r)))).2)
  else if pun c then ((i,i+1)::(tk f (i+1) r).1,(tk f (i+1) r).2)
  else ([],(i:Int))
theorem wn_pos {c:UInt8} {r:List UInt8} (h:wb c=true):wn (c::r)=wn r+1:=if_pos h
theorem wn_neg {c:UInt8} {r:List UInt8} (h:¬ wb c=true):wn (c::r)=0:=if_neg h
def tks (s:ByteArray):List (Nat × Nat):=(tk s.size 0 s.data.toList).1
def bad (s:ByteArray):Int:=(tk s.size 0 s.data.toList).2
theorem tk_nil (f i:Nat):tk f i []=([],-1):=by cases f <;> rfl
theorem tk_cmt {f i:Nat} {c:UInt8} {r:List UInt8} (h:cmt c=true):tk (f+1) i (c::r)=([],-1):=by
 unfold tk;rw [if_pos h]
theorem tk_spc {f i:Nat} {c:UInt8} {r:List UInt8} (h:spc c=true):tk (f+1) i (c::r)=tk f (i+1) r:=by
 have hc:cmt c=false:=by
  cases h1:cmt c
  ·rfl
  ·rw [((byte_cases c).1 h1).1] at h;cases h
 rw [tk,hc,if_neg Bool.false_ne_true,if_pos h]
theorem tk_word {f i:Nat} {c:UInt8} {r:List UInt8} (h:wb c=true):tk (f+1) i (c::r)=((i,i+wn (c::r))::(tk f (i+wn (c::r)) ((c::r).drop (wn (c::r)))).1,(tk f (i+wn (c::r)) ((c::r).drop (wn (c::r)))).2):=by
 obtain⟨_,h2,h3⟩:=(byte_cases c).2.2 h
 rw [tk,h3,if_neg Bool.false_ne_true,h2,if_neg Bool.false_ne_true,if_pos h]
theorem pun_not {c:UInt8} (h:pun c=true):cmt c=false∧spc c=false∧wb c=false:=by
 refine⟨?_,?_,?_⟩
 ·cases h1:cmt c
  ·rfl
  ·rw [((byte_cases c).1 h1).2.2] at h;cases h
 ·cases h1:spc c
  ·rfl
  ·rw [((byte_cases c).2.1 h1).2] at h;cases h
 ·cases h1:wb c
  ·rfl
  ·rw [((byte_cases c).2.2 h1).1] at h;cases h
theorem tk_pun {f i:Nat} {c:UInt8} {r:List UInt8} (h:pun c=true):tk (f+1) i (c::r)=((i,i+1)::(tk f (i+1) r).1,(tk f (i+1) r).2):=by
 obtain⟨h1,h2,h3⟩:=pun_not h
 rw [tk,h1,if_neg Bool.false_ne_true,h2,if_neg Bool.false_ne_true,h3,if_neg Bool.false_ne_true,if_pos h]
theorem tk_bad {f i:Nat} {c:UInt8} {r:List UInt8} (h1:cmt c=false) (h2:spc c=false) (h3:wb c=false) (h4:pun c=false):tk (f+1) i (c::r)=([],(i:Int)):=by
 rw [tk,h1,if_neg Bool.false_ne_true,h2,if_neg Bool.false_ne_true,h3,if_neg Bool.false_ne_true,h4,if_neg Bool.false_ne_true]
def tx:Nat→List UInt8→List (List UInt8) × Bool
 | 0,_=>([],true)
 | _+1,[]=>([],true)
 | f+1,c::r =>
  if cmt c then ([],true)
  else if spc c then tx f r
  else if wb c then ((c::r).take (wn (c::r))::(tx f ((c::r).drop (wn (c::r)))).1,(tx f ((c::r).drop (wn (c::r)))).2)
  else if pun c then ([c]::(tx f r).1,(tx f r).2)
  else ([],false)
def cut (l:List UInt8) (p:Nat × Nat):List UInt8:=(l.drop p.1).take (p.2-p.1)
theorem cut_word {L:List UInt8} {i:Nat} {c:UInt8} {r:List UInt8} (h:L.drop i=c::r):cut L (i,i+wn (c::r))=(c::r).take (wn (c::r)):=by
 show (L.drop i).take (i+wn (c::r)-i)=_
 rw [h,Nat.add_sub_cancel_left]
theorem cut_one {L:List UInt8} {i:Nat} {c:UInt8} {r:List UInt8} (h:L.drop i=c::r):cut L (i,i+1)=[c]:=by
 show (L.drop i).take (i+1-i)=_
 rw [h,Nat.add_sub_cancel_left];rfl
theorem drop_more {L:List UInt8} {i n:Nat} {l:List UInt8} (h:L.drop i=l):L.drop (i+n)=l.drop n:=by
 rw [← h,List.drop_drop]
theorem tk_tx (L:List UInt8):∀ (f i:Nat) (l:List UInt8),L.drop i=l→(tk f i l).1.map (cut L)=(tx f l).1∧((tk f i l).2<0↔(tx f l).2=true)
 | 0,i,l,_=>⟨rfl,by simp [tk,tx]⟩
 | f+1,i,[],_=>⟨rfl,by simp [tk,tx]⟩
 | f+1,i,c::r,h=>by
  by_cases h1:cmt c=true
  ·rw [tk_cmt h1,tx,if_pos h1];exact⟨rfl,by simp⟩
  have h1':cmt c=false:=by simpa using h1
  by_cases h2:spc c=true
  ·rw [tk_spc h2,tx,if_neg h1,if_pos h2]
   exact tk_tx L f (i+1) r (drop_more (n:=1) h)
  by_cases h3:wb c=true
  ·rw [tk_word h3,tx,if_neg h1,if_neg h2,if_pos h3]
   have ih:=tk_tx L f (i+wn (c::r)) _ (drop_more h)
   exact⟨by simp only [List.map_cons];rw [cut_word h,ih.1],ih.2⟩
  by_cases h4:pun c=true
  ·rw [tk_pun h4,tx,if_neg h1,if_neg h2,if_neg h3,if_pos h4]
   have ih:=tk_tx L f (i+1) r (drop_more (n:=1) h)
   exact⟨by simp only [List.map_cons];rw [cut_one h,ih.1],ih.2⟩
  ·rw [tk_bad h1' (by simpa using h2) (by simpa using h3) (by simpa using h4),tx,if_neg h1,if_neg h2,if_neg h3,if_neg h4]
   exact⟨rfl,by simp⟩
def TokT (t:List UInt8):Prop:=(t≠[]∧∀ c∈t,wb c=true)∨∃ c,t=[c]∧pun c=true
theorem wn_take:∀ l:List UInt8,∀ c∈l.take (wn l),wb c=true
 | [],c,h=>by cases h
 | a::r,c,h=>by
  by_cases ha:wb a=true
  ·rw [wn_pos ha,List.take_succ_cons] at h
   rcases List.mem_cons.1 h with rfl|h
   ·exact ha
   ·exact wn_take r c h
  ·have:wn (a::r)=0:=wn_neg ha
   rw [this] at h;cases h
theorem tx_tokT:∀ (f:Nat) (l:List UInt8),∀ t∈(tx f l).1,TokT t
 | 0,_,t,h=>by cases h
 | _+1,[],t,h=>by cases h
 | f+1,c::r,t,h=>by
  unfold tx at h
  split at h
  ·cases h
  split at h
  ·exact tx_tokT f r t h
  split at h
  ·rename_i h3
   rcases List.mem_cons.1 h with rfl|h
   ·refine .inl ⟨?_,wn_take _⟩
    rw [wn_pos h3,List.take_succ_cons];simp
   ·exact tx_tokT f _ t h
  split at h
  ·rename_i h4
   rcases List.mem_cons.1 h with rfl|h
   ·exact .inr ⟨c,rfl,h4⟩
   ·exact tx_tokT f r t h
  ·cases h
theorem wn_all:∀ (t:List UInt8) (x:UInt8) (rest:List UInt8),(∀ c∈t,wb c=true)→wb x=false→wn (t++x::rest)=t.length
 | [],x,rest,_,hx=>by
  exact wn_neg (by rw [hx];exact Bool.false_ne_true)
 | a::t,x,rest,h,hx=>by
  rw [List.cons_append,wn_pos (h a (by simp)),wn_all t x rest (fun c hc=>h c (by simp [hc])) hx];rfl
theorem tx_tok {t:List UInt8} (ht:TokT t) (f:Nat) (x:UInt8) (rest:List UInt8) (hx:wb x=false):tx (f+1) (t++x::rest)=(t::(tx f (x::rest)).1,(tx f (x::rest)).2):=by
 rcases ht with ⟨hne,hall⟩|⟨c,rfl,hp⟩
 ·match t,hne with
  | a::t,_ =>
   have ha:=hall a (by simp)
   obtain⟨_,h2,h3⟩:=(byte_cases a).2.2 ha
   have hw:=wn_all (a::t) x rest hall hx
   rw [List.cons_append] at hw ⊢
   rw [tx,h3,if_neg Bool.false_ne_true,h2,if_neg Bool.false_ne_true,if_pos ha,hw]
   have e1:(a::(t++x::rest)).take (a::t).length=a::t:=by rw [← List.cons_append,List.take_left]
   have e2:(a::(t++x::rest)).drop (a::t).length=x::rest:=by rw [← List.cons_append,List.drop_left]
   rw [e1,e2]
 ·obtain⟨h1,h2,h3⟩:=pun_not hp
  rw [List.singleton_append,tx,h1,if_neg Bool.false_ne_true,h2,if_neg Bool.false_ne_true,h3,if_neg Bool.false_ne_true,if_pos hp]
def isW (t:List UInt8):Bool:=match t with|[c]=>!pun c|_=>true
theorem isW_wn {t:List UInt8} (h:TokT t):(isW t=true→wn t=t.length)∧(isW t=false→t.length=1∧wn t≠t.length):=by
 rcases h with ⟨hne,hall⟩|⟨c,rfl,hp⟩
 ·have hw:wn t=t.length:=by
   clear hne
   induction t with
   | nil=>rfl
   | cons a t ih=>rw [wn_pos (hall a (by simp)),ih (fun c hc=>hall c (by simp [hc]))];rfl
  refine⟨fun _=>hw,fun hf=>?_⟩
  unfold isW at hf
  split at hf
  ·rename_i c
   have:=((byte_cases c).2.2 (hall c (by simp))).1
   rw [this] at hf;cases hf
  ·cases hf
 ·refine⟨fun ht=>?_,fun _=>⟨rfl,?_⟩⟩
  ·simp [isW,hp] at ht
  ·have:=(pun_not hp).2.2
   have h0:wn [c]=0:=wn_neg (by rw [this];exact Bool.false_ne_true)
   rw [h0];simp
def shl1 (t:List UInt8):UInt8:=if isW t then 119 else t.headD 0
def shp (ts:List (List UInt8)):List UInt8:=ts.map shl1
theorem shl1_w {t:List UInt8} (h:TokT t):(shl1 t==119)=isW t:=by
 unfold shl1
 cases hw:isW t
 ·rcases h with ⟨hne,hall⟩|⟨c,rfl,hp⟩
  ·have:=(isW_wn (.inl ⟨hne,hall⟩)).2 hw
   exfalso
   match t,hne with
   | [c],_=>simp [isW,((byte_cases c).2.2 (hall c (by simp))).1] at hw
   | _::_::_,_=>simp [isW] at hw
  ·simp only [Bool.false_eq_true,if_false,List.headD_cons]
   have h119:pun 119=false:=by decide
   cases e:c==119
   ·rfl
   ·rw [beq_iff_eq.1 e,h119] at hp;cases hp
 ·simp
def ln:Nat→Nat→List UInt8→List (Nat × Nat)
 | i,fr,[]=>if fr<i then [(fr,i)] else []
 | i,fr,c::r=>if c==10 then (fr,i)::ln (i+1) (i+1) r else ln (i+1) fr r
theorem tk_bad_cases:∀ (f i:Nat) (l:List UInt8),(tk f i l).2=-1∨0≤(tk f i l).2
 | 0,_,_=>.inl rfl
 | _+1,_,[]=>.inl rfl
 | f+1,i,c::r=>by
  unfold tk
  split
  ·exact .inl rfl
  split
  ·exact tk_bad_cases f (i+1) r
  split
  ·exact tk_bad_cases f _ _
  split
  ·exact tk_bad_cases f (i+1) r
  ·exact .inr (by simp)
theorem bad_cases (s:ByteArray):bad s=-1∨0≤bad s:=tk_bad_cases _ _ _
def txts (s:ByteArray):List (List UInt8):=(tks s).map (cut s.data.toList)
theorem size_list (s:ByteArray):s.data.toList.length=s.size:=by rw [Array.length_toList];rfl
theorem txts_tx (s:ByteArray):txts s=(tx s.size s.data.toList).1∧(bad s=-1↔(tx s.size s.data.toList).2=true):=by
 obtain⟨h1,h2⟩:=tk_tx s.data.toList s.size 0 s.data.toList rfl
 refine⟨h1,?_⟩
 rw [← h2]
 show bad s=-1↔bad s<0
 rcases bad_cases s with h|h <;> omega
theorem txts_tok (s:ByteArray):∀ t∈txts s,TokT t:=by
 rw [(txts_tx s).1];exact tx_tokT _ _
theorem ln_len:∀ (l:List UInt8) (i fr:Nat),(ln i fr l).length≤l.length+1
 | [],i,fr=>by unfold ln;split <;> simp
 | c::r,i,fr=>by
  unfold ln
  split
  ·have:=ln_len r (i+1) (i+1);simp only [List.length_cons];omega
  ·have:=ln_len r (i+1) fr;simp only [List.length_cons];omega
theorem tk_len:∀ (f i:Nat) (l:List UInt8),(tk f i l).1.length≤l.length
 | 0,_,_=>by simp [tk]
 | _+1,_,[]=>by simp [tk]
 | f+1,i,c::r=>by
  by_cases h1:cmt c=true
  ·rw [tk_cmt h1];simp
  by_cases h2:spc c=true
  ·rw [tk_spc h2];have:=tk_len f (i+1) r;simp only [List.length_cons];omega
  by_cases h3:wb c=true
  ·rw [tk_word h3]
   have hn:=wn_pos (r:=r) h3
   have:=tk_len f (i+wn (c::r)) ((c::r).drop (wn (c::r)))
   rw [List.length_drop] at this
   simp only [List.length_cons] at this ⊢
   omega
  by_cases h4:pun c=true
  ·rw [tk_pun h4];have:=tk_len f (i+1) r;simp only [List.length_cons];omega
  ·rw [tk_bad (by simpa using h1) (by simpa using h2) (by simpa using h3) (by simpa using h4)];simp
theorem tks_len (s:ByteArray):(tks s).length≤s.size:=by
 have:=tk_len s.size 0 s.data.toList
 rw [size_list] at this;exact this
end Go.Proofs.YtgljoilddjmohaaGreatDoor.L8
end
section
namespace Go.Proofs.YtgljoilddjmohaaGreatDoor.L8
open Go.RowKit L2
attribute [local go_sem] Oper.semAt_some
theorem bnew (w:World) (o:Obj):Below w.heap.size w (w.alloc o):=(Below.refl _ _).alloc (Nat.le_refl _) _
theorem own_below {w w':World} {base e:TypeId} {size:Nat} {v:Value} {n:Nat} {xs:List Value} (h:w.ownsRow base e size v n xs) (hb:Below w.heap.size w w'):w'.ownsRow base e size v n xs:=by
 refine⟨h.1,?_⟩
 rcases h.2 with h|⟨g,cap,cur,hv,hg,hh,r⟩
 ·exact .inl h
 ·exact .inr ⟨g,cap,cur,hv,hg,(hb.block _ (lt_of_block hh)).trans hh,r⟩
theorem own_base {w:World} {base:Nat} {e:TypeId} {size:Nat} {v:Value} {n:Nat} {xs:List Value} (h:w.ownsRow base e size v n xs):∀ k,v.ownBlock=some k→base≤k:=by
 intro k hk
 rcases h.2 with ⟨rfl,_⟩|⟨g,cap,cur,rfl,hb,_⟩
 ·cases hk
 ·simp [Value.ownBlock] at hk
  omega
theorem owns_slice {w:World} {base e:TypeId} {size:Nat} {v:Value} {n:Nat} {xs:List Value} (h:w.ownsRow base e size v n xs):∃ a c,v=.slice a n c:=by
 rcases h.2 with ⟨rfl,rfl⟩|⟨g,cap,cur,rfl,_⟩
 ·exact⟨_,_,rfl⟩
 ·exact⟨_,_,rfl⟩
def puI (r:Int):Bool:=r==44 || r==91 || r==93 || r==43 || r==45 || r==58
def tkC (s:ByteArray) (ts:List (Nat × Nat)):List Value:=ts.flatMap fun p=>[.string (s.extract p.1 p.2),.int .i64 (p.1:Int)]
theorem tkC_snoc (s:ByteArray) (ts:List (Nat × Nat)) (p:Nat × Nat):tkC s (ts++[p])=tkC s ts++[.string (s.extract p.1 p.2),.int .i64 (p.1:Int)]:=by simp [tkC]
theorem ext_list (s:ByteArray) (i j:Nat):(s.extract i j).data.toList=(s.data.toList.drop i).take (j-i):=by
 rw [ByteArray.data_extract,Array.toList_extract,List.extract_eq_take_drop]
theorem ext_rest (s:ByteArray) (i:Nat):(s.extract i s.size).data.toList=s.data.toList.drop i:=by
 rw [ext_list]
 exact List.take_of_length_le (by rw [List.length_drop,Array.length_toList];exact Nat.le_refl _)
end Go.Proofs.YtgljoilddjmohaaGreatDoor.L8
end
section
namespace Go.Proofs.YtgljoilddjmohaaGreatDoor.L8
open Go.RowKit L2
attribute [local go_sem] Oper.semAt_some
abbrev Tks:=List (ByteArray × Int)
def tkX (s:ByteArray) (ts:List (Nat × Nat)):Tks:=ts.map fun p=>(s.extract p.1 p.2,(p.1:Int))
def xC (xs:Tks):List Value:=xs.flatMap fun x=>[.string x.1,.int .i64 x.2]
theorem xC_tk (s:ByteArray) (ts:List (Nat × Nat)):tkC s ts=xC (tkX s ts):=by simp [tkC,xC,tkX,List.flatMap_map]
def Tksat (w:World) (b o:Nat) (xs:Tks):Prop:=∀ j,(h:j<xs.length)→w.cell? ⟨b,o+j*2,none⟩=some (.string xs[j].1)∧w.cell? ⟨b,o+j*2+1,none⟩=some (.int .i64 xs[j].2)
def TksAt (w:World) (v:Value) (xs:Tks):Prop :=
 (∃ b o cap,v=.slice (some ⟨b,o,none⟩) xs.length cap∧xs.length≤cap∧b<w.heap.size∧Tksat w b o xs)∨(xs=[]∧∃ a cap,v=.slice a 0 cap)
theorem Tksat.below {w w':World} {b o:Nat} {xs:Tks} (h:Tksat w b o xs) (hlt:b<w.heap.size) (hb:Below w.heap.size w w'):Tksat w' b o xs :=
 fun j hj=>⟨(hb.cell (by exact hlt)).trans (h j hj).1,(hb.cell (by exact hlt)).trans (h j hj).2⟩
theorem TksAt.below {w w':World} {v:Value} {xs:Tks} (h:TksAt w v xs) (hb:Below w.heap.size w w'):TksAt w' v xs:=by
 rcases h with ⟨b,o,cap,rfl,hcp,hlt,hc⟩|h
 ·exact .inl ⟨b,o,cap,rfl,hcp,Nat.lt_of_lt_of_le hlt hb.size,hc.below hlt hb⟩
 ·exact .inr h
theorem xC_get (xs:Tks) (j:Nat) (h:j<xs.length):(xC xs)[j*2]?=some (.string xs[j].1)∧(xC xs)[j*2+1]?=some (.int .i64 xs[j].2):=by
 induction xs generalizing j with
 | nil=>simp at h
 | cons x r ih =>
  cases j with
  | zero=>simp [xC]
  | succ j =>
   have hj:j<r.length:=by simpa using h
   have:=ih j hj
   have e:xC (x::r)=.string x.1::.int .i64 x.2::xC r:=by simp [xC]
   rw [e,show (j+1)*2=j*2+2 by omega]
   simpa using this
theorem add0 (g j:Nat):(⟨g,0,none⟩:Addr).add j=⟨g,j,none⟩:=by
 unfold Addr.add;split <;> simp_all
theorem own_tks {w:World} {base e:TypeId} {v:Value} {xs:Tks} (h:w.ownsRow base e 2 v xs.length (xC xs)):TksAt w v xs:=by
 rcases h.2 with ⟨rfl,h0⟩|⟨g,cap,cur,rfl,_,hh,hcp,_,_,_⟩
 ·exact .inr ⟨List.eq_nil_of_length_eq_zero h0,_,_,rfl⟩
 ·refine .inl ⟨g,0,cap,rfl,hcp,lt_of_block hh,fun j hj=>?_⟩
  obtain⟨g1,g2⟩:=xC_get xs j hj
  have k1:=h.cells (g:=g) rfl _ _ g1
  have k2:=h.cells (g:=g) rfl _ _ g2
  refine⟨?_,?_⟩
  ·rw [Nat.zero_add];rwa [add0] at k1
  ·rw [Nat.zero_add];rwa [add0] at k2
def txt (xs:Tks):List (List UInt8):=xs.map fun x=>x.1.data.toList
def shB (xs:Tks):ByteArray:=⟨(shp (txt xs)).toArray⟩
theorem isW_one (T:ByteArray):(T.size=1∧∃ c,T.data.toList=[c])∨(T.size≠1∧isW T.data.toList=true):=by
 have h:T.size=T.data.toList.length:=by rw [Array.length_toList];rfl
 match hl:T.data.toList with
 | []=>exact .inr ⟨by rw [h,hl];simp,rfl⟩
 | [c]=>exact .inl ⟨by rw [h,hl];rfl,c,rfl⟩
 | _::_::_=>exact .inr ⟨by rw [h,hl];simp,rfl⟩
theorem take_snoc {α:Type} (xs:List α) (j:Nat) (h:j<xs.length):xs.take (j+1)=xs.take j++[xs[j]]:=by
 rw [List.take_add_one,List.getElem?_eq_getElem h];rfl
def wdX (xs:Tks):List ByteArray:=(xs.filter fun x=>isW x.1.data.toList).map (·.1)
theorem wdX_snoc (xs:Tks) (x:ByteArray × Int):wdX (xs++[x])=wdX xs++(if isW x.1.data.toList then [x.1] else []):=by
 unfold wdX
 rw [List.filter_append,List.map_append]
 by_cases h:isW x.1.data.toList=true
 ·simp [h]
 ·simp [h]
def stC (l:List ByteArray):List Value:=l.map Value.string
theorem stC_snoc (l:List ByteArray) (t:ByteArray):stC (l++[t])=stC l++[.string t]:=by simp [stC]
theorem Tryz.info9:(Tryz.prog.info? 9).map (fun i=>(i.zero,i.size,i.bytes))=some (some (.string ⟨#[]⟩),1,16):=by kernel_rfl
def StP (w:World) (l:List ByteArray) (e:Ending) (w':World):Prop :=
 (∃ v,e=.returned v∧w'.ownsRow w.heap.size 9 1 v l.length (stC l))∧Below w.heap.size w w'
def StAt (w:World) (v:Value) (l:List ByteArray):Prop :=
 (∃ b o cap,v=.slice (some ⟨b,o,none⟩) l.length cap∧b<w.heap.size∧∀ j,j<l.length→w.cell? ⟨b,o+j,none⟩=some (.string (l.getD j ByteArray.empty)))∨(l=[]∧∃ a cap,v=.slice a 0 cap)
theorem StAt.below {w w':World} {v:Value} {l:List ByteArray} (h:StAt w v l) (hb:Below w.heap.size w w'):StAt w' v l:=by
 rcases h with ⟨b,o,cap,rfl,hlt,hc⟩|h
 ·exact .inl ⟨b,o,cap,rfl,Nat.lt_of_lt_of_le hlt hb.size,fun j hj=>(hb.cell (by exact hlt)).trans (hc j hj)⟩
 ·exact .inr h
theorem own_st {w:World} {base e:TypeId} {v:Value} {l:List ByteArray} (h:w.ownsRow base e 1 v l.length (stC l)):StAt w v l:=by
 rcases h.2 with ⟨rfl,h0⟩|⟨g,cap,cur,rfl,_,hh,hcp,_,_,_⟩
 ·exact .inr ⟨List.eq_nil_of_length_eq_zero h0,_,_,rfl⟩
 ·refine .inl ⟨g,0,cap,rfl,lt_of_block hh,fun j hj=>?_⟩
  have k1:=h.cells (g:=g) rfl j (.string (l.getD j ByteArray.empty)) (by simp [stC,List.getD,List.getElem?_eq_getElem hj])
  rw [Nat.zero_add];rwa [add0] at k1
def PT (w:World) (s:ByteArray) (e:Ending) (w':World):Prop :=
 ∃ v at_ er,e=.returned (.tuple #[v,.int .i64 at_,.int .i64 er])∧Below w.heap.size w w' ∧
  ((0≤bad s∧at_=bad s∧er=2∧∃ a cap,v=.slice a 0 cap)∨(bad s=-1∧at_=0∧er=0∧TksAt w' v (tkX s (tks s))))
def PS (w:World) (l:List ByteArray) (e:Ending) (w':World):Prop:=(∃ v,e=.returned v∧StAt w' v l)∧Below w.heap.size w w'
theorem tkX_len (s:ByteArray) (ts:List (Nat × Nat)):(tkX s ts).length=ts.length:=by simp [tkX]
end Go.Proofs.YtgljoilddjmohaaGreatDoor.L8
end
section
namespace Go.Proofs.YtgljoilddjmohaaGreatDoor.L8
open Go.RowKit L2
attribute [local go_sem] Oper.semAt_some
theorem TksAt.form {w:World} {v:Value} {xs:Tks} (h:TksAt w v xs):∃ a cap,v=.slice a xs.length cap:=by
 rcases h with ⟨b,o,cap,rfl,_⟩|⟨rfl,a,cap,rfl⟩
 ·exact⟨_,_,rfl⟩
 ·exact⟨_,_,rfl⟩
theorem TksAt.get {w:World} {a:Option Addr} {n cap:Nat} {xs:Tks} (h:TksAt w (.slice a n cap) xs) (hn:0<n):∃ b o,a=some ⟨b,o,none⟩∧n≤cap∧b<w.heap.size∧xs.length=n∧Tksat w b o xs:=by
 rcases h with ⟨b,o,c,hv,hcp,hb,hx⟩|⟨rfl,a',c,hv⟩
 ·cases hv;exact⟨b,o,rfl,hcp,hb,rfl,hx⟩
 ·cases hv;omega
theorem PT_ok {w w':World} {s:ByteArray} {e:Ending} (hb:bad s=-1) (h:PT w s e w'):∃ a cap,e=.returned (.tuple #[.slice a (tks s).length cap,.int .i64 0,.int .i64 0])∧TksAt w' (.slice a (tks s).length cap) (tkX s (tks s))∧Below w.heap.size w w':=by
 obtain⟨v,at_,er,rfl,hB,⟨h0,_⟩|⟨_,rfl,rfl,hv⟩⟩:=h
 ·omega
 ·obtain⟨a,cap,rfl⟩:=hv.form
  rw [tkX_len] at hv ⊢
  exact⟨a,cap,rfl,hv,hB⟩
theorem PT_bad {w w':World} {s:ByteArray} {e:Ending} (hb:0≤bad s) (h:PT w s e w'):∃ a cap,e=.returned (.tuple #[.slice a 0 cap,.int .i64 (bad s),.int .i64 2])∧Below w.heap.size w w':=by
 obtain⟨v,at_,er,rfl,hB,⟨_,rfl,rfl,a,cap,rfl⟩|⟨h0,_⟩⟩:=h
 ·exact⟨a,cap,rfl,hB⟩
 ·omega
theorem TksAt.cells {w:World} {b o:Nat} {xs:Tks} (h:Tksat w b o xs) (j:Nat) (hj:j<xs.length):∃ T q,xs[j]=(T,q)∧w.cell? ⟨b,o+j*2,none⟩=some (.string T)∧w.cell? ⟨b,o+j*2+1,none⟩=some (.int .i64 q):=by
 obtain⟨h1,h2⟩:=h j hj
 exact⟨xs[j].1,xs[j].2,rfl,h1,h2⟩
theorem bdN {B:Nat} {w w':World} (h:Below B w w') (m:Nat):Below B w (w'.drewN m):=⟨h.1,h.2,h.3,h.4,h.5⟩
theorem cells2 {w:World} {k:Nat} {a b:Value} {t:TypeId} (h:w.heap[k]?=some (.cells #[a,b] t)):w.cell? ⟨k,0,none⟩=some a∧w.cell? ⟨k,1,none⟩=some b:=by
 simp [World.cell?,h]
theorem row_up {w w':World} {k:Nat} {cs:Array Value} {t:TypeId} (h:w.heap[k]?=some (.cells cs t)) (hb:Below w.heap.size w w'):w'.heap[k]?=some (.cells cs t):=(hb.block _ (lt_of_block h)).trans h
end Go.Proofs.YtgljoilddjmohaaGreatDoor.L8
end
section
namespace Go.Proofs.YtgljoilddjmohaaGreatDoor.L8
open Go.RowKit L2
attribute [local go_sem] Oper.semAt_some
def exX (s:ByteArray) (l:List (Nat × Nat)):List ByteArray:=l.map fun p=>s.extract p.1 p.2
def lns (s:ByteArray):List ByteArray:=exX s (ln 0 0 s.data.toList)
end Go.Proofs.YtgljoilddjmohaaGreatDoor.L8
end
