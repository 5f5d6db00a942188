/- Lemmas and walks of L8Tk, L8Rtok, L8Rshp, L9Ln, L2Rep, L5Put, L3Idf: what each theorem states; conditions stand in each theorem. -/
import Derived.Deep.AppendLies
import Derived.Deep.DeepCutAuto
import Derived.Test.YtdgnjhhieemcaaaGreatDoorM6
import Derived.Test.YtdgnjhhieemcaaaGreatDoorM7
import Derived.Lib.EndianBits
set_option maxHeartbeats 2000000
set_option maxRecDepth 100000
section
namespace Go.Proofs.YtdgnjhhieemcaaaGreatDoor.L8
open L2
def cmt (c:UInt8):Bool:=c==59 || c==35
def spc (c:UInt8):Bool:=c==32 || c==9 || c==13
def pun (c:UInt8):Bool:=c==44 || c==91 || c==93 || c==43 || c==45 || c==58
def wb (c:UInt8):Bool:=wch (c.toNat:Int)
theorem byte_cases:∀ c:UInt8,(cmt c=true→spc c=false∧wb c=false∧pun c=false)∧(spc c=true→wb c=false∧pun c=false)∧(wb c=true→pun c=false∧spc c=false∧cmt c=false):=by
 intro c
 have h:∀ n,n<256→(fun c:UInt8=>(cmt c=true→spc c=false∧wb c=false∧pun c=false)∧(spc c=true→wb c=false∧pun c=false)∧(wb c=true→pun c=false∧spc c=false∧cmt c=false)) (UInt8.ofNat n):=by decide +kernel
 have:=h c.toNat c.toNat_lt
 simpa using this
def tk:Nat→Nat→List UInt8→List (Nat × Nat) × Int
 | 0,_,_=>([],-1)
 | _+1,_,[]=>([],-1)
 | f+1,i,c::r =>
  if cmt c then ([],-1)
  else if spc c then tk f (i+1) r
  else if wb c then ((i,i+wn (c::r))::(tk f (i+wn (c::r)) ((c::r).drop (wn (c::r)))).1,(tk f (i+wn (c::r)) ((c::r).drop (wn (c::r)))).2)
  else if pun c then ((i,i+1)::(tk f (i+1) r).1,(tk f (i+1) r).2)
  else ([],(i:Int))
theorem wn_pos {c:UInt8} {r:List UInt8} (h:wb c=true):wn (c::r)=wn r+1:=if_pos h
theorem wn_neg {c:UInt8} {r:List UInt8} (h:¬ wb c=true):wn (c::r)=0:=if_neg h
def tks (s:ByteArray):List (Nat × Nat):=(tk s.size 0 s.data.toList).1
def bad (s:ByteArray):Int:=(tk s.size 0 s.data.toList).2
theorem tk_nil (f i:Nat):tk f i []=([],-1):=by cases f <;> rfl
theorem tk_cmt {f i:Nat} {c:UInt8} {r:List UInt8} (h:cmt c=true):tk (f+1) i (c::r)=([],-1):=by
 unfold tk;rw [if_pos h]
theorem tk_spc {f i:Nat} {c:UInt8} {r:List UInt8} (h:spc c=true):tk (f+1) i (c::r)=tk f (i+1) r:=by
 have hc:cmt c=false:=by
  cases h1:cmt c
  ·rfl
  ·rw [((byte_cases c).1 h1).1] at h;cases h
 rw [tk,hc,if_neg Bool.false_ne_true,if_pos h]
theorem tk_word {f i:Nat} {c:UInt8} {r:List UInt8} (h:wb c=true):tk (f+1) i (c::r)=((i,i+wn (c::r))::(tk f (i+wn (c::r)) ((c::r).drop (wn (c::r)))).1,(tk f (i+wn (c::r)) ((c::r).drop (wn (c::r)))).2):=by
 obtain⟨_,h2,h3⟩:=(byte_cases c).2.2 h
 rw [tk,h3,if_neg Bool.false_ne_true,h2,if_neg Bool.false_ne_true,if_pos h]
theorem pun_not {c:UInt8} (h:pun c=true):cmt c=false∧spc c=false∧wb c=false:=by
 refine⟨?_,?_,?_⟩
 ·cases h1:cmt c
  ·rfl
  ·rw [((byte_cases c).1 h1).2.2] at h;cases h
 ·cases h1:spc c
  ·rfl
  ·rw [((byte_cases c).2.1 h1).2] at h;cases h
 ·cases h1:wb c
  ·rfl
  ·rw [((byte_cases c).2.2 h1).1] at h;cases h
theorem tk_pun {f i:Nat} {c:UInt8} {r:List UInt8} (h:pun c=true):tk (f+1) i (c::r)=((i,i+1)::(tk f (i+1) r).1,(tk f (i+1) r).2):=by
 obtain⟨h1,h2,h3⟩:=pun_not h
 rw [tk,h1,if_neg Bool.false_ne_true,h2,if_neg Bool.false_ne_true,h3,if_neg Bool.false_ne_true,if_pos h]
theorem tk_bad {f i:Nat} {c:UInt8} {r:List UInt8} (h1:cmt c=false) (h2:spc c=false) (h3:wb c=false) (h4:pun c=false):tk (f+1) i (c::r)=([],(i:Int)):=by
 rw [tk,h1,if_neg Bool.false_ne_true,h2,if_neg Bool.false_ne_true,h3,if_neg Bool.false_ne_true,h4,if_neg Bool.false_ne_true]
def tx:Nat→List UInt8→List (List UInt8) × Bool
 | 0,_=>([],true)
 | _+1,[]=>([],true)
 | f+1,c::r =>
  if cmt c then ([],true)
  else if spc c then tx f r
  else if wb c then ((c::r).take (wn (c::r))::(tx f ((c::r).drop (wn (c::r)))).1,(tx f ((c::r).drop (wn (c::r)))).2)
  else if pun c then ([c]::(tx f r).1,(tx f r).2)
  else ([],false)
def cut (l:List UInt8) (p:Nat × Nat):List UInt8:=(l.drop p.1).take (p.2-p.1)
theorem cut_word {L:List UInt8} {i:Nat} {c:UInt8} {r:List UInt8} (h:L.drop i=c::r):cut L (i,i+wn (c::r))=(c::r).take (wn (c::r)):=by
 show (L.drop i).take (i+wn (c::r)-i)=_
 rw [h,Nat.add_sub_cancel_left]
theorem cut_one {L:List UInt8} {i:Nat} {c:UInt8} {r:List UInt8} (h:L.drop i=c::r):cut L (i,i+1)=[c]:=by
 show (L.drop i).take (i+1-i)=_
 rw [h,Nat.add_sub_cancel_left];rfl
theorem drop_more {L:List UInt8} {i n:Nat} {l:List UInt8} (h:L.drop i=l):L.drop (i+n)=l.drop n:=by
 rw [← h,List.drop_drop]
theorem tk_tx (L:List UInt8):∀ (f i:Nat) (l:List UInt8),L.drop i=l→(tk f i l).1.map (cut L)=(tx f l).1∧((tk f i l).2<0↔(tx f l).2=true)
 | 0,i,l,_=>⟨rfl,by simp [tk,tx]⟩
 | f+1,i,[],_=>⟨rfl,by simp [tk,tx]⟩
 | f+1,i,c::r,h=>by
  by_cases h1:cmt c=true
  ·rw [tk_cmt h1,tx,if_pos h1];exact⟨rfl,by simp⟩
  have h1':cmt c=false:=by simpa using h1
  by_cases h2:spc c=true
  ·rw [tk_spc h2,tx,if_neg h1,if_pos h2]
   exact tk_tx L f (i+1) r (drop_more (n:=1) h)
  by_cases h3:wb c=true
  ·rw [tk_word h3,tx,if_neg h1,if_neg h2,if_pos h3]
   have ih:=tk_tx L f (i+wn (c::r)) _ (drop_more h)
   exact⟨by simp only [List.map_cons];rw [cut_word h,ih.1],ih.2⟩
  by_cases h4:pun c=true
  ·rw [tk_pun h4,tx,if_neg h1,if_neg h2,if_neg h3,if_pos h4]
   have ih:=tk_tx L f (i+1) r (drop_more (n:=1) h)
   exact⟨by simp only [List.map_cons];rw [cut_one h,ih.1],ih.2⟩
  ·rw [tk_bad h1' (by simpa using h2) (by simpa using h3) (by simpa using h4),tx,if_neg h1,if_neg h2,if_neg h3,if_neg h4]
   exact⟨rfl,by simp⟩
def TokT (t:List UInt8):Prop:=(t≠[]∧∀ c∈t,wb c=true)∨∃ c,t=[c]∧pun c=true
theorem wn_take:∀ l:List UInt8,∀ c∈l.take (wn l),wb c=true
 | [],c,h=>by cases h
 | a::r,c,h=>by
  by_cases ha:wb a=true
  ·rw [wn_pos ha,List.take_succ_cons] at h
   rcases List.mem_cons.1 h with rfl|h
   ·exact ha
   ·exact wn_take r c h
  ·have:wn (a::r)=0:=wn_neg ha
   rw [this] at h;cases h
theorem tx_tokT:∀ (f:Nat) (l:List UInt8),∀ t∈(tx f l).1,TokT t
 | 0,_,t,h=>by cases h
 | _+1,[],t,h=>by cases h
 | f+1,c::r,t,h=>by
  unfold tx at h
  split at h
  ·cases h
  split at h
  ·exact tx_tokT f r t h
  split at h
  ·rename_i h3
   rcases List.mem_cons.1 h with rfl|h
   ·refine .inl ⟨?_,wn_take _⟩
    rw [wn_pos h3,List.take_succ_cons];simp
   ·exact tx_tokT f _ t h
  split at h
  ·rename_i h4
   rcases List.mem_cons.1 h with rfl|h
   ·exact .inr ⟨c,rfl,h4⟩
   ·exact tx_tokT f r t h
  ·cases h
def isW (t:List UInt8):Bool:=match t with|[c]=>!pun c|_=>true
theorem isW_wn {t:List UInt8} (h:TokT t):(isW t=true→wn t=t.length)∧(isW t=false→t.length=1∧wn t≠t.length):=by
 rcases h with ⟨hne,hall⟩|⟨c,rfl,hp⟩
 ·have hw:wn t=t.length:=by
   clear hne
   induction t with
   | nil=>rfl
   | cons a t ih=>rw [wn_pos (hall a (by simp)),ih (fun c hc=>hall c (by simp [hc]))];rfl
  refine⟨fun _=>hw,fun hf=>?_⟩
  unfold isW at hf
  split at hf
  ·rename_i c
   have:=((byte_cases c).2.2 (hall c (by simp))).1
   rw [this] at hf;cases hf
  ·cases hf
 ·refine⟨fun ht=>?_,fun _=>⟨rfl,?_⟩⟩
  ·simp [isW,hp] at ht
  ·have:=(pun_not hp).2.2
   have h0:wn [c]=0:=wn_neg (by rw [this];exact Bool.false_ne_true)
   rw [h0];simp
def shl1 (t:List UInt8):UInt8:=if isW t then 119 else t.headD 0
def shp (ts:List (List UInt8)):List UInt8:=ts.map shl1
theorem shl1_w {t:List UInt8} (h:TokT t):(shl1 t==119)=isW t:=by
 unfold shl1
 cases hw:isW t
 ·rcases h with ⟨hne,hall⟩|⟨c,rfl,hp⟩
  ·have:=(isW_wn (.inl ⟨hne,hall⟩)).2 hw
   exfalso
   match t,hne with
   | [c],_=>simp [isW,((byte_cases c).2.2 (hall c (by simp))).1] at hw
   | _::_::_,_=>simp [isW] at hw
  ·simp only [Bool.false_eq_true,if_false,List.headD_cons]
   have h119:pun 119=false:=by decide
   cases e:c==119
   ·rfl
   ·rw [beq_iff_eq.1 e,h119] at hp;cases hp
 ·simp
def ln:Nat→Nat→List UInt8→List (Nat × Nat)
 | i,fr,[]=>if fr<i then [(fr,i)] else []
 | i,fr,c::r=>if c==10 then (fr,i)::ln (i+1) (i+1) r else ln (i+1) fr r
theorem tk_bad_cases:∀ (f i:Nat) (l:List UInt8),(tk f i l).2=-1∨0≤(tk f i l).2
 | 0,_,_=>.inl rfl
 | _+1,_,[]=>.inl rfl
 | f+1,i,c::r=>by
  unfold tk
  split
  ·exact .inl rfl
  split
  ·exact tk_bad_cases f (i+1) r
  split
  ·exact tk_bad_cases f _ _
  split
  ·exact tk_bad_cases f (i+1) r
  ·exact .inr (by simp)
theorem bad_cases (s:ByteArray):bad s=-1∨0≤bad s:=tk_bad_cases _ _ _
def txts (s:ByteArray):List (List UInt8):=(tks s).map (cut s.data.toList)
theorem size_list (s:ByteArray):s.data.toList.length=s.size:=by rw [Array.length_toList];rfl
theorem txts_tx (s:ByteArray):txts s=(tx s.size s.data.toList).1∧(bad s=-1↔(tx s.size s.data.toList).2=true):=by
 obtain⟨h1,h2⟩:=tk_tx s.data.toList s.size 0 s.data.toList rfl
 refine⟨h1,?_⟩
 rw [← h2]
 show bad s=-1↔bad s<0
 rcases bad_cases s with h|h <;> omega
theorem txts_tok (s:ByteArray):∀ t∈txts s,TokT t:=by
 rw [(txts_tx s).1];exact tx_tokT _ _
theorem ln_len:∀ (l:List UInt8) (i fr:Nat),(ln i fr l).length≤l.length+1
 | [],i,fr=>by unfold ln;split <;> simp
 | c::r,i,fr=>by
  unfold ln
  split
  ·have:=ln_len r (i+1) (i+1);simp only [List.length_cons];omega
  ·have:=ln_len r (i+1) fr;simp only [List.length_cons];omega
theorem tk_len:∀ (f i:Nat) (l:List UInt8),(tk f i l).1.length≤l.length
 | 0,_,_=>by simp [tk]
 | _+1,_,[]=>by simp [tk]
 | f+1,i,c::r=>by
  by_cases h1:cmt c=true
  ·rw [tk_cmt h1];simp
  by_cases h2:spc c=true
  ·rw [tk_spc h2];have:=tk_len f (i+1) r;simp only [List.length_cons];omega
  by_cases h3:wb c=true
  ·rw [tk_word h3]
   have hn:=wn_pos (r:=r) h3
   have:=tk_len f (i+wn (c::r)) ((c::r).drop (wn (c::r)))
   rw [List.length_drop] at this
   simp only [List.length_cons] at this ⊢
   omega
  by_cases h4:pun c=true
  ·rw [tk_pun h4];have:=tk_len f (i+1) r;simp only [List.length_cons];omega
  ·rw [tk_bad (by simpa using h1) (by simpa using h2) (by simpa using h3) (by simpa using h4)];simp
theorem tks_len (s:ByteArray):(tks s).length≤s.size:=by
 have:=tk_len s.size 0 s.data.toList
 rw [size_list] at this;exact this
end Go.Proofs.YtdgnjhhieemcaaaGreatDoor.L8
end
section
namespace Go.Proofs.YtdgnjhhieemcaaaGreatDoor.L8
open Go.RowKit L2
attribute [local go_sem] Oper.semAt_some
theorem bnew (w:World) (o:Obj):Below w.heap.size w (w.alloc o):=(Below.refl _ _).alloc (Nat.le_refl _) _
theorem own_below {w w':World} {base e:TypeId} {size:Nat} {v:Value} {n:Nat} {xs:List Value} (h:w.ownsRow base e size v n xs) (hb:Below w.heap.size w w'):w'.ownsRow base e size v n xs:=by
 refine⟨h.1,?_⟩
 rcases h.2 with h|⟨g,cap,cur,hv,hg,hh,r⟩
 ·exact .inl h
 ·exact .inr ⟨g,cap,cur,hv,hg,(hb.block _ (lt_of_block hh)).trans hh,r⟩
theorem own_base {w:World} {base:Nat} {e:TypeId} {size:Nat} {v:Value} {n:Nat} {xs:List Value} (h:w.ownsRow base e size v n xs):∀ k,v.ownBlock=some k→base≤k:=by
 intro k hk
 rcases h.2 with ⟨rfl,_⟩|⟨g,cap,cur,rfl,hb,_⟩
 ·cases hk
 ·simp [Value.ownBlock] at hk
  omega
theorem owns_slice {w:World} {base e:TypeId} {size:Nat} {v:Value} {n:Nat} {xs:List Value} (h:w.ownsRow base e size v n xs):∃ a c,v=.slice a n c:=by
 rcases h.2 with ⟨rfl,rfl⟩|⟨g,cap,cur,rfl,_⟩
 ·exact⟨_,_,rfl⟩
 ·exact⟨_,_,rfl⟩
def puI (r:Int):Bool:=r==44 || r==91 || r==93 || r==43 || r==45 || r==58
def tkC (s:ByteArray) (ts:List (Nat × Nat)):List Value:=ts.flatMap fun p=>[.string (s.extract p.1 p.2),.int .i64 (p.1:Int)]
theorem tkC_snoc (s:ByteArray) (ts:List (Nat × Nat)) (p:Nat × Nat):tkC s (ts++[p])=tkC s ts++[.string (s.extract p.1 p.2),.int .i64 (p.1:Int)]:=by simp [tkC]
theorem ext_list (s:ByteArray) (i j:Nat):(s.extract i j).data.toList=(s.data.toList.drop i).take (j-i):=by
 rw [ByteArray.data_extract,Array.toList_extract,List.extract_eq_take_drop]
theorem ext_rest (s:ByteArray) (i:Nat):(s.extract i s.size).data.toList=s.data.toList.drop i:=by
 rw [ext_list]
 exact List.take_of_length_le (by rw [List.length_drop,Array.length_toList];exact Nat.le_refl _)
abbrev Tks:=List (ByteArray × Int)
def tkX (s:ByteArray) (ts:List (Nat × Nat)):Tks:=ts.map fun p=>(s.extract p.1 p.2,(p.1:Int))
def xC (xs:Tks):List Value:=xs.flatMap fun x=>[.string x.1,.int .i64 x.2]
theorem xC_tk (s:ByteArray) (ts:List (Nat × Nat)):tkC s ts=xC (tkX s ts):=by simp [tkC,xC,tkX,List.flatMap_map]
def Tksat (w:World) (b o:Nat) (xs:Tks):Prop:=∀ j,(h:j<xs.length)→w.cell? ⟨b,o+j*2,none⟩=some (.string xs[j].1)∧w.cell? ⟨b,o+j*2+1,none⟩=some (.int .i64 xs[j].2)
def TksAt (w:World) (v:Value) (xs:Tks):Prop :=
 (∃ b o cap,v=.slice (some ⟨b,o,none⟩) xs.length cap∧xs.length≤cap∧b<w.heap.size∧Tksat w b o xs)∨(xs=[]∧∃ a cap,v=.slice a 0 cap)
theorem Tksat.below {w w':World} {b o:Nat} {xs:Tks} (h:Tksat w b o xs) (hlt:b<w.heap.size) (hb:Below w.heap.size w w'):Tksat w' b o xs :=
 fun j hj=>⟨(hb.cell (by exact hlt)).trans (h j hj).1,(hb.cell (by exact hlt)).trans (h j hj).2⟩
theorem TksAt.below {w w':World} {v:Value} {xs:Tks} (h:TksAt w v xs) (hb:Below w.heap.size w w'):TksAt w' v xs:=by
 rcases h with ⟨b,o,cap,rfl,hcp,hlt,hc⟩|h
 ·exact .inl ⟨b,o,cap,rfl,hcp,Nat.lt_of_lt_of_le hlt hb.size,hc.below hlt hb⟩
 ·exact .inr h
theorem xC_get (xs:Tks) (j:Nat) (h:j<xs.length):(xC xs)[j*2]?=some (.string xs[j].1)∧(xC xs)[j*2+1]?=some (.int .i64 xs[j].2):=by
 induction xs generalizing j with
 | nil=>simp at h
 | cons x r ih =>
  cases j with
  | zero=>simp [xC]
  | succ j =>
   have hj:j<r.length:=by simpa using h
   have:=ih j hj
   have e:xC (x::r)=.string x.1::.int .i64 x.2::xC r:=by simp [xC]
   rw [e,show (j+1)*2=j*2+2 by omega]
   simpa using this
theorem add0 (g j:Nat):(⟨g,0,none⟩:Addr).add j=⟨g,j,none⟩:=by
 unfold Addr.add;split <;> simp_all
theorem own_tks {w:World} {base e:TypeId} {v:Value} {xs:Tks} (h:w.ownsRow base e 2 v xs.length (xC xs)):TksAt w v xs:=by
 rcases h.2 with ⟨rfl,h0⟩|⟨g,cap,cur,rfl,_,hh,hcp,_,_,_⟩
 ·exact .inr ⟨List.eq_nil_of_length_eq_zero h0,_,_,rfl⟩
 ·refine .inl ⟨g,0,cap,rfl,hcp,lt_of_block hh,fun j hj=>?_⟩
  obtain⟨g1,g2⟩:=xC_get xs j hj
  have k1:=h.cells (g:=g) rfl _ _ g1
  have k2:=h.cells (g:=g) rfl _ _ g2
  refine⟨?_,?_⟩
  ·rw [Nat.zero_add];rwa [add0] at k1
  ·rw [Nat.zero_add];rwa [add0] at k2
def txt (xs:Tks):List (List UInt8):=xs.map fun x=>x.1.data.toList
def shB (xs:Tks):ByteArray:=⟨(shp (txt xs)).toArray⟩
theorem isW_one (T:ByteArray):(T.size=1∧∃ c,T.data.toList=[c])∨(T.size≠1∧isW T.data.toList=true):=by
 have h:T.size=T.data.toList.length:=by rw [Array.length_toList];rfl
 match hl:T.data.toList with
 | []=>exact .inr ⟨by rw [h,hl];simp,rfl⟩
 | [c]=>exact .inl ⟨by rw [h,hl];rfl,c,rfl⟩
 | _::_::_=>exact .inr ⟨by rw [h,hl];simp,rfl⟩
theorem take_snoc {α:Type} (xs:List α) (j:Nat) (h:j<xs.length):xs.take (j+1)=xs.take j++[xs[j]]:=by
 rw [List.take_add_one,List.getElem?_eq_getElem h];rfl
def wdX (xs:Tks):List ByteArray:=(xs.filter fun x=>isW x.1.data.toList).map (·.1)
theorem wdX_snoc (xs:Tks) (x:ByteArray × Int):wdX (xs++[x])=wdX xs++(if isW x.1.data.toList then [x.1] else []):=by
 unfold wdX
 rw [List.filter_append,List.map_append]
 by_cases h:isW x.1.data.toList=true
 ·simp [h]
 ·simp [h]
def stC (l:List ByteArray):List Value:=l.map Value.string
theorem stC_snoc (l:List ByteArray) (t:ByteArray):stC (l++[t])=stC l++[.string t]:=by simp [stC]
theorem Tryz.info9:(Tryz.prog.info? 9).map (fun i=>(i.zero,i.size,i.bytes))=some (some (.string ⟨#[]⟩),1,16):=by kernel_rfl
def StP (w:World) (l:List ByteArray) (e:Ending) (w':World):Prop :=
 (∃ v,e=.returned v∧w'.ownsRow w.heap.size 9 1 v l.length (stC l))∧Below w.heap.size w w'
def StAt (w:World) (v:Value) (l:List ByteArray):Prop :=
 (∃ b o cap,v=.slice (some ⟨b,o,none⟩) l.length cap∧b<w.heap.size∧∀ j,j<l.length→w.cell? ⟨b,o+j,none⟩=some (.string (l.getD j ByteArray.empty)))∨(l=[]∧∃ a cap,v=.slice a 0 cap)
theorem StAt.below {w w':World} {v:Value} {l:List ByteArray} (h:StAt w v l) (hb:Below w.heap.size w w'):StAt w' v l:=by
 rcases h with ⟨b,o,cap,rfl,hlt,hc⟩|h
 ·exact .inl ⟨b,o,cap,rfl,Nat.lt_of_lt_of_le hlt hb.size,fun j hj=>(hb.cell (by exact hlt)).trans (hc j hj)⟩
 ·exact .inr h
theorem own_st {w:World} {base e:TypeId} {v:Value} {l:List ByteArray} (h:w.ownsRow base e 1 v l.length (stC l)):StAt w v l:=by
 rcases h.2 with ⟨rfl,h0⟩|⟨g,cap,cur,rfl,_,hh,hcp,_,_,_⟩
 ·exact .inr ⟨List.eq_nil_of_length_eq_zero h0,_,_,rfl⟩
 ·refine .inl ⟨g,0,cap,rfl,lt_of_block hh,fun j hj=>?_⟩
  have k1:=h.cells (g:=g) rfl j (.string (l.getD j ByteArray.empty)) (by simp [stC,List.getD,List.getElem?_eq_getElem hj])
  rw [Nat.zero_add];rwa [add0] at k1
def PT (w:World) (s:ByteArray) (e:Ending) (w':World):Prop :=
 ∃ v at_ er,e=.returned (.tuple #[v,.int .i64 at_,.int .i64 er])∧Below w.heap.size w w' ∧
  ((0≤bad s∧at_=bad s∧er=2∧∃ a cap,v=.slice a 0 cap)∨(bad s=-1∧at_=0∧er=0∧TksAt w' v (tkX s (tks s))))
def PS (w:World) (l:List ByteArray) (e:Ending) (w':World):Prop:=(∃ v,e=.returned v∧StAt w' v l)∧Below w.heap.size w w'
theorem tkX_len (s:ByteArray) (ts:List (Nat × Nat)):(tkX s ts).length=ts.length:=by simp [tkX]
end Go.Proofs.YtdgnjhhieemcaaaGreatDoor.L8
end
section
namespace Go.Proofs.YtdgnjhhieemcaaaGreatDoor.L9
structure Ins where
 op:Int
 reg:Bool
 dst:Int
 src:Int
 off:Int
 imm:Int
structure Df where
 nm:ByteArray
 key:Int
 val:Int
 ent:Int
structure Rs where
 kind:Int
 d:Df
 x:Ins
 tg:ByteArray
 mp:ByteArray
def eB:ByteArray:=⟨#[]⟩
def Ins.z:Ins:=⟨0,false,0,0,0,0⟩
def Df.z:Df:=⟨⟨#[]⟩,0,0,0⟩
def tCom:ByteArray:=⟨#[44]⟩
def tOpn:ByteArray:=⟨#[91]⟩
def tShu:ByteArray:=⟨#[93]⟩
def tPlu:ByteArray:=⟨#[43]⟩
def tMin:ByteArray:=⟨#[45]⟩
def tCol:ByteArray:=⟨#[58]⟩
def brk (t:ByteArray):Bool:=decide (t=tCom) || decide (t=tOpn) || decide (t=tShu) || decide (t=tPlu) || decide (t=tMin)
def fls (st:List ByteArray × ByteArray):List ByteArray:=if st.2.size=0 then st.1 else st.1++[st.2]
def spS (st:List ByteArray × ByteArray) (t:ByteArray):List ByteArray × ByteArray:=if brk t then (fls st,if t=tMin then tMin else eB) else (st.1,st.2++t)
def spF (ts:List ByteArray):List ByteArray × ByteArray:=ts.foldl spS ([],eB)
def spl (ts:List ByteArray):List ByteArray:=fls (spF ts)
def joi (ts:List ByteArray):ByteArray:=ts.foldl (·++·) eB
def offAt (m:ByteArray) (i:Nat):Bool:=decide (m.data.toList.getD i 0=43) || (decide (m.data.toList.getD i 0=45) && decide (0<i) && decide (m.data.toList.getD (i-1) 0≠44))
def offV (m:ByteArray):Bool:=(List.range (m.size-1)).any (offAt m)
def reV (s:ByteArray):Int × Int:=if (L2.rg s).2 then (((L2.rg s).1:Int),0) else (0,5)
def naV (s:ByteArray):Int:=if L2.vd s then 0 else 7
def nuV (s:ByteArray) (b:Int):Int × Int:=L1.ps s.data.toList b
def heV (s:ByteArray):Int:=if s=⟨#[108,111,111,107,117,112]⟩ then 1 else if s=⟨#[117,112,100,97,116,101]⟩ then 2 else if s=⟨#[100,101,108,101,116,101]⟩ then 3 else 0
def fiV (s:ByteArray):Int:=match (List.range 86).find? (fun k=>decide (L3.nm k=s)) with
 | some k=>(k:Int)
 | none=>-1
def g0 (l:List ByteArray) (i:Nat):ByteArray:=l.getD i eB
def meV (l:List ByteArray) (off:Bool):Int × Int × List ByteArray × Int :=
 if (reV (g0 l 0)).2≠0∨off=false then ((reV (g0 l 0)).1,0,l.drop 1,(reV (g0 l 0)).2)
 else ((reV (g0 l 0)).1,(nuV (g0 l 1) 16).1,l.drop 2,(nuV (g0 l 1) 16).2)
def seV (x:Ins) (s:ByteArray):Ins × Int:=if (L2.rg s).2 then ({ x with reg:=true,src:=((L2.rg s).1:Int) },0) else ({ x with imm:=(nuV s 32).1 },(nuV s 32).2)
def opV (f op:Int) (l:List ByteArray) (off:Bool):Rs × Int :=
 let r:Rs:=⟨2,Df.z,⟨op,false,0,0,0,0⟩,eB,eB⟩
 if f=3 then ({ r with tg:=g0 l 0 },naV (g0 l 0))
 else if f=5 then ({ r with x:={ r.x with imm:=heV (g0 l 0) } },if heV (g0 l 0)=0 then 7 else 0)
 else if f=6 then (r,0)
 else if f=8∨f=9 then
  let m:=meV l off
  let r1:Rs:={ r with x:={ r.x with dst:=m.1,off:=m.2.1 } }
  if m.2.2.2≠0 then (r1,m.2.2.2)
  else if f=9 then ({ r1 with x:={ r1.x with src:=(reV (g0 m.2.2.1 0)).1 } },(reV (g0 m.2.2.1 0)).2)
  else ({ r1 with x:={ r1.x with imm:=(nuV (g0 m.2.2.1 0) 32).1 } },(nuV (g0 m.2.2.1 0) 32).2)
 else
  let r2:Rs:={ r with x:={ r.x with dst:=(reV (g0 l 0)).1 } }
  if (reV (g0 l 0)).2≠0 then (r2,(reV (g0 l 0)).2)
  else if f=0 then ({ r2 with x:=(seV r2.x (g0 l 1)).1 },(seV r2.x (g0 l 1)).2)
  else if f=4 then
   if (seV r2.x (g0 l 1)).2=0 then ({ r2 with x:=(seV r2.x (g0 l 1)).1,tg:=g0 l 2 },naV (g0 l 2))
   else ({ r2 with x:=(seV r2.x (g0 l 1)).1 },(seV r2.x (g0 l 1)).2)
  else if f=2 then ({ r2 with x:={ r2.x with src:=(reV (g0 l 1)).1 } },(reV (g0 l 1)).2)
  else if f=7 then
   let m:=meV (l.drop 1) off
   ({ r2 with x:={ r2.x with src:=m.1,off:=m.2.1 } },m.2.2.2)
  else if f=10 then ({ r2 with x:={ r2.x with imm:=(nuV (g0 l 1) 64).1 } },(nuV (g0 l 1) 64).2)
  else if f=11 then ({ r2 with mp:=g0 l 1 },naV (g0 l 1))
  else (r2,0)
def sww:ByteArray:=⟨#[119,44,119]⟩
def swmw:ByteArray:=⟨#[119,44,45,119]⟩
def sw:ByteArray:=⟨#[119]⟩
def swww:ByteArray:=⟨#[119,44,119,44,119]⟩
def swmww:ByteArray:=⟨#[119,44,45,119,44,119]⟩
def swM0:ByteArray:=⟨#[119,44,91,119,93]⟩
def swMp:ByteArray:=⟨#[119,44,91,119,43,119,93]⟩
def swMm:ByteArray:=⟨#[119,44,91,119,45,119,93]⟩
def sM0w:ByteArray:=⟨#[91,119,93,44,119]⟩
def sMpw:ByteArray:=⟨#[91,119,43,119,93,44,119]⟩
def sMmw:ByteArray:=⟨#[91,119,45,119,93,44,119]⟩
def sM0mw:ByteArray:=⟨#[91,119,93,44,45,119]⟩
def sMpmw:ByteArray:=⟨#[91,119,43,119,93,44,45,119]⟩
def sMmmw:ByteArray:=⟨#[91,119,45,119,93,44,45,119]⟩
def shV (f:Int):List ByteArray :=
 if f=0∨f=10 then [sww,swmw] else if f=2∨f=11 then [sww] else if f=1∨f=3∨f=5 then [sw] else if f=4 then [swww,swmww]
 else if f=7 then [swM0,swMp,swMm] else if f=8 then [sM0w,sMpw,sMmw,sM0mw,sMpmw,sMmmw] else if f=9 then [sM0w,sMpw,sMmw] else [eB]
def wdB (t:ByteArray):Bool:=L8.isW t.data.toList
def shpB (ts:List ByteArray):ByteArray:=⟨(L8.shp (ts.map (·.data.toList))).toArray⟩
def sizV (d:Df):Bool:=decide (1≤d.key) && decide (d.key≤64) && decide (1≤d.val) && decide (d.val≤256) && decide (1≤d.ent) && decide (d.ent≤1024)
def nuE (s t u:ByteArray):Int:=if (nuV s 32).2≠0 then (nuV s 32).2 else if (nuV t 32).2≠0 then (nuV t 32).2 else (nuV u 32).2
def dfV (ts:List ByteArray):Df:=⟨g0 ts 0,(nuV (g0 ts 1) 32).1,(nuV (g0 ts 2) 32).1,(nuV (g0 ts 3) 32).1⟩
def lab:List ByteArray→List ByteArray→Int × List ByteArray × List ByteArray
 | acc,a::b::r=>if wdB a=true∧b=tCol then (if L2.vd a then lab (acc++[a]) r else (7,acc,a::b::r)) else (0,acc,a::b::r)
 | acc,[a]=>(0,acc,[a])
 | acc,[]=>(0,acc,[])
def mapT:ByteArray:=⟨#[109,97,112]⟩
def txB (s:ByteArray):List ByteArray:=(L8.tkX s (L8.tks s)).map (·.1)
end Go.Proofs.YtdgnjhhieemcaaaGreatDoor.L9
end
section
namespace Go.Proofs.YtdgnjhhieemcaaaGreatDoor.L2
open Go.RowKit Go.Maps
theorem bool_inv {H:Type} {P:Program} {e:TypeId} (he:P.underlying e=some .bool) {v:Value} {z:DataW H × List MemPlace} (h:plainElem P e v=some z):∃ x,v=.bool x∧z=(.lit (.bool x),[]):=by
 unfold plainElem at h
 rw [he] at h
 cases v <;> simp at h
 exact⟨_,rfl,h.symm⟩
theorem wpList_look_bool {H:Type} {P:Program} (w:World) {ops:Array Oper} {rest:List Oper} {o:Oper} {a:Act} {Q:Exit→Act→World→Prop}
  (hg:o.guard=none) (m x:Operand) (t:TypeId) (hop:o.op=Op.lookup t m x false)
  (k e:TypeId) (K:Keyed P k) (ht:P.underlying t=some (.map k e)) (he:P.underlying e=some .bool) (hz:(zeroValue e).run P w=.ok (.bool false) w) (b n:Nat) (D:DataW H)
  (hm:a.eval m=.map (some b)) (hown:w.ownsMap P k (plainElem P e) b n D) (key:Value) (kl:Lit) (hx:a.eval x=key) (hkey:keyOf P k key=some kl)
  (c:Bool) (hat:D.atKey kl (.lit (.bool false))=.lit (.bool c))
  (hK:wpList P ops Q rest (a.put o.dst (.bool c)) w) :
  wpList P ops Q (o::rest) a w:=by
 refine wpList_plain hg fun K' hK'=>?_
 obtain⟨v,ps,hrun,hv⟩:=hown.lookup K ht hz (plainElem_bool he false) hkey
 rw [hat] at hv
 obtain⟨y,rfl,hy⟩:=bool_inv he hv
 simp only [Prod.mk.injEq,DataW.lit.injEq,Lit.bool.injEq] at hy
 obtain⟨rfl,_⟩:=hy
 unfold Oper.wp
 simp [execOp,hop,hm,hx,hrun,Result.andThen]
 exact hK' _ _ hK
section
variable {H:Type} (u z:DataW H) (k:Lit)
theorem fold_out:∀ (acc:List Lit) (m:DataW H),¬ k∈acc→(acc.foldl (fun m x=>m.put x u) m).atKey k z=m.atKey k z
 | [],_,_=>rfl
 | x::r,m,h=>by
  rw [List.foldl_cons,fold_out r _ (fun h'=>h (by simp [h'])),atKey_put_other (fun e=>h (by simp [e]))]
theorem fold_in:∀ (acc:List Lit) (m:DataW H),IsMap m→(∀ x∈acc,WideAt.IsKeyLit x)→k∈acc→(acc.foldl (fun m x=>m.put x u) m).atKey k z=u
 | x::r,m,hm,ha,h=>by
  rw [List.foldl_cons]
  by_cases hr:k∈r
  ·exact fold_in r _ (hm.put x u) (fun y hy=>ha y (by simp [hy])) hr
  ·obtain rfl:k=x:=by
    rcases List.mem_cons.1 h with h|h
    ·exact h
    ·exact absurd h hr
   rw [fold_out _ _ _ r _ hr,atKey_put_same hm (ha k (by simp))]
end
def txt (s:ByteArray):Lit:=.string s.data.toList
theorem txt_inj {a b:ByteArray} (h:txt a=txt b):a=b:=by
 cases a;cases b
 simp only [txt,Lit.string.injEq] at h
 rw [Array.toList_inj.1 h]
def on (l:List ByteArray) (x:ByteArray):Bool:=l.any fun s=>decide (s=x)
theorem on_mem (l:List ByteArray) (x:ByteArray):on l x=true↔x∈l:=by simp [on]
def rpFrom:Nat→Nat→List ByteArray→Int
 | 0,_,_=>-1
 | n+1,k,ss=>if on (ss.take k) (ss.getD k ByteArray.empty) then (k:Int) else rpFrom n (k+1) ss
def rp (ss:List ByteArray):Int:=rpFrom ss.length 0 ss
theorem law9:Keyed Tryz.prog 9:=string_keyed Tryz.underlying9
end Go.Proofs.YtdgnjhhieemcaaaGreatDoor.L2
end
section
namespace Go.Proofs.YtdgnjhhieemcaaaGreatDoor.L5
open Go.RowKit L3 L1
theorem put16_at (k o cap:Nat) (x a b:Int) (w:World) (cs:Array Value) (hk:w.heap[k]?=some (.cells cs 5)) (ho:o+2≤cs.size) (ha:x % 256=a) (hb:x / 256 % 256=b) :
  Calls Tryz.prog 169 #[.slice (some ⟨k,o,none⟩) 2 cap,.int .i16 x] w fun e w'=>e=.returned (.tuple #[])∧w'=(w.setCell ⟨k,o,none⟩ (.int .u8 a)).setCell ⟨k,o+1,none⟩ (.int .u8 b):=by
 have c0:w.cell? ⟨k,o,none⟩=some (cs.getD (o) undef):=by simp [World.cell?,hk,show o<cs.size by omega]
 have f0:w.frozen? ⟨k,o,none⟩=false:=by simp [World.frozen?,hk]
 generalize cs.getD (o) undef=u0 at c0
 have c1:w.cell? ⟨k,o+1,none⟩=some (cs.getD (o+1) undef):=by simp [World.cell?,hk,show o+1<cs.size by omega]
 have f1:w.frozen? ⟨k,o+1,none⟩=false:=by simp [World.frozen?,hk]
 generalize cs.getD (o+1) undef=u1 at c1
 have Ha:=Lib.hid ha
 have Hb:=Lib.hid hb
 clear hk ho ha hb
 go_enter Tryz.func169,Tryz.ntmps169
 go_wp2
 refine wp_loop_rounds 3 ?_
 repeat (rw [rounds_succ];go_wp2)
 go_end0
 exact⟨rfl,by rw [Ha.out,Hb.out]⟩
theorem put32_at (k o cap:Nat) (x a b c d:Int) (w:World) (cs:Array Value) (hk:w.heap[k]?=some (.cells cs 5)) (ho:o+4≤cs.size) (ha:x % 256=a) (hb:x / 256 % 256=b) (hc:x / 256 / 256 % 256=c) (hd:x / 256 / 256 / 256 % 256=d) :
  Calls Tryz.prog 170 #[.slice (some ⟨k,o,none⟩) 4 cap,.int .i32 x] w fun e w'=>e=.returned (.tuple #[])∧w'=(((w.setCell ⟨k,o,none⟩ (.int .u8 a)).setCell ⟨k,o+1,none⟩ (.int .u8 b)).setCell ⟨k,o+2,none⟩ (.int .u8 c)).setCell ⟨k,o+3,none⟩ (.int .u8 d):=by
 have c0:w.cell? ⟨k,o,none⟩=some (cs.getD (o) undef):=by simp [World.cell?,hk,show o<cs.size by omega]
 have f0:w.frozen? ⟨k,o,none⟩=false:=by simp [World.frozen?,hk]
 generalize cs.getD (o) undef=u0 at c0
 have c1:w.cell? ⟨k,o+1,none⟩=some (cs.getD (o+1) undef):=by simp [World.cell?,hk,show o+1<cs.size by omega]
 have f1:w.frozen? ⟨k,o+1,none⟩=false:=by simp [World.frozen?,hk]
 generalize cs.getD (o+1) undef=u1 at c1
 have c2:w.cell? ⟨k,o+2,none⟩=some (cs.getD (o+2) undef):=by simp [World.cell?,hk,show o+2<cs.size by omega]
 have f2:w.frozen? ⟨k,o+2,none⟩=false:=by simp [World.frozen?,hk]
 generalize cs.getD (o+2) undef=u2 at c2
 have c3:w.cell? ⟨k,o+3,none⟩=some (cs.getD (o+3) undef):=by simp [World.cell?,hk,show o+3<cs.size by omega]
 have f3:w.frozen? ⟨k,o+3,none⟩=false:=by simp [World.frozen?,hk]
 generalize cs.getD (o+3) undef=u3 at c3
 have Ha:=Lib.hid ha
 have Hb:=Lib.hid hb
 have Hc:=Lib.hid hc
 have Hd:=Lib.hid hd
 clear hk ho ha hb hc hd
 go_enter Tryz.func170,Tryz.ntmps170
 go_wp2
 refine wp_loop_rounds 5 ?_
 repeat (rw [rounds_succ];go_wp2)
 go_end0
 exact⟨rfl,by rw [Ha.out,Hb.out,Hc.out,Hd.out]⟩
theorem extend_is (x y b v:Int) (w:World) (hw:Wid w) (h:x=y) (h0:0≤y) (h1:y<18446744073709551616) (hb:b=8∨b=16∨b=32∨b=64) (hv:sx b y=v) :
  Calls Tryz.prog 231 #[.int .u64 x,.int .i64 b] w fun e w'=>e=.returned (.int .i64 v)∧w=w':=by
 subst h;subst hv
 exact extend_yes x b w h0 h1 hw hb
theorem or2 (a b:UInt8):bits .or .u64 (bits .or .u64 0 (a.toNat:Int)) ((b.toNat:Int)*256)=(a.toNat:Int)*1+(b.toNat:Int)*256:=by
 have ha:=a.toNat_lt
 have hb:=b.toNat_lt
 have e0:bits .or .u64 0 (a.toNat:Int)=(a.toNat:Int):=by rw [u64_or 0 _ (by omega) (by omega) (by omega) (by omega)];simp
 rw [e0,u64_or8 _ _ (by omega) (by omega) (by omega) (by omega) (by omega)]
 omega
theorem or4 (a b c d:UInt8):bits .or .u64 (bits .or .u64 (bits .or .u64 (bits .or .u64 0 (a.toNat:Int)) ((b.toNat:Int)*256)) ((c.toNat:Int)*65536)) ((d.toNat:Int)*16777216)=(a.toNat:Int)*1+(b.toNat:Int)*256+(c.toNat:Int)*65536+(d.toNat:Int)*16777216:=by
 have ha:=a.toNat_lt
 have hb:=b.toNat_lt
 have hc:=c.toNat_lt
 have hd:=d.toNat_lt
 have e2:bits .or .u64 ((a.toNat:Int)*1+(b.toNat:Int)*256) ((c.toNat:Int)*65536)=((a.toNat:Int)*1+(b.toNat:Int)*256)+(c.toNat:Int)*65536:=u64_or16 _ _ (by omega) (by omega) (by omega) (by omega) (by omega)
 rw [or2,e2]
 exact u64_or24 _ _ (by omega) (by omega) (by omega) (by omega) (by omega)
theorem get2_at (k o cap:Nat) (c0 c1:UInt8) (v:Int) (w:World) (hw:Wid w) (h0:w.cell? ⟨k,o,none⟩=some (.int .u8 (c0.toNat:Int))) (h1:w.cell? ⟨k,o+1,none⟩=some (.int .u8 (c1.toNat:Int))) (hv:sx 16 ((c0.toNat:Int)*1+(c1.toNat:Int)*256)=v) :
  Calls Tryz.prog 265 #[.slice (some ⟨k,o,none⟩) 2 cap] w fun e w'=>e=.returned (.int .i64 v)∧w=w':=by
 have HW:=Lib.hid hw
 have HV:=Lib.hid hv
 clear hw hv
 have b0:=c0.toNat_lt
 have b1:=c1.toNat_lt
 go_enter Tryz.func265,Tryz.ntmps265
 go_wp2
 refine wp_loop_rounds 3 ?_
 repeat (rw [rounds_succ];go_wp2_with (go_at_call 231;((with_reducible refine (extend_is _ _ 16 v _ HW.out (or2 c0 c1) (by omega) (by omega) (by decide) HV.out).mono ?_);rintro e w' ⟨rfl,rfl⟩)))
 go_ret
 exact⟨rfl,rfl⟩
theorem get4_at (k o cap:Nat) (c0 c1 c2 c3:UInt8) (v:Int) (w:World) (hw:Wid w) (h0:w.cell? ⟨k,o,none⟩=some (.int .u8 (c0.toNat:Int))) (h1:w.cell? ⟨k,o+1,none⟩=some (.int .u8 (c1.toNat:Int))) (h2:w.cell? ⟨k,o+2,none⟩=some (.int .u8 (c2.toNat:Int))) (h3:w.cell? ⟨k,o+3,none⟩=some (.int .u8 (c3.toNat:Int))) (hv:sx 32 ((c0.toNat:Int)*1+(c1.toNat:Int)*256+(c2.toNat:Int)*65536+(c3.toNat:Int)*16777216)=v) :
  Calls Tryz.prog 265 #[.slice (some ⟨k,o,none⟩) 4 cap] w fun e w'=>e=.returned (.int .i64 v)∧w=w':=by
 have HW:=Lib.hid hw
 have HV:=Lib.hid hv
 clear hw hv
 have b0:=c0.toNat_lt
 have b1:=c1.toNat_lt
 have b2:=c2.toNat_lt
 have b3:=c3.toNat_lt
 go_enter Tryz.func265,Tryz.ntmps265
 go_wp2
 refine wp_loop_rounds 5 ?_
 repeat (rw [rounds_succ];go_wp2_with (go_at_call 231;((with_reducible refine (extend_is _ _ 32 v _ HW.out (or4 c0 c1 c2 c3) (by omega) (by omega) (by decide) HV.out).mono ?_);rintro e w' ⟨rfl,rfl⟩)))
 go_ret
 exact⟨rfl,rfl⟩
end Go.Proofs.YtdgnjhhieemcaaaGreatDoor.L5
end
section
namespace Go.Proofs.YtdgnjhhieemcaaaGreatDoor.L3
open Go.RowKit
def regK (code:Int) (k:Nat):Bool:=isR (fm k) && code==cd8 k
def sameK (src off imm:Int) (k:Nat):Bool:=(wiR (fm k) src (sr k)==sr k) && (wiO (fm k) off (of k)==of k) && (wiI (fm k) imm (im k)==im k)
def hitK (code src off imm:Int) (k:Nat):Bool:=(regK code k || code==cd k) && sameK src off imm k
def idF (code src off imm:Int):Nat→Nat→Int × Bool × Bool
 | 0,_=>(0,false,false)
 | n+1,k=>if hitK code src off imm k then ((k:Int),regK code k,true) else idF code src off imm n (k+1)
theorem keepD {B w:World} {g:Nat} {v0 v1 v2 v3 v4 v5 v6:Value} (hB:Below B.heap.size B w) (h0:w.cell? ⟨g,0,none⟩=some v0) (h1:w.cell? ⟨g,1,none⟩=some v1) (h2:w.cell? ⟨g,2,none⟩=some v2) (h3:w.cell? ⟨g,3,none⟩=some v3)
  (h4:w.cell? ⟨g,4,none⟩=some v4) (h5:w.cell? ⟨g,5,none⟩=some v5) (h6:w.cell? ⟨g,6,none⟩=some v6) :
  Below B.heap.size B w.drew∧w.drew.cell? ⟨g,0,none⟩=some v0∧w.drew.cell? ⟨g,1,none⟩=some v1∧w.drew.cell? ⟨g,2,none⟩=some v2∧w.drew.cell? ⟨g,3,none⟩=some v3∧w.drew.cell? ⟨g,4,none⟩=some v4∧w.drew.cell? ⟨g,5,none⟩=some v5∧w.drew.cell? ⟨g,6,none⟩=some v6 :=
 ⟨below_drewN hB 1,h0,h1,h2,h3,h4,h5,h6⟩
theorem keepB {B w w':World} {g:Nat} {v0 v1 v2 v3 v4 v5 v6:Value} (hb:Below w.heap.size w w') (hB:Below B.heap.size B w) (h0:w.cell? ⟨g,0,none⟩=some v0) (h1:w.cell? ⟨g,1,none⟩=some v1) (h2:w.cell? ⟨g,2,none⟩=some v2) (h3:w.cell? ⟨g,3,none⟩=some v3)
  (h4:w.cell? ⟨g,4,none⟩=some v4) (h5:w.cell? ⟨g,5,none⟩=some v5) (h6:w.cell? ⟨g,6,none⟩=some v6) :
  Below B.heap.size B w'∧w'.cell? ⟨g,0,none⟩=some v0∧w'.cell? ⟨g,1,none⟩=some v1∧w'.cell? ⟨g,2,none⟩=some v2∧w'.cell? ⟨g,3,none⟩=some v3∧w'.cell? ⟨g,4,none⟩=some v4∧w'.cell? ⟨g,5,none⟩=some v5∧w'.cell? ⟨g,6,none⟩=some v6:=by
 have hlt:g<w.heap.size:=World.block_lt_of_cell? w _ h0
 exact⟨bch hB hb,(hb.cell hlt).trans h0,(hb.cell hlt).trans h1,(hb.cell hlt).trans h2,(hb.cell hlt).trans h3,(hb.cell hlt).trans h4,(hb.cell hlt).trans h5,(hb.cell hlt).trans h6⟩
theorem keepC {B w w':World} {g:Nat} {v0 v1 v2 v3 v4 v5 v6:Value} (hb:Below w.drew.heap.size w.drew w') (hB:Below B.heap.size B w) (h0:w.cell? ⟨g,0,none⟩=some v0) (h1:w.cell? ⟨g,1,none⟩=some v1) (h2:w.cell? ⟨g,2,none⟩=some v2) (h3:w.cell? ⟨g,3,none⟩=some v3)
  (h4:w.cell? ⟨g,4,none⟩=some v4) (h5:w.cell? ⟨g,5,none⟩=some v5) (h6:w.cell? ⟨g,6,none⟩=some v6) :
  Below B.heap.size B w'∧w'.cell? ⟨g,0,none⟩=some v0∧w'.cell? ⟨g,1,none⟩=some v1∧w'.cell? ⟨g,2,none⟩=some v2∧w'.cell? ⟨g,3,none⟩=some v3∧w'.cell? ⟨g,4,none⟩=some v4∧w'.cell? ⟨g,5,none⟩=some v5∧w'.cell? ⟨g,6,none⟩=some v6 :=
 keepB hb (below_drewN hB 1) h0 h1 h2 h3 h4 h5 h6
theorem eql_row (s:ByteArray) (f b c r o i r' o' i':Int) (w:World):(binOp .eql 165 (.agg #[.string s,.int .i64 f,.int .i64 b,.int .u8 c,.int .i64 r',.int .i64 o',.int .i64 i']) (.agg #[.string s,.int .i64 f,.int .i64 b,.int .u8 c,.int .i64 r,.int .i64 o,.int .i64 i])).run Tryz.prog w =
  .ok (.bool ((r'==r) && (o'==o) && (i'==i))) w:=by
 have hp:Tryz.prog.stoodInHeld 165=false:=by kernel_rfl
 have a9:∀ w,(isAgg 9).run Tryz.prog w=.ok false w:=fun w=>by kernel_rfl
 have a3:∀ w,(isAgg 3).run Tryz.prog w=.ok false w:=fun w=>by kernel_rfl
 have a5:∀ w,(isAgg 5).run Tryz.prog w=.ok false w:=fun w=>by kernel_rfl
 simp [go_sem,hp,Tryz.underlying165,Tryz.underlying9,Tryz.underlying3,Tryz.underlying5,part,a9,a3,a5]
 cases e1:(r'==r) <;> cases e2:(o'==o) <;> cases e3:(i'==i) <;> simp_all
theorem hit_is {code src off imm:Int} {k:Nat} {s:ByteArray} {f b c r o i:Int} {t b8 bc sm:Bool} (h:Is k s f b c r o i) (ht:isR f=t) (h8:(code==(c+8) % 256)=b8) (hc:(code==c)=bc)
  (hs:((wiR f src r==r) && (wiO f off o==o) && (wiI f imm i==i))=sm) {n:Nat} {R:Int × Bool × Bool} (hR:idF code src off imm (n+1) k=R) :
  R=if ((t && b8) || bc) && sm then ((k:Int),(t && b8),true) else idF code src off imm n (k+1):=by
 obtain⟨rfl,rfl,rfl,rfl,rfl,rfl,rfl⟩:=h
 subst ht h8 hc hs
 exact hR.symm
theorem ident_any (code src off imm:Int) (w:World):Calls Tryz.prog 263 #[.int .u8 code,.int .i64 src,.int .i64 off,.int .i64 imm] w fun e w' =>
  e=.returned (.tuple #[.int .i64 (idF code src off imm 86 0).1,.bool (idF code src off imm 86 0).2.1,.bool (idF code src off imm 86 0).2.2])∧Below w.heap.size w w':=by
 obtain⟨R,hR⟩:∃ R,idF code src off imm 86 0=R:=⟨_,rfl⟩
 have HR:=Lib.hid hR
 rw [hR]
 clear hR
 go_enter Tryz.func263,Tryz.ntmps263
 go_wp2
 go_loopw [14] (fun i wr=>∃ k:Nat,k≤86∧i=.int .i64 k∧Below w.heap.size w wr∧Hid (idF code src off imm (86-k) k=R)) (fun i _=>86-(intOf i).toNat)
 case atStart=>exact⟨0,by omega,rfl,Below.refl _ _,HR⟩
 case round =>
  obtain⟨k,hk,rfl,hnx,hQ⟩:=hrel
  by_cases hlt:k<86
  ·obtain⟨s,f,b,c,r,o,i,hI⟩:=Is.some k
   obtain⟨t,ht⟩:∃ t,isR f=t:=⟨_,rfl⟩
   obtain⟨b8,h8⟩:∃ b8,(code==(c+8) % 256)=b8:=⟨_,rfl⟩
   obtain⟨bc,hbc⟩:∃ bc,(code==c)=bc:=⟨_,rfl⟩
   obtain⟨sm,hsm⟩:∃ sm,((wiR f src r==r) && (wiO f off o==o) && (wiI f imm i==i))=sm:=⟨_,rfl⟩
   have HI:Hid (Is (ix (k:Int)) s f b c r o i):=Lib.hid (by rw [ix_nat hlt];exact hI)
   have HK:Hid (decide (ix (k:Int)<86)=true):=Lib.hid (by rw [ix_nat hlt];exact decide_eq_true hlt)
   have HT:=Lib.hid ht
   have HL:=Lib.hid hlt
   have HG:=Lib.hid (hit_is hI ht h8 hbc hsm (n:=86-(k+1)) (R:=R) (by rw [← hQ.out,show 86-k=86-(k+1)+1 by omega]))
   clear hI ht
   obtain⟨r',hr'⟩:∃ r',wiR f src r=r':=⟨_,rfl⟩
   obtain⟨o',ho'⟩:∃ o',wiO f off o=o':=⟨_,rfl⟩
   obtain⟨i',hi'⟩:∃ i',wiI f imm i=i':=⟨_,rfl⟩
   rw [hr',ho',hi'] at hsm
   have hq:∀ w:World,(binOp .eql 165 (.agg #[.string s,.int .i64 f,.int .i64 b,.int .u8 c,.int .i64 r',.int .i64 o',.int .i64 i']) (.agg #[.string s,.int .i64 f,.int .i64 b,.int .u8 c,.int .i64 r,.int .i64 o,.int .i64 i])).run Tryz.prog w=.ok (.bool sm) w:=fun w=>by rw [eql_row,hsm]
   have HR':=Lib.hid hr'
   have HO':=Lib.hid ho'
   have HI':=Lib.hid hi'
   clear hr' ho' hi' hsm
   cases t
   clear h8
   rotate_left
   cases b8
   rotate_left
   ·go_wp2_with (first|(go_at_call 107;((with_reducible refine (at_is (k:Int) _ HI.out HK.out).mono ?_);rintro e w1 ⟨rfl,hb1⟩))|(go_at_call 216;((with_reducible refine (takes_at _ _ _ _ _ _ _ _ _ HT.out).mono ?_);rintro e w2 ⟨rfl,rfl⟩)))
    generalize hW:World.alloc _ _=W
    have hb2:Below w.heap.size w W:=by rw [← hW];exact bch (bch hnx hb1) (bch (bnew _ _) (bnew _ _))
    have hc:∀ j v,#[Value.string s,Value.int .i64 f,Value.int .i64 b,Value.int .u8 c,Value.int .i64 r,Value.int .i64 o,Value.int .i64 i][j]?=some v→W.cell? ⟨w1.heap.size,j,none⟩=some v:=by
     intro j v hj
     rw [← hW]
     refine (World.cell?_alloc_past _ _ _ (by simp)).trans ((World.cell?_alloc_at _ _ _ _ rfl).trans ?_)
     exact hj
    have h0:W.cell? ⟨w1.heap.size,0,none⟩=some (.string s):=hc 0 _ rfl
    have h1:W.cell? ⟨w1.heap.size,1,none⟩=some (.int .i64 f):=hc 1 _ rfl
    have h2:W.cell? ⟨w1.heap.size,2,none⟩=some (.int .i64 b):=hc 2 _ rfl
    have h3:W.cell? ⟨w1.heap.size,3,none⟩=some (.int .u8 c):=hc 3 _ rfl
    have h4:W.cell? ⟨w1.heap.size,4,none⟩=some (.int .i64 r):=hc 4 _ rfl
    have h5:W.cell? ⟨w1.heap.size,5,none⟩=some (.int .i64 o):=hc 5 _ rfl
    have h6:W.cell? ⟨w1.heap.size,6,none⟩=some (.int .i64 i):=hc 6 _ rfl
    obtain⟨g,hg⟩:∃ g,g=w1.heap.size:=⟨_,rfl⟩
    rw [← hg] at h0 h1 h2 h3 h4 h5 h6 ⊢
    have hbW:Below W.heap.size W W:=Below.refl _ _
    clear hc hW hb1 hg
    refine wp_region_held_drew (S:=(fun w'=>Below W.heap.size W w'∧w'.cell? ⟨g,0,none⟩=some (.string s)∧w'.cell? ⟨g,1,none⟩=some (.int .i64 f)∧w'.cell? ⟨g,2,none⟩=some (.int .i64 b)∧w'.cell? ⟨g,3,none⟩=some (.int .u8 c)∧w'.cell? ⟨g,4,none⟩=some (.int .i64 r)∧w'.cell? ⟨g,5,none⟩=some (.int .i64 o)∧w'.cell? ⟨g,6,none⟩=some (.int .i64 i))) (by kernel_rfl) (keepD hbW h0 h1 h2 h3 h4 h5 h6) (fun hH=>?_)
    refine zT0 0 31 (.move (.tmp 9)) (.bool true) rfl hH ?_
    simp only [zz]
    refine zT0 1 32 (.move (.tmp 31)) (.bool true) rfl hH ?_
    simp only [zz]
    refine zTn 2 33 (.move (.tmp 0)) rfl hH ?_
    simp only [zz]
    refine zTn 3 34 (.fieldAddr 165 (.tmp 12) 3) rfl hH ?_
    simp only [zz]
    refine zTn 4 35 (.load 5 (.tmp 34)) rfl hH ?_
    simp only [zz]
    refine zTn 5 36 (.binOp .eql 5 (.tmp 33) (.tmp 35) 5) rfl hH ?_
    simp only [zz]
    refine zT0 6 37 (.pick (.tmp 32) (.const (.bool true)) (.tmp 36)) (.bool true) rfl hH ?_
    simp only [zz]
    refine zT0 7 38 (.move (.tmp 37)) (.bool true) rfl hH ?_
    simp only [zz]
    refine zT1 8 39 (.load 165 (.tmp 12)) ((.agg #[.string s,.int .i64 f,.int .i64 b,.int .u8 c,.int .i64 r,.int .i64 o,.int .i64 i])) rfl (fun wS hS=>by obtain⟨_,k0,k1,k2,k3,k4,k5,k6⟩:=hS;go_simp) hH ?_
    simp only [zz]
    refine zT0 9 40 (.move (.tmp 1)) (.int .i64 src) rfl hH ?_
    simp only [zz]
    refine zT0 10 41 (.move (.tmp 2)) (.int .i64 off) rfl hH ?_
    simp only [zz]
    refine zT0 11 42 (.move (.tmp 3)) (.int .i64 imm) rfl hH ?_
    simp only [zz]
    refine zT1 13 44 (.load 165 (.tmp 12)) ((.agg #[.string s,.int .i64 f,.int .i64 b,.int .u8 c,.int .i64 r,.int .i64 o,.int .i64 i])) rfl (fun wS hS=>by obtain⟨_,k0,k1,k2,k3,k4,k5,k6⟩:=hS;go_simp) hH ?_
    simp only [zz]
    refine wpAnyH_ready (rs:=[12]) (by kernel_rfl) (by simp) ?_
    refine AllReadyH.cons (o:=⟨some 43,.call ⟨.value (.func 288),#[.tmp 39,.tmp 40,.tmp 41,.tmp 42],#[165,3,3,3]⟩,_,_,_,some (7,true)⟩) rfl (fun K hK=>?_) AllReadyH.nil
    go_simp
    refine (with_at _ _ _ _ _ _ _ _ _ _ _ _ _ _ HR'.out HO'.out HI'.out).mono ?_
    rintro e w3 ⟨rfl,hb3⟩
    refine hK.out _ _ (keepC hb3 hbW h0 h1 h2 h3 h4 h5 h6) (fun hH2=>?_)
    clear hK K hH
    refine zT3 14 45 (.binOp .eql 165 (.tmp 43) (.tmp 44) 165) (.bool sm) rfl hH2 ?_
    simp only [zz]
    refine zT0 15 46 (.pick (.tmp 38) (.tmp 45) (.const (.bool false))) (.bool sm) rfl hH2 ?_
    simp only [zz]
    refine wpAnyH_done (by kernel_rfl) ?_ _
    have hb4:=bch hb2 hH2.1
    clear hH2 hb3 h0 h1 h2 h3 h4 h5 h6 hbW
    cases sm
    ·have HN:Hid (idF code src off imm (86-(k+1)) (k+1)=R):=Lib.hid (by rw [HG.out];rfl)
     go_wp2
     go_roundw
     case rel=>exact⟨k+1,HL.out,by go_num,hb4,HN⟩
     case measure=>simp [intOf];omega
    ·go_wp2
     go_ret3
     exact⟨by rw [HG.out] <;> rfl,hb4⟩
   all_goals
    cases bc
    ·have HN:Hid (idF code src off imm (86-(k+1)) (k+1)=R):=Lib.hid (by rw [HG.out];rfl)
     go_wp2_with (first|(go_at_call 107;((with_reducible refine (at_is (k:Int) _ HI.out HK.out).mono ?_);rintro e w1 ⟨rfl,hb1⟩))|(go_at_call 216;((with_reducible refine (takes_at _ _ _ _ _ _ _ _ _ HT.out).mono ?_);rintro e w2 ⟨rfl,rfl⟩)))
     go_quiet (fail)
     go_wp2
     go_roundw
     case rel=>exact⟨k+1,HL.out,by go_num,below_drewN (bch (bch hnx hb1) (bch (bnew _ _) (bnew _ _))) _,HN⟩
     case measure=>simp [intOf];omega
    ·go_wp2_with (first|(go_at_call 107;((with_reducible refine (at_is (k:Int) _ HI.out HK.out).mono ?_);rintro e w1 ⟨rfl,hb1⟩))|(go_at_call 216;((with_reducible refine (takes_at _ _ _ _ _ _ _ _ _ HT.out).mono ?_);rintro e w2 ⟨rfl,rfl⟩)))
     generalize hW:World.alloc _ _=W
     have hb2:Below w.heap.size w W:=by rw [← hW];exact bch (bch hnx hb1) (bch (bnew _ _) (bnew _ _))
     have hc:∀ j v,#[Value.string s,Value.int .i64 f,Value.int .i64 b,Value.int .u8 c,Value.int .i64 r,Value.int .i64 o,Value.int .i64 i][j]?=some v→W.cell? ⟨w1.heap.size,j,none⟩=some v:=by
      intro j v hj
      rw [← hW]
      refine (World.cell?_alloc_past _ _ _ (by simp)).trans ((World.cell?_alloc_at _ _ _ _ rfl).trans ?_)
      exact hj
     have h0:W.cell? ⟨w1.heap.size,0,none⟩=some (.string s):=hc 0 _ rfl
     have h1:W.cell? ⟨w1.heap.size,1,none⟩=some (.int .i64 f):=hc 1 _ rfl
     have h2:W.cell? ⟨w1.heap.size,2,none⟩=some (.int .i64 b):=hc 2 _ rfl
     have h3:W.cell? ⟨w1.heap.size,3,none⟩=some (.int .u8 c):=hc 3 _ rfl
     have h4:W.cell? ⟨w1.heap.size,4,none⟩=some (.int .i64 r):=hc 4 _ rfl
     have h5:W.cell? ⟨w1.heap.size,5,none⟩=some (.int .i64 o):=hc 5 _ rfl
     have h6:W.cell? ⟨w1.heap.size,6,none⟩=some (.int .i64 i):=hc 6 _ rfl
     obtain⟨g,hg⟩:∃ g,g=w1.heap.size:=⟨_,rfl⟩
     rw [← hg] at h0 h1 h2 h3 h4 h5 h6 ⊢
     have hbW:Below W.heap.size W W:=Below.refl _ _
     clear hc hW hb1 hg
     go_region_held3 (fun w'=>Below W.heap.size W w'∧w'.cell? ⟨g,0,none⟩=some (.string s)∧w'.cell? ⟨g,1,none⟩=some (.int .i64 f)∧w'.cell? ⟨g,2,none⟩=some (.int .i64 b)∧w'.cell? ⟨g,3,none⟩=some (.int .u8 c)∧w'.cell? ⟨g,4,none⟩=some (.int .i64 r)∧w'.cell? ⟨g,5,none⟩=some (.int .i64 o)∧w'.cell? ⟨g,6,none⟩=some (.int .i64 i)) (first|exact keepD (by assumption) (by assumption) (by assumption) (by assumption) (by assumption) (by assumption) (by assumption) (by assumption)|exact keepC hb3 (by assumption) (by assumption) (by assumption) (by assumption) (by assumption) (by assumption) (by assumption) (by assumption)|exact keepB hb3 (by assumption) (by assumption) (by assumption) (by assumption) (by assumption) (by assumption) (by assumption) (by assumption))
      (first|(go_at_call 288;((with_reducible refine (with_at _ _ _ _ _ _ _ _ _ _ _ _ _ _ HR'.out HO'.out HI'.out).mono ?_);rintro e w3 ⟨rfl,hb3⟩)))
     rename_i hh
     have hb4:=bch hb2 hh.1
     clear hh hb3 h0 h1 h2 h3 h4 h5 h6 hbW
     cases sm
     ·have HN:Hid (idF code src off imm (86-(k+1)) (k+1)=R):=Lib.hid (by rw [HG.out];rfl)
      go_wp2
      go_roundw
      case rel=>exact⟨k+1,HL.out,by go_num,hb4,HN⟩
      case measure=>simp [intOf];omega
     ·go_wp2
      go_ret3
      exact⟨by rw [HG.out] <;> rfl,hb4⟩
  ·go_wp2
   go_ret3
   have hR:idF code src off imm 0 k=R:=by have:=hQ.out;rwa [show 86-k=0 by omega] at this
   exact⟨by rw [← hR] <;> rfl,hnx⟩
end Go.Proofs.YtdgnjhhieemcaaaGreatDoor.L3
end
