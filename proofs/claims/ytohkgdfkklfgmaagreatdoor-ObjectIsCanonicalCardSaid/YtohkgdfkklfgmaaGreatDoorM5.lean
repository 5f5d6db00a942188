/- Lemmas and walks of L8Tk, L8Rtok, L8Rshp, L8Rsub, L8Lsh: what each theorem states; conditions stand in each theorem. -/
import Derived.Test.YtohkgdfkklfgmaaGreatDoorL2Base
import Derived.Maps.AppendAt
import Derived.Deep.AppendLies
import Derived.Deep.WholeRow
import Derived.Deep.DeepCutAuto
import Derived.BigQuiet
section
namespace Go.Proofs.YtohkgdfkklfgmaaGreatDoor.L8
open L2
def cmt (c:UInt8):Bool:=c==59 || c==35
def spc (c:UInt8):Bool:=c==32 || c==9 || c==13
def pun (c:UInt8):Bool:=c==44 || c==91 || c==93 || c==43 || c==45 || c==58
def wb (c:UInt8):Bool:=wch (c.toNat:Int)
def tk:Nat→Nat→List UInt8→List (Nat × Nat) × Int
 | 0,_,_=>([],-1)
 | _+1,_,[]=>([],-1)
 | f+1,i,c::r =>
  if cmt c then ([],-1)
  else if spc c then tk f (i+1) r
  else if wb c then ((i,i+wn (c::r))::(tk f (i+wn (c::r)) ((c::r).drop (wn (c::r)))).1,(tk f (i+wn (c::r)) ((c::r).drop (wn (c::r)))).2)
  else if pun c then ((i,i+1)::(tk f (i+1) r).1,(tk f (i+1) r).2)
  else ([],(i:Int))
def bad (s:ByteArray):Int:=(tk s.size 0 s.data.toList).2
def isW (t:List UInt8):Bool:=match t with|[c]=>!pun c|_=>true
def shl1 (t:List UInt8):UInt8:=if isW t then 119 else t.headD 0
def shp (ts:List (List UInt8)):List UInt8:=ts.map shl1
def ln:Nat→Nat→List UInt8→List (Nat × Nat)
 | i,fr,[]=>if fr<i then [(fr,i)] else []
 | i,fr,c::r=>if c==10 then (fr,i)::ln (i+1) (i+1) r else ln (i+1) fr r
theorem size_list (s:ByteArray):s.data.toList.length=s.size:=by rw [Array.length_toList];rfl
end Go.Proofs.YtohkgdfkklfgmaaGreatDoor.L8
end
section
namespace Go.Proofs.YtohkgdfkklfgmaaGreatDoor.L8
open Go.RowKit L2
attribute [local go_sem] Oper.semAt_some
theorem bnew (w:World) (o:Obj):Below w.heap.size w (w.alloc o):=(Below.refl _ _).alloc (Nat.le_refl _) _
theorem own_below {w w':World} {base e:TypeId} {size:Nat} {v:Value} {n:Nat} {xs:List Value} (h:w.ownsRow base e size v n xs) (hb:Below w.heap.size w w'):w'.ownsRow base e size v n xs:=by
 refine⟨h.1,?_⟩
 rcases h.2 with h|⟨g,cap,cur,hv,hg,hh,r⟩
 ·exact .inl h
 ·exact .inr ⟨g,cap,cur,hv,hg,(hb.block _ (lt_of_block hh)).trans hh,r⟩
theorem own_base {w:World} {base:Nat} {e:TypeId} {size:Nat} {v:Value} {n:Nat} {xs:List Value} (h:w.ownsRow base e size v n xs):∀ k,v.ownBlock=some k→base≤k:=by
 intro k hk
 rcases h.2 with ⟨rfl,_⟩|⟨g,cap,cur,rfl,hb,_⟩
 ·cases hk
 ·simp [Value.ownBlock] at hk
  omega
theorem owns_slice {w:World} {base e:TypeId} {size:Nat} {v:Value} {n:Nat} {xs:List Value} (h:w.ownsRow base e size v n xs):∃ a c,v=.slice a n c:=by
 rcases h.2 with ⟨rfl,rfl⟩|⟨g,cap,cur,rfl,_⟩
 ·exact⟨_,_,rfl⟩
 ·exact⟨_,_,rfl⟩
end Go.Proofs.YtohkgdfkklfgmaaGreatDoor.L8
end
section
namespace Go.Proofs.YtohkgdfkklfgmaaGreatDoor.L8
open Go.RowKit L2
attribute [local go_sem] Oper.semAt_some
abbrev Tks:=List (ByteArray × Int)
def Tksat (w:World) (b o:Nat) (xs:Tks):Prop:=∀ j,(h:j<xs.length)→w.cell? ⟨b,o+j*2,none⟩=some (.string xs[j].1)∧w.cell? ⟨b,o+j*2+1,none⟩=some (.int .i64 xs[j].2)
def TksAt (w:World) (v:Value) (xs:Tks):Prop :=
 (∃ b o cap,v=.slice (some ⟨b,o,none⟩) xs.length cap∧xs.length≤cap∧b<w.heap.size∧Tksat w b o xs)∨(xs=[]∧∃ a cap,v=.slice a 0 cap)
theorem Tksat.below {w w':World} {b o:Nat} {xs:Tks} (h:Tksat w b o xs) (hlt:b<w.heap.size) (hb:Below w.heap.size w w'):Tksat w' b o xs :=
 fun j hj=>⟨(hb.cell (by exact hlt)).trans (h j hj).1,(hb.cell (by exact hlt)).trans (h j hj).2⟩
theorem TksAt.below {w w':World} {v:Value} {xs:Tks} (h:TksAt w v xs) (hb:Below w.heap.size w w'):TksAt w' v xs:=by
 rcases h with ⟨b,o,cap,rfl,hcp,hlt,hc⟩|h
 ·exact .inl ⟨b,o,cap,rfl,hcp,Nat.lt_of_lt_of_le hlt hb.size,hc.below hlt hb⟩
 ·exact .inr h
theorem add0 (g j:Nat):(⟨g,0,none⟩:Addr).add j=⟨g,j,none⟩:=by
 unfold Addr.add;split <;> simp_all
def txt (xs:Tks):List (List UInt8):=xs.map fun x=>x.1.data.toList
theorem take_snoc {α:Type} (xs:List α) (j:Nat) (h:j<xs.length):xs.take (j+1)=xs.take j++[xs[j]]:=by
 rw [List.take_add_one,List.getElem?_eq_getElem h];rfl
def stC (l:List ByteArray):List Value:=l.map Value.string
theorem stC_snoc (l:List ByteArray) (t:ByteArray):stC (l++[t])=stC l++[.string t]:=by simp [stC]
theorem Tryz.info9:(Tryz.prog.info? 9).map (fun i=>(i.zero,i.size,i.bytes))=some (some (.string ⟨#[]⟩),1,16):=by kernel_rfl
def StP (w:World) (l:List ByteArray) (e:Ending) (w':World):Prop :=
 (∃ v,e=.returned v∧w'.ownsRow w.heap.size 9 1 v l.length (stC l))∧Below w.heap.size w w'
def StAt (w:World) (v:Value) (l:List ByteArray):Prop :=
 (∃ b o cap,v=.slice (some ⟨b,o,none⟩) l.length cap∧b<w.heap.size∧∀ j,j<l.length→w.cell? ⟨b,o+j,none⟩=some (.string (l.getD j ByteArray.empty)))∨(l=[]∧∃ a cap,v=.slice a 0 cap)
theorem StAt.below {w w':World} {v:Value} {l:List ByteArray} (h:StAt w v l) (hb:Below w.heap.size w w'):StAt w' v l:=by
 rcases h with ⟨b,o,cap,rfl,hlt,hc⟩|h
 ·exact .inl ⟨b,o,cap,rfl,Nat.lt_of_lt_of_le hlt hb.size,fun j hj=>(hb.cell (by exact hlt)).trans (hc j hj)⟩
 ·exact .inr h
theorem own_st {w:World} {base e:TypeId} {v:Value} {l:List ByteArray} (h:w.ownsRow base e 1 v l.length (stC l)):StAt w v l:=by
 rcases h.2 with ⟨rfl,h0⟩|⟨g,cap,cur,rfl,_,hh,hcp,_,_,_⟩
 ·exact .inr ⟨List.eq_nil_of_length_eq_zero h0,_,_,rfl⟩
 ·refine .inl ⟨g,0,cap,rfl,lt_of_block hh,fun j hj=>?_⟩
  have k1:=h.cells (g:=g) rfl j (.string (l.getD j ByteArray.empty)) (by simp [stC,List.getD,List.getElem?_eq_getElem hj])
  rw [Nat.zero_add];rwa [add0] at k1
end Go.Proofs.YtohkgdfkklfgmaaGreatDoor.L8
end
section
namespace Go.Proofs.YtohkgdfkklfgmaaGreatDoor.L8
open Go.RowKit L2
attribute [local go_sem] Oper.semAt_some
theorem TksAt.form {w:World} {v:Value} {xs:Tks} (h:TksAt w v xs):∃ a cap,v=.slice a xs.length cap:=by
 rcases h with ⟨b,o,cap,rfl,_⟩|⟨rfl,a,cap,rfl⟩
 ·exact⟨_,_,rfl⟩
 ·exact⟨_,_,rfl⟩
theorem TksAt.cells {w:World} {b o:Nat} {xs:Tks} (h:Tksat w b o xs) (j:Nat) (hj:j<xs.length):∃ T q,xs[j]=(T,q)∧w.cell? ⟨b,o+j*2,none⟩=some (.string T)∧w.cell? ⟨b,o+j*2+1,none⟩=some (.int .i64 q):=by
 obtain⟨h1,h2⟩:=h j hj
 exact⟨xs[j].1,xs[j].2,rfl,h1,h2⟩
theorem bdN {B:Nat} {w w':World} (h:Below B w w') (m:Nat):Below B w (w'.drewN m):=⟨h.1,h.2,h.3,h.4,h.5⟩
theorem cells2 {w:World} {k:Nat} {a b:Value} {t:TypeId} (h:w.heap[k]?=some (.cells #[a,b] t)):w.cell? ⟨k,0,none⟩=some a∧w.cell? ⟨k,1,none⟩=some b:=by
 simp [World.cell?,h]
theorem row_up {w w':World} {k:Nat} {cs:Array Value} {t:TypeId} (h:w.heap[k]?=some (.cells cs t)) (hb:Below w.heap.size w w'):w'.heap[k]?=some (.cells cs t):=(hb.block _ (lt_of_block h)).trans h
end Go.Proofs.YtohkgdfkklfgmaaGreatDoor.L8
end
