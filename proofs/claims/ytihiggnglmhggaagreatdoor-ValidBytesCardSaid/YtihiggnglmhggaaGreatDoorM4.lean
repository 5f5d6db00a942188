/- Lemmas and walks of L14Sm, L8Tk, L8Rtok, L8Rshp, L1Uns, L1Parse, L9Ln, L8Lsh, L3Idf, L3Rcd: what each theorem states; conditions stand in each theorem. -/
import Derived.Test.YtihiggnglmhggaaGreatDoorM3
import Derived.Deep.AppendLies
import Derived.Deep.DeepCutAuto
import Derived.Test.YtihiggnglmhggaaGreatDoorM10
set_option maxHeartbeats 2000000
set_option maxRecDepth 100000
section
namespace Go.Proofs.YtihiggnglmhggaaGreatDoor.L14
structure Sg where
 at':Nat
 t:List UInt8
def sg:Nat→List UInt8→List UInt8→List Sg
 | _,_,[]=>[]
 | st,a,c::r=>if c=0 then ⟨st,a⟩::sg (st+a.length+1) [] r else sg st (a++[c]) r
def fz:List UInt8→Option Nat
 | []=>none
 | c::r=>if c=0 then some 0 else (fz r).map (·+1)
theorem fz_none:∀ {l:List UInt8},fz l=none↔¬ (0:UInt8)∈l
 | []=>by simp [fz]
 | c::r=>by
  unfold fz
  by_cases h:c=0
  ·simp [h]
  ·have h':¬ (0:UInt8)=c:=fun e=>h e.symm
   simp [h,h',fz_none (l:=r)]
theorem fz_some:∀ {l:List UInt8} {i:Nat},fz l=some i→i<l.length∧¬ (0:UInt8)∈l.take i∧l=l.take i++0::l.drop (i+1)
 | [],i,h=>by simp [fz] at h
 | c::r,i,h=>by
  unfold fz at h
  by_cases hc:c=0
  ·rw [if_pos hc] at h
   cases h
   subst hc
   simp
  ·rw [if_neg hc] at h
   cases hf:fz r with
   | none=>rw [hf] at h;cases h
   | some j =>
    rw [hf] at h
    cases h
    obtain⟨h1,h2,h3⟩:=fz_some hf
    have h':¬ (0:UInt8)=c:=fun e=>hc e.symm
    refine⟨by simp only [List.length_cons];omega,by simp [h',h2],?_⟩
    rw [List.take_succ_cons,List.drop_succ_cons,List.cons_append,← h3]
theorem sg_none:∀ (l:List UInt8) (st:Nat) (a:List UInt8),fz l=none→sg st a l=[]
 | [],_,_,_=>rfl
 | c::r,st,a,h=>by
  unfold fz at h
  by_cases hc:c=0
  ·rw [if_pos hc] at h;cases h
  ·rw [if_neg hc] at h
   have hr:fz r=none:=by simpa using h
   rw [sg,if_neg hc,sg_none r st (a++[c]) hr]
theorem sg_some:∀ (l:List UInt8) (i st:Nat) (a:List UInt8),fz l=some i→sg st a l=⟨st,a++l.take i⟩::sg (st+a.length+i+1) [] (l.drop (i+1))
 | [],i,_,_,h=>by simp [fz] at h
 | c::r,i,st,a,h=>by
  unfold fz at h
  by_cases hc:c=0
  ·rw [if_pos hc] at h
   cases h
   rw [sg,if_pos hc]
   simp
  ·rw [if_neg hc] at h
   cases hf:fz r with
   | none=>rw [hf] at h;cases h
   | some j =>
    rw [hf] at h
    cases h
    rw [sg,if_neg hc,sg_some r j st (a++[c]) hf,List.take_succ_cons,List.drop_succ_cons,List.append_assoc,List.length_append]
    simp only [List.length_cons,List.length_nil,List.cons_append,List.nil_append]
    rw [show st+(a.length+(0+1))+j+1=st+a.length+(j+1)+1 by omega]
theorem sg_in:∀ (l:List UInt8) (st:Nat) (a:List UInt8) (x:Sg),x∈sg st a l→∃ k,x.at'=st+k∧k+x.t.length<a.length+l.length∧∀ j,j<x.t.length→x.t[j]?=(a++l)[k+j]?
 | [],_,_,_,h=>by simp [sg] at h
 | c::r,st,a,x,h=>by
  unfold sg at h
  by_cases hc:c=0
  ·rw [if_pos hc,List.mem_cons] at h
   rcases h with rfl|h
   ·exact⟨0,rfl,by simp,fun j hj=>by rw [Nat.zero_add,List.getElem?_append_left hj]⟩
   ·obtain⟨k,h1,h2,h3⟩:=sg_in r _ _ _ h
    refine⟨a.length+1+k,by omega,by simp only [List.length_cons,List.length_nil] at h2 ⊢;omega,fun j hj=>?_⟩
    rw [h3 j hj,List.nil_append,List.getElem?_append_right (by omega),show a.length+1+k+j-a.length=(k+j)+1 by omega,List.getElem?_cons_succ]
  ·rw [if_neg hc] at h
   obtain⟨k,h1,h2,h3⟩:=sg_in r _ _ _ h
   refine⟨k,h1,by simp only [List.length_append,List.length_cons,List.length_nil] at h2 ⊢;omega,fun j hj=>?_⟩
   rw [h3 j hj,List.append_assoc];rfl
theorem sg_len:∀ (l:List UInt8) (st:Nat) (a:List UInt8),(sg st a l).length≤l.length
 | [],_,_=>by simp [sg]
 | c::r,st,a=>by
  unfold sg
  split
  ·have:=sg_len r (st+a.length+1) []
   simp only [List.length_cons];omega
  ·have:=sg_len r st (a++[c])
   simp only [List.length_cons];omega
def pr:List UInt8→List UInt8→Option (List (List UInt8))
 | a,[]=>if a=[] then some [] else none
 | a,c::r=>if c=0 then (if a=[] then none else (pr [] r).map (a::·)) else pr (a++[c]) r
def prV:List UInt8→Option (List (List UInt8))
 | []=>none
 | c::r=>if c=0 then pr [] r else none
def en:List UInt8→List UInt8→Bool
 | a,[]=>a.isEmpty
 | a,c::r=>if c=0 then en [] r else en (a++[c]) r
theorem en_last:∀ (l a:List UInt8) (c:UInt8),l.getLast?=some c→en a l=(c==0)
 | [],_,_,h=>by simp at h
 | c::r,a,d,h=>by
  unfold en
  cases r with
  | nil =>
   simp at h;subst h
   by_cases hc:c=0
   ·rw [if_pos hc];simp [en,hc]
   ·rw [if_neg hc]
    have h1:(c==0)=false:=by simpa using hc
    rw [h1,en];simp
  | cons e r =>
   have h':(e::r).getLast?=some d:=by rw [← h,List.getLast?_cons_cons]
   split
   ·exact en_last (e::r) [] d h'
   ·exact en_last (e::r) (a++[c]) d h'
theorem pr_sg:∀ (l a:List UInt8) (st:Nat),pr a l=if (en a l && (sg st a l).all fun x=>!x.t.isEmpty)=true then some ((sg st a l).map (·.t)) else none
 | [],a,st=>by
  unfold pr en sg
  by_cases h:a=[]
  ·simp [h]
  ·have:a.isEmpty=false:=by simpa using h
   rw [if_neg h,this];rfl
 | c::r,a,st=>by
  unfold pr en sg
  by_cases hc:c=0
  ·rw [if_pos hc,if_pos hc,if_pos hc]
   by_cases h:a=[]
   ·rw [if_pos h]
    simp [h]
   ·have hi:a.isEmpty=false:=by simpa using h
    rw [if_neg h,pr_sg r [] (st+a.length+1)]
    simp only [List.all_cons,hi,Bool.not_false,Bool.true_and,List.map_cons]
    split <;> rfl
  ·rw [if_neg hc,if_neg hc,if_neg hc]
   exact pr_sg r (a++[c]) st
def ofs:Nat→List (List UInt8)→List Nat
 | _,[]=>[]
 | st,t::r=>st::ofs (st+t.length+1) r
theorem ofs_len:∀ (ts:List (List UInt8)) (st:Nat),(ofs st ts).length=ts.length
 | [],_=>rfl
 | t::r,st=>by rw [ofs,List.length_cons,List.length_cons,ofs_len r]
theorem sg_ofs:∀ (l:List UInt8) (st:Nat) (a:List UInt8),(sg st a l).map (·.at')=ofs st ((sg st a l).map (·.t))
 | [],_,_=>rfl
 | c::r,st,a=>by
  unfold sg
  split
  ·rw [List.map_cons,List.map_cons,ofs,sg_ofs r]
  ·exact sg_ofs r st (a++[c])
theorem ofs_up:∀ (ts:List (List UInt8)) (st k:Nat),(ofs st ts).map (k+·)=ofs (k+st) ts
 | [],_,_=>rfl
 | t::r,st,k=>by
  rw [ofs,ofs,List.map_cons,ofs_up r]
  congr 2;omega
def bd (ts:List (List UInt8)):List UInt8:=ts.flatMap (·++[0])
def tb (ts:List (List UInt8)):List UInt8:=0::bd ts
theorem bd_cons (t:List UInt8) (r:List (List UInt8)):bd (t::r)=t++0::bd r:=by simp [bd]
theorem bd_snoc (r:List (List UInt8)) (t:List UInt8):bd (r++[t])=bd r++t++[0]:=by simp [bd]
def rt (t:List UInt8):Bool:=!t.isEmpty && (fz t).isNone
theorem rt_iff {t:List UInt8}:rt t=true↔t≠[]∧¬ (0:UInt8)∈t:=by
 unfold rt
 rw [Bool.and_eq_true,Option.isNone_iff_eq_none,fz_none]
 simp
theorem pr_app:∀ (t a r:List UInt8),¬ (0:UInt8)∈t→pr a (t++r)=pr (a++t) r
 | [],a,r,_=>by simp
 | c::t,a,r,h=>by
  simp only [List.mem_cons,not_or] at h
  have hc:¬ c=0:=fun e=>h.1 e.symm
  rw [List.cons_append,pr,if_neg hc,pr_app t (a++[c]) r h.2,List.append_assoc];rfl
theorem pr_bd:∀ (ts:List (List UInt8)),(∀ t∈ts,rt t=true)→pr [] (bd ts)=some ts
 | [],_=>by simp [bd,pr]
 | t::r,h=>by
  obtain⟨h1,h2⟩:=rt_iff.1 (h t (List.mem_cons_self ..))
  rw [bd_cons,pr_app t [] _ h2,List.nil_append,pr,if_pos rfl,if_neg h1,pr_bd r (fun x hx=>h x (List.mem_cons_of_mem _ hx))]
  rfl
theorem bd_pr:∀ (l a:List UInt8) (ts:List (List UInt8)),¬ (0:UInt8)∈a→pr a l=some ts→(∀ t∈ts,rt t=true)∧a++l=bd ts
 | [],a,ts,_,h=>by
  unfold pr at h
  by_cases ha:a=[]
  ·rw [if_pos ha] at h
   cases h
   exact⟨fun t ht=>(by cases ht),by simp [ha,bd]⟩
  ·rw [if_neg ha] at h;cases h
 | c::r,a,ts,hz,h=>by
  unfold pr at h
  by_cases hc:c=0
  ·rw [if_pos hc] at h
   by_cases ha:a=[]
   ·rw [if_pos ha] at h;cases h
   ·rw [if_neg ha] at h
    cases hp:pr [] r with
    | none=>rw [hp] at h;cases h
    | some us =>
     rw [hp] at h
     cases h
     obtain⟨h1,h2⟩:=bd_pr r [] us (by simp) hp
     refine And.intro (fun t ht=>?_) (by rw [bd_cons,← h2,hc];simp)
     rcases List.mem_cons.1 ht with rfl|ht
     ·exact rt_iff.2 ⟨ha,hz⟩
     ·exact h1 t ht
  ·rw [if_neg hc] at h
   have hz':¬ (0:UInt8)∈a++[c]:=by
    simp only [List.mem_append,List.mem_cons,List.not_mem_nil,or_false,not_or]
    exact⟨hz,fun e=>hc e.symm⟩
   obtain⟨h1,h2⟩:=bd_pr r (a++[c]) ts hz' h
   exact⟨h1,by rw [← h2,List.append_assoc];rfl⟩
theorem prV_tb (ts:List (List UInt8)) (h:∀ t∈ts,rt t=true):prV (tb ts)=some ts:=by
 show (if (0:UInt8)=0 then pr [] (bd ts) else none)=_
 rw [if_pos rfl,pr_bd ts h]
theorem tb_prV {l:List UInt8} {ts:List (List UInt8)} (h:prV l=some ts):(∀ t∈ts,rt t=true)∧tb ts=l:=by
 cases l with
 | nil=>cases h
 | cons c r =>
  have h:(if c=0 then pr [] r else none)=some ts:=h
  by_cases hc:c=0
  ·rw [if_pos hc] at h
   obtain⟨h1,h2⟩:=bd_pr r [] ts (by simp) h
   exact⟨h1,by unfold tb;rw [← h2,hc];rfl⟩
  ·rw [if_neg hc] at h;cases h
end Go.Proofs.YtihiggnglmhggaaGreatDoor.L14
end
section
namespace Go.Proofs.YtihiggnglmhggaaGreatDoor.L8
open L2
def cmt (c:UInt8):Bool:=c==59 || c==35
def spc (c:UInt8):Bool:=c==32 || c==9 || c==13
def pun (c:UInt8):Bool:=c==44 || c==91 || c==93 || c==43 || c==45 || c==58
def wb (c:UInt8):Bool:=wch (c.toNat:Int)
def tk:Nat→Nat→List UInt8→List (Nat × Nat) × Int
 | 0,_,_=>([],-1)
 | _+1,_,[]=>([],-1)
 | f+1,i,c::r =>
  if cmt c then ([],-1)
  else if spc c then tk f (i+1) r
  else if wb c then ((i,i+wn (c::r))::(tk f (i+wn (c::r)) ((c::r).drop (wn (c::r)))).1,(tk f (i+wn (c::r)) ((c::r).drop (wn (c::r)))).2)
  else if pun c then ((i,i+1)::(tk f (i+1) r).1,(tk f (i+1) r).2)
  else ([],(i:Int))
def bad (s:ByteArray):Int:=(tk s.size 0 s.data.toList).2
def ln:Nat→Nat→List UInt8→List (Nat × Nat)
 | i,fr,[]=>if fr<i then [(fr,i)] else []
 | i,fr,c::r=>if c==10 then (fr,i)::ln (i+1) (i+1) r else ln (i+1) fr r
end Go.Proofs.YtihiggnglmhggaaGreatDoor.L8
end
section
namespace Go.Proofs.YtihiggnglmhggaaGreatDoor.L8
open Go.RowKit L2
attribute [local go_sem] Oper.semAt_some
theorem bnew (w:World) (o:Obj):Below w.heap.size w (w.alloc o):=(Below.refl _ _).alloc (Nat.le_refl _) _
theorem own_below {w w':World} {base e:TypeId} {size:Nat} {v:Value} {n:Nat} {xs:List Value} (h:w.ownsRow base e size v n xs) (hb:Below w.heap.size w w'):w'.ownsRow base e size v n xs:=by
 refine⟨h.1,?_⟩
 rcases h.2 with h|⟨g,cap,cur,hv,hg,hh,r⟩
 ·exact .inl h
 ·exact .inr ⟨g,cap,cur,hv,hg,(hb.block _ (lt_of_block hh)).trans hh,r⟩
theorem add0 (g j:Nat):(⟨g,0,none⟩:Addr).add j=⟨g,j,none⟩:=by
 unfold Addr.add;split <;> simp_all
def StAt (w:World) (v:Value) (l:List ByteArray):Prop :=
 (∃ b o cap,v=.slice (some ⟨b,o,none⟩) l.length cap∧b<w.heap.size∧∀ j,j<l.length→w.cell? ⟨b,o+j,none⟩=some (.string (l.getD j ByteArray.empty)))∨(l=[]∧∃ a cap,v=.slice a 0 cap)
theorem StAt.below {w w':World} {v:Value} {l:List ByteArray} (h:StAt w v l) (hb:Below w.heap.size w w'):StAt w' v l:=by
 rcases h with ⟨b,o,cap,rfl,hlt,hc⟩|h
 ·exact .inl ⟨b,o,cap,rfl,Nat.lt_of_lt_of_le hlt hb.size,fun j hj=>(hb.cell (by exact hlt)).trans (hc j hj)⟩
 ·exact .inr h
end Go.Proofs.YtihiggnglmhggaaGreatDoor.L8
end
section
namespace Go.Proofs.YtihiggnglmhggaaGreatDoor.L1
open Go.RowKit
def dgn (c:UInt8):Nat:=(dg c.toNat).toNat
def rd (base:Nat):List UInt8→Nat→Bool→Option (Nat × Bool)
 | [],v,o=>some (v,o)
 | c::r,v,o=>if dgn c<base then rd base r ((v*base+dgn c) % 18446744073709551616) (o || decide (18446744073709551616≤v*base+dgn c)) else none
def us (l:List UInt8):Option (Nat × Bool) :=
 if Lib.hasPrefix l [48,120] then (if (l.drop 2).isEmpty then none else rd 16 (l.drop 2) 0 false) else if l.isEmpty then none else rd 10 l 0 false
def ps (l:List UInt8) (b:Int):Int × Int :=
 match us (Lib.trimPrefix l [45]) with
 | none=>(0,3)
 | some (v,o)=>if isW b && (!o && decide ((v:Int)≤gr (Lib.hasPrefix l [45]) b)) then (sx b (if Lib.hasPrefix l [45] then -(v:Int) else v),0) else (0,4)
end Go.Proofs.YtihiggnglmhggaaGreatDoor.L1
end
section
namespace Go.Proofs.YtihiggnglmhggaaGreatDoor.L9
structure Ins where
 op:Int
 reg:Bool
 dst:Int
 src:Int
 off:Int
 imm:Int
structure Df where
 nm:ByteArray
 key:Int
 val:Int
 ent:Int
def eB:ByteArray:=⟨#[]⟩
def g0 (l:List ByteArray) (i:Nat):ByteArray:=l.getD i eB
def sizV (d:Df):Bool:=decide (1≤d.key) && decide (d.key≤64) && decide (1≤d.val) && decide (d.val≤256) && decide (1≤d.ent) && decide (d.ent≤1024)
end Go.Proofs.YtihiggnglmhggaaGreatDoor.L9
end
section
namespace Go.Proofs.YtihiggnglmhggaaGreatDoor.L8
open Go.RowKit L2
attribute [local go_sem] Oper.semAt_some
theorem bdN {B:Nat} {w w':World} (h:Below B w w') (m:Nat):Below B w (w'.drewN m):=⟨h.1,h.2,h.3,h.4,h.5⟩
theorem row_up {w w':World} {k:Nat} {cs:Array Value} {t:TypeId} (h:w.heap[k]?=some (.cells cs t)) (hb:Below w.heap.size w w'):w'.heap[k]?=some (.cells cs t):=(hb.block _ (lt_of_block h)).trans h
end Go.Proofs.YtihiggnglmhggaaGreatDoor.L8
end
section
namespace Go.Proofs.YtihiggnglmhggaaGreatDoor.L3
open Go.RowKit
def regK (code:Int) (k:Nat):Bool:=isR (fm k) && code==cd8 k
def sameK (src off imm:Int) (k:Nat):Bool:=(wiR (fm k) src (sr k)==sr k) && (wiO (fm k) off (of k)==of k) && (wiI (fm k) imm (im k)==im k)
def hitK (code src off imm:Int) (k:Nat):Bool:=(regK code k || code==cd k) && sameK src off imm k
def idF (code src off imm:Int):Nat→Nat→Int × Bool × Bool
 | 0,_=>(0,false,false)
 | n+1,k=>if hitK code src off imm k then ((k:Int),regK code k,true) else idF code src off imm n (k+1)
theorem keepD {B w:World} {g:Nat} {v0 v1 v2 v3 v4 v5 v6:Value} (hB:Below B.heap.size B w) (h0:w.cell? ⟨g,0,none⟩=some v0) (h1:w.cell? ⟨g,1,none⟩=some v1) (h2:w.cell? ⟨g,2,none⟩=some v2) (h3:w.cell? ⟨g,3,none⟩=some v3)
  (h4:w.cell? ⟨g,4,none⟩=some v4) (h5:w.cell? ⟨g,5,none⟩=some v5) (h6:w.cell? ⟨g,6,none⟩=some v6) :
  Below B.heap.size B w.drew∧w.drew.cell? ⟨g,0,none⟩=some v0∧w.drew.cell? ⟨g,1,none⟩=some v1∧w.drew.cell? ⟨g,2,none⟩=some v2∧w.drew.cell? ⟨g,3,none⟩=some v3∧w.drew.cell? ⟨g,4,none⟩=some v4∧w.drew.cell? ⟨g,5,none⟩=some v5∧w.drew.cell? ⟨g,6,none⟩=some v6 :=
 ⟨below_drewN hB 1,h0,h1,h2,h3,h4,h5,h6⟩
theorem keepB {B w w':World} {g:Nat} {v0 v1 v2 v3 v4 v5 v6:Value} (hb:Below w.heap.size w w') (hB:Below B.heap.size B w) (h0:w.cell? ⟨g,0,none⟩=some v0) (h1:w.cell? ⟨g,1,none⟩=some v1) (h2:w.cell? ⟨g,2,none⟩=some v2) (h3:w.cell? ⟨g,3,none⟩=some v3)
  (h4:w.cell? ⟨g,4,none⟩=some v4) (h5:w.cell? ⟨g,5,none⟩=some v5) (h6:w.cell? ⟨g,6,none⟩=some v6) :
  Below B.heap.size B w'∧w'.cell? ⟨g,0,none⟩=some v0∧w'.cell? ⟨g,1,none⟩=some v1∧w'.cell? ⟨g,2,none⟩=some v2∧w'.cell? ⟨g,3,none⟩=some v3∧w'.cell? ⟨g,4,none⟩=some v4∧w'.cell? ⟨g,5,none⟩=some v5∧w'.cell? ⟨g,6,none⟩=some v6:=by
 have hlt:g<w.heap.size:=World.block_lt_of_cell? w _ h0
 exact⟨bch hB hb,(hb.cell hlt).trans h0,(hb.cell hlt).trans h1,(hb.cell hlt).trans h2,(hb.cell hlt).trans h3,(hb.cell hlt).trans h4,(hb.cell hlt).trans h5,(hb.cell hlt).trans h6⟩
theorem keepC {B w w':World} {g:Nat} {v0 v1 v2 v3 v4 v5 v6:Value} (hb:Below w.drew.heap.size w.drew w') (hB:Below B.heap.size B w) (h0:w.cell? ⟨g,0,none⟩=some v0) (h1:w.cell? ⟨g,1,none⟩=some v1) (h2:w.cell? ⟨g,2,none⟩=some v2) (h3:w.cell? ⟨g,3,none⟩=some v3)
  (h4:w.cell? ⟨g,4,none⟩=some v4) (h5:w.cell? ⟨g,5,none⟩=some v5) (h6:w.cell? ⟨g,6,none⟩=some v6) :
  Below B.heap.size B w'∧w'.cell? ⟨g,0,none⟩=some v0∧w'.cell? ⟨g,1,none⟩=some v1∧w'.cell? ⟨g,2,none⟩=some v2∧w'.cell? ⟨g,3,none⟩=some v3∧w'.cell? ⟨g,4,none⟩=some v4∧w'.cell? ⟨g,5,none⟩=some v5∧w'.cell? ⟨g,6,none⟩=some v6 :=
 keepB hb (below_drewN hB 1) h0 h1 h2 h3 h4 h5 h6
theorem eql_row (s:ByteArray) (f b c r o i r' o' i':Int) (w:World):(binOp .eql 171 (.agg #[.string s,.int .i64 f,.int .i64 b,.int .u8 c,.int .i64 r',.int .i64 o',.int .i64 i']) (.agg #[.string s,.int .i64 f,.int .i64 b,.int .u8 c,.int .i64 r,.int .i64 o,.int .i64 i])).run Tryz.prog w =
  .ok (.bool ((r'==r) && (o'==o) && (i'==i))) w:=by
 have hp:Tryz.prog.stoodInHeld 171=false:=by kernel_rfl
 have a9:∀ w,(isAgg 9).run Tryz.prog w=.ok false w:=fun w=>by kernel_rfl
 have a3:∀ w,(isAgg 3).run Tryz.prog w=.ok false w:=fun w=>by kernel_rfl
 have a5:∀ w,(isAgg 5).run Tryz.prog w=.ok false w:=fun w=>by kernel_rfl
 simp [go_sem,hp,Tryz.underlying171,Tryz.underlying9,Tryz.underlying3,Tryz.underlying5,part,a9,a3,a5]
 cases e1:(r'==r) <;> cases e2:(o'==o) <;> cases e3:(i'==i) <;> simp_all
theorem hit_is {code src off imm:Int} {k:Nat} {s:ByteArray} {f b c r o i:Int} {t b8 bc sm:Bool} (h:Is k s f b c r o i) (ht:isR f=t) (h8:(code==(c+8) % 256)=b8) (hc:(code==c)=bc)
  (hs:((wiR f src r==r) && (wiO f off o==o) && (wiI f imm i==i))=sm) {n:Nat} {R:Int × Bool × Bool} (hR:idF code src off imm (n+1) k=R) :
  R=if ((t && b8) || bc) && sm then ((k:Int),(t && b8),true) else idF code src off imm n (k+1):=by
 obtain⟨rfl,rfl,rfl,rfl,rfl,rfl,rfl⟩:=h
 subst ht h8 hc hs
 exact hR.symm
theorem ident_any (code src off imm:Int) (w:World):Calls Tryz.prog 197 #[.int .u8 code,.int .i64 src,.int .i64 off,.int .i64 imm] w fun e w' =>
  e=.returned (.tuple #[.int .i64 (idF code src off imm 86 0).1,.bool (idF code src off imm 86 0).2.1,.bool (idF code src off imm 86 0).2.2])∧Below w.heap.size w w':=by
 obtain⟨R,hR⟩:∃ R,idF code src off imm 86 0=R:=⟨_,rfl⟩
 have HR:=Lib.hid hR
 rw [hR]
 clear hR
 go_enter Tryz.func197,Tryz.ntmps197
 go_wp2
 go_loopw [14] (fun i wr=>∃ k:Nat,k≤86∧i=.int .i64 k∧Below w.heap.size w wr∧Hid (idF code src off imm (86-k) k=R)) (fun i _=>86-(intOf i).toNat)
 case atStart=>exact⟨0,by omega,rfl,Below.refl _ _,HR⟩
 case round =>
  obtain⟨k,hk,rfl,hnx,hQ⟩:=hrel
  by_cases hlt:k<86
  ·obtain⟨s,f,b,c,r,o,i,hI⟩:=Is.some k
   obtain⟨t,ht⟩:∃ t,isR f=t:=⟨_,rfl⟩
   obtain⟨b8,h8⟩:∃ b8,(code==(c+8) % 256)=b8:=⟨_,rfl⟩
   obtain⟨bc,hbc⟩:∃ bc,(code==c)=bc:=⟨_,rfl⟩
   obtain⟨sm,hsm⟩:∃ sm,((wiR f src r==r) && (wiO f off o==o) && (wiI f imm i==i))=sm:=⟨_,rfl⟩
   have HI:Hid (Is (ix (k:Int)) s f b c r o i):=Lib.hid (by rw [ix_nat hlt];exact hI)
   have HK:Hid (decide (ix (k:Int)<86)=true):=Lib.hid (by rw [ix_nat hlt];exact decide_eq_true hlt)
   have HT:=Lib.hid ht
   have HL:=Lib.hid hlt
   have HG:=Lib.hid (hit_is hI ht h8 hbc hsm (n:=86-(k+1)) (R:=R) (by rw [← hQ.out,show 86-k=86-(k+1)+1 by omega]))
   clear hI ht
   obtain⟨r',hr'⟩:∃ r',wiR f src r=r':=⟨_,rfl⟩
   obtain⟨o',ho'⟩:∃ o',wiO f off o=o':=⟨_,rfl⟩
   obtain⟨i',hi'⟩:∃ i',wiI f imm i=i':=⟨_,rfl⟩
   rw [hr',ho',hi'] at hsm
   have hq:∀ w:World,(binOp .eql 171 (.agg #[.string s,.int .i64 f,.int .i64 b,.int .u8 c,.int .i64 r',.int .i64 o',.int .i64 i']) (.agg #[.string s,.int .i64 f,.int .i64 b,.int .u8 c,.int .i64 r,.int .i64 o,.int .i64 i])).run Tryz.prog w=.ok (.bool sm) w:=fun w=>by rw [eql_row,hsm]
   have HR':=Lib.hid hr'
   have HO':=Lib.hid ho'
   have HI':=Lib.hid hi'
   clear hr' ho' hi' hsm
   cases t
   clear h8
   rotate_left
   cases b8
   rotate_left
   ·go_wp2_with (first|(go_at_call 126;((with_reducible refine (at_is (k:Int) _ HI.out HK.out).mono ?_);rintro e w1 ⟨rfl,hb1⟩))|(go_at_call 169;((with_reducible refine (takes_at _ _ _ _ _ _ _ _ _ HT.out).mono ?_);rintro e w2 ⟨rfl,rfl⟩)))
    generalize hW:World.alloc _ _=W
    have hb2:Below w.heap.size w W:=by rw [← hW];exact bch (bch hnx hb1) (bch (bnew _ _) (bnew _ _))
    have hc:∀ j v,#[Value.string s,Value.int .i64 f,Value.int .i64 b,Value.int .u8 c,Value.int .i64 r,Value.int .i64 o,Value.int .i64 i][j]?=some v→W.cell? ⟨w1.heap.size,j,none⟩=some v:=by
     intro j v hj
     rw [← hW]
     refine (World.cell?_alloc_past _ _ _ (by simp)).trans ((World.cell?_alloc_at _ _ _ _ rfl).trans ?_)
     exact hj
    have h0:W.cell? ⟨w1.heap.size,0,none⟩=some (.string s):=hc 0 _ rfl
    have h1:W.cell? ⟨w1.heap.size,1,none⟩=some (.int .i64 f):=hc 1 _ rfl
    have h2:W.cell? ⟨w1.heap.size,2,none⟩=some (.int .i64 b):=hc 2 _ rfl
    have h3:W.cell? ⟨w1.heap.size,3,none⟩=some (.int .u8 c):=hc 3 _ rfl
    have h4:W.cell? ⟨w1.heap.size,4,none⟩=some (.int .i64 r):=hc 4 _ rfl
    have h5:W.cell? ⟨w1.heap.size,5,none⟩=some (.int .i64 o):=hc 5 _ rfl
    have h6:W.cell? ⟨w1.heap.size,6,none⟩=some (.int .i64 i):=hc 6 _ rfl
    obtain⟨g,hg⟩:∃ g,g=w1.heap.size:=⟨_,rfl⟩
    rw [← hg] at h0 h1 h2 h3 h4 h5 h6 ⊢
    have hbW:Below W.heap.size W W:=Below.refl _ _
    clear hc hW hb1 hg
    refine wp_region_held_drew (S:=(fun w'=>Below W.heap.size W w'∧w'.cell? ⟨g,0,none⟩=some (.string s)∧w'.cell? ⟨g,1,none⟩=some (.int .i64 f)∧w'.cell? ⟨g,2,none⟩=some (.int .i64 b)∧w'.cell? ⟨g,3,none⟩=some (.int .u8 c)∧w'.cell? ⟨g,4,none⟩=some (.int .i64 r)∧w'.cell? ⟨g,5,none⟩=some (.int .i64 o)∧w'.cell? ⟨g,6,none⟩=some (.int .i64 i))) (by kernel_rfl) (keepD hbW h0 h1 h2 h3 h4 h5 h6) (fun hH=>?_)
    refine zT0 0 31 (.move (.tmp 9)) (.bool true) rfl hH ?_
    simp only [zz]
    refine zT0 1 32 (.move (.tmp 31)) (.bool true) rfl hH ?_
    simp only [zz]
    refine zTn 2 33 (.move (.tmp 0)) rfl hH ?_
    simp only [zz]
    refine zTn 3 34 (.fieldAddr 171 (.tmp 12) 3) rfl hH ?_
    simp only [zz]
    refine zTn 4 35 (.load 5 (.tmp 34)) rfl hH ?_
    simp only [zz]
    refine zTn 5 36 (.binOp .eql 5 (.tmp 33) (.tmp 35) 5) rfl hH ?_
    simp only [zz]
    refine zT0 6 37 (.pick (.tmp 32) (.const (.bool true)) (.tmp 36)) (.bool true) rfl hH ?_
    simp only [zz]
    refine zT0 7 38 (.move (.tmp 37)) (.bool true) rfl hH ?_
    simp only [zz]
    refine zT1 8 39 (.load 171 (.tmp 12)) ((.agg #[.string s,.int .i64 f,.int .i64 b,.int .u8 c,.int .i64 r,.int .i64 o,.int .i64 i])) rfl (fun wS hS=>by obtain⟨_,k0,k1,k2,k3,k4,k5,k6⟩:=hS;go_simp) hH ?_
    simp only [zz]
    refine zT0 9 40 (.move (.tmp 1)) (.int .i64 src) rfl hH ?_
    simp only [zz]
    refine zT0 10 41 (.move (.tmp 2)) (.int .i64 off) rfl hH ?_
    simp only [zz]
    refine zT0 11 42 (.move (.tmp 3)) (.int .i64 imm) rfl hH ?_
    simp only [zz]
    refine zT1 13 44 (.load 171 (.tmp 12)) ((.agg #[.string s,.int .i64 f,.int .i64 b,.int .u8 c,.int .i64 r,.int .i64 o,.int .i64 i])) rfl (fun wS hS=>by obtain⟨_,k0,k1,k2,k3,k4,k5,k6⟩:=hS;go_simp) hH ?_
    simp only [zz]
    refine wpAnyH_ready (rs:=[12]) (by kernel_rfl) (by simp) ?_
    refine AllReadyH.cons (o:=⟨some 43,.call ⟨.value (.func 218),#[.tmp 39,.tmp 40,.tmp 41,.tmp 42],#[171,3,3,3]⟩,_,_,_,some (7,true)⟩) rfl (fun K hK=>?_) AllReadyH.nil
    go_simp
    refine (with_at _ _ _ _ _ _ _ _ _ _ _ _ _ _ HR'.out HO'.out HI'.out).mono ?_
    rintro e w3 ⟨rfl,hb3⟩
    refine hK.out _ _ (keepC hb3 hbW h0 h1 h2 h3 h4 h5 h6) (fun hH2=>?_)
    clear hK K hH
    refine zT3 14 45 (.binOp .eql 171 (.tmp 43) (.tmp 44) 171) (.bool sm) rfl hH2 ?_
    simp only [zz]
    refine zT0 15 46 (.pick (.tmp 38) (.tmp 45) (.const (.bool false))) (.bool sm) rfl hH2 ?_
    simp only [zz]
    refine wpAnyH_done (by kernel_rfl) ?_ _
    have hb4:=bch hb2 hH2.1
    clear hH2 hb3 h0 h1 h2 h3 h4 h5 h6 hbW
    cases sm
    ·have HN:Hid (idF code src off imm (86-(k+1)) (k+1)=R):=Lib.hid (by rw [HG.out];rfl)
     go_wp2
     go_roundw
     case rel=>exact⟨k+1,HL.out,by go_num,hb4,HN⟩
     case measure=>simp [intOf];omega
    ·go_wp2
     go_ret3
     exact⟨by rw [HG.out] <;> rfl,hb4⟩
   all_goals
    cases bc
    ·have HN:Hid (idF code src off imm (86-(k+1)) (k+1)=R):=Lib.hid (by rw [HG.out];rfl)
     go_wp2_with (first|(go_at_call 126;((with_reducible refine (at_is (k:Int) _ HI.out HK.out).mono ?_);rintro e w1 ⟨rfl,hb1⟩))|(go_at_call 169;((with_reducible refine (takes_at _ _ _ _ _ _ _ _ _ HT.out).mono ?_);rintro e w2 ⟨rfl,rfl⟩)))
     go_quiet (fail)
     go_wp2
     go_roundw
     case rel=>exact⟨k+1,HL.out,by go_num,below_drewN (bch (bch hnx hb1) (bch (bnew _ _) (bnew _ _))) _,HN⟩
     case measure=>simp [intOf];omega
    ·go_wp2_with (first|(go_at_call 126;((with_reducible refine (at_is (k:Int) _ HI.out HK.out).mono ?_);rintro e w1 ⟨rfl,hb1⟩))|(go_at_call 169;((with_reducible refine (takes_at _ _ _ _ _ _ _ _ _ HT.out).mono ?_);rintro e w2 ⟨rfl,rfl⟩)))
     generalize hW:World.alloc _ _=W
     have hb2:Below w.heap.size w W:=by rw [← hW];exact bch (bch hnx hb1) (bch (bnew _ _) (bnew _ _))
     have hc:∀ j v,#[Value.string s,Value.int .i64 f,Value.int .i64 b,Value.int .u8 c,Value.int .i64 r,Value.int .i64 o,Value.int .i64 i][j]?=some v→W.cell? ⟨w1.heap.size,j,none⟩=some v:=by
      intro j v hj
      rw [← hW]
      refine (World.cell?_alloc_past _ _ _ (by simp)).trans ((World.cell?_alloc_at _ _ _ _ rfl).trans ?_)
      exact hj
     have h0:W.cell? ⟨w1.heap.size,0,none⟩=some (.string s):=hc 0 _ rfl
     have h1:W.cell? ⟨w1.heap.size,1,none⟩=some (.int .i64 f):=hc 1 _ rfl
     have h2:W.cell? ⟨w1.heap.size,2,none⟩=some (.int .i64 b):=hc 2 _ rfl
     have h3:W.cell? ⟨w1.heap.size,3,none⟩=some (.int .u8 c):=hc 3 _ rfl
     have h4:W.cell? ⟨w1.heap.size,4,none⟩=some (.int .i64 r):=hc 4 _ rfl
     have h5:W.cell? ⟨w1.heap.size,5,none⟩=some (.int .i64 o):=hc 5 _ rfl
     have h6:W.cell? ⟨w1.heap.size,6,none⟩=some (.int .i64 i):=hc 6 _ rfl
     obtain⟨g,hg⟩:∃ g,g=w1.heap.size:=⟨_,rfl⟩
     rw [← hg] at h0 h1 h2 h3 h4 h5 h6 ⊢
     have hbW:Below W.heap.size W W:=Below.refl _ _
     clear hc hW hb1 hg
     go_region_held3 (fun w'=>Below W.heap.size W w'∧w'.cell? ⟨g,0,none⟩=some (.string s)∧w'.cell? ⟨g,1,none⟩=some (.int .i64 f)∧w'.cell? ⟨g,2,none⟩=some (.int .i64 b)∧w'.cell? ⟨g,3,none⟩=some (.int .u8 c)∧w'.cell? ⟨g,4,none⟩=some (.int .i64 r)∧w'.cell? ⟨g,5,none⟩=some (.int .i64 o)∧w'.cell? ⟨g,6,none⟩=some (.int .i64 i)) (first|exact keepD (by assumption) (by assumption) (by assumption) (by assumption) (by assumption) (by assumption) (by assumption) (by assumption)|exact keepC hb3 (by assumption) (by assumption) (by assumption) (by assumption) (by assumption) (by assumption) (by assumption) (by assumption)|exact keepB hb3 (by assumption) (by assumption) (by assumption) (by assumption) (by assumption) (by assumption) (by assumption) (by assumption))
      (first|(go_at_call 218;((with_reducible refine (with_at _ _ _ _ _ _ _ _ _ _ _ _ _ _ HR'.out HO'.out HI'.out).mono ?_);rintro e w3 ⟨rfl,hb3⟩)))
     rename_i hh
     have hb4:=bch hb2 hh.1
     clear hh hb3 h0 h1 h2 h3 h4 h5 h6 hbW
     cases sm
     ·have HN:Hid (idF code src off imm (86-(k+1)) (k+1)=R):=Lib.hid (by rw [HG.out];rfl)
      go_wp2
      go_roundw
      case rel=>exact⟨k+1,HL.out,by go_num,hb4,HN⟩
      case measure=>simp [intOf];omega
     ·go_wp2
      go_ret3
      exact⟨by rw [HG.out] <;> rfl,hb4⟩
  ·go_wp2
   go_ret3
   have hR:idF code src off imm 0 k=R:=by have:=hQ.out;rwa [show 86-k=0 by omega] at this
   exact⟨by rw [← hR] <;> rfl,hnx⟩
theorem rcode_at (op:Int) (reg:Bool) (v:Int) (ok:Bool) (w:World) (hv:cdV (ix op) reg=v) (hk:cdB (ix op) reg=ok):Calls Tryz.prog 89 #[.int .i64 op,.bool reg] w fun e w'=>e=.returned (.tuple #[.int .u8 v,.bool ok])∧Below w.heap.size w w':=by
 subst hv hk
 by_cases h:0≤op∧op<86
 ·obtain⟨k,hk,rfl⟩:∃ k:Nat,k<86∧op=(k:Int):=⟨ix op,ix_lt h,(ix_in h).symm⟩
  rw [ix_nat hk]
  obtain⟨c,hc⟩:∃ c,cd k=c:=⟨_,rfl⟩
  obtain⟨f,hf⟩:∃ f,frm k=f:=⟨_,rfl⟩
  have HF:Hid (frm (ix (k:Int))=f):=Lib.hid (by rw [ix_nat hk];exact hf)
  have HK:Hid (decide (ix (k:Int)<86)=true):=Lib.hid (by rw [ix_nat hk];exact decide_eq_true hk)
  have hcell:codesC[k]?=some (.int .u8 c):=by rw [codes_at k hk,hc]
  have hB:cdB k reg=(!reg || isR f):=by rw [cdB,decide_eq_true hk,Bool.true_and,← hf,frm,if_pos hk]
  have hV:cdV k reg=if (!reg || isR f) then (if reg then IntKind.u8.wrap (c+8) else c) else 0:=by rw [cdV,hB,cd8,hc]
  rw [hB,hV,isR]
  clear hB hV hf hc
  cases reg
  ·go_enter Tryz.func89,Tryz.ntmps89
   go_wp2_with (first|(go_at_call 64;((with_reducible refine (right_at _ _ _ HK.out).mono ?_);rintro e w1 ⟨rfl,rfl⟩))|(go_at_call 29;((with_reducible refine (rform_at _ _ _ HF.out).mono ?_);rintro e w1 ⟨rfl,rfl⟩))|(go_at_call 140;((with_reducible refine (codes_any _).mono ?_);rintro e w1 ⟨rfl,rfl⟩)))
   go_ret2
   exact⟨rfl,bnew w _⟩
  ·cases h0:f==0
   ·cases h4:f==4
    ·have n0:(f != 0)=true:=by rw [bne,h0];rfl
     have n4:(f != 4)=true:=by rw [bne,h4];rfl
     go_enter Tryz.func89,Tryz.ntmps89
     go_wp2_with (first|(go_at_call 64;((with_reducible refine (right_at _ _ _ HK.out).mono ?_);rintro e w1 ⟨rfl,rfl⟩))|(go_at_call 29;((with_reducible refine (rform_at _ _ _ HF.out).mono ?_);rintro e w1 ⟨rfl,rfl⟩))|(go_at_call 140;((with_reducible refine (codes_any _).mono ?_);rintro e w1 ⟨rfl,rfl⟩)))
     go_ret2
     exact⟨rfl,Below.refl _ _⟩
    ·obtain rfl:f=4:=by simpa using h4
     clear h0 h4
     go_enter Tryz.func89,Tryz.ntmps89
     go_wp2_with (first|(go_at_call 64;((with_reducible refine (right_at _ _ _ HK.out).mono ?_);rintro e w1 ⟨rfl,rfl⟩))|(go_at_call 29;((with_reducible refine (rform_at _ _ _ HF.out).mono ?_);rintro e w1 ⟨rfl,rfl⟩))|(go_at_call 140;((with_reducible refine (codes_any _).mono ?_);rintro e w1 ⟨rfl,rfl⟩)))
     go_ret2
     exact⟨rfl,bnew w _⟩
   ·obtain rfl:f=0:=by simpa using h0
    clear h0
    go_enter Tryz.func89,Tryz.ntmps89
    go_wp2_with (first|(go_at_call 64;((with_reducible refine (right_at _ _ _ HK.out).mono ?_);rintro e w1 ⟨rfl,rfl⟩))|(go_at_call 29;((with_reducible refine (rform_at _ _ _ HF.out).mono ?_);rintro e w1 ⟨rfl,rfl⟩))|(go_at_call 140;((with_reducible refine (codes_any _).mono ?_);rintro e w1 ⟨rfl,rfl⟩)))
    go_ret2
    exact⟨rfl,bnew w _⟩
 ·have HK:Hid (decide (ix op<86)=false):=Lib.hid (by rw [ix_out h];rfl)
  rw [ix_out h]
  clear h
  go_enter Tryz.func89,Tryz.ntmps89
  go_wp2_with (first|(go_at_call 64;((with_reducible refine (right_at _ false _ HK.out).mono ?_);rintro e w1 ⟨rfl,rfl⟩)))
  go_ret2
  exact⟨rfl,Below.refl _ _⟩
end Go.Proofs.YtihiggnglmhggaaGreatDoor.L3
end
