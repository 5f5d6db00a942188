/- Lemmas and walks of L14Sm, L14Mm, L14Lb, L14Gt: what each theorem states; conditions stand in each theorem. -/
import Derived.Test.YtohkgdfkklfgmaaGreatDoorProg
import Derived.OwnWalk
import Derived.WalkSpells
import Derived.Deep.DeepCutAuto
import Derived.Deep.Slices
import Derived.ProofKit
import Derived.OpenShut
import Derived.SliceStrings
import Derived.Deep.QuietTactic
import Derived.BigQuiet
import Derived.Lib.Hide
import Derived.Lib.BytesEntry
import Derived.Laws.BytesArg
import Derived.Laws.IdiomStrings
import Derived.Lib.Strings
section
namespace Go.Proofs.YtohkgdfkklfgmaaGreatDoor.L14
set_option maxRecDepth 100000
structure Sg where
 at':Nat
 t:List UInt8
def sg:Nat→List UInt8→List UInt8→List Sg
 | _,_,[]=>[]
 | st,a,c::r=>if c=0 then ⟨st,a⟩::sg (st+a.length+1) [] r else sg st (a++[c]) r
def fz:List UInt8→Option Nat
 | []=>none
 | c::r=>if c=0 then some 0 else (fz r).map (·+1)
theorem fz_none:∀ {l:List UInt8},fz l=none↔¬ (0:UInt8)∈l
 | []=>by simp [fz]
 | c::r=>by
  unfold fz
  by_cases h:c=0
  ·simp [h]
  ·have h':¬ (0:UInt8)=c:=fun e=>h e.symm
   simp [h,h',fz_none (l:=r)]
theorem fz_some:∀ {l:List UInt8} {i:Nat},fz l=some i→i<l.length∧¬ (0:UInt8)∈l.take i∧l=l.take i++0::l.drop (i+1)
 | [],i,h=>by simp [fz] at h
 | c::r,i,h=>by
  unfold fz at h
  by_cases hc:c=0
  ·rw [if_pos hc] at h
   cases h
   subst hc
   simp
  ·rw [if_neg hc] at h
   cases hf:fz r with
   | none=>rw [hf] at h;cases h
   | some j =>
    rw [hf] at h
    cases h
    obtain⟨h1,h2,h3⟩:=fz_some hf
    have h':¬ (0:UInt8)=c:=fun e=>hc e.symm
    refine⟨by simp only [List.length_cons];omega,by simp [h',h2],?_⟩
    rw [List.take_succ_cons,List.drop_succ_cons,List.cons_append,← h3]
theorem sg_none:∀ (l:List UInt8) (st:Nat) (a:List UInt8),fz l=none→sg st a l=[]
 | [],_,_,_=>rfl
 | c::r,st,a,h=>by
  unfold fz at h
  by_cases hc:c=0
  ·rw [if_pos hc] at h;cases h
  ·rw [if_neg hc] at h
   have hr:fz r=none:=by simpa using h
   rw [sg,if_neg hc,sg_none r st (a++[c]) hr]
theorem sg_some:∀ (l:List UInt8) (i st:Nat) (a:List UInt8),fz l=some i→sg st a l=⟨st,a++l.take i⟩::sg (st+a.length+i+1) [] (l.drop (i+1))
 | [],i,_,_,h=>by simp [fz] at h
 | c::r,i,st,a,h=>by
  unfold fz at h
  by_cases hc:c=0
  ·rw [if_pos hc] at h
   cases h
   rw [sg,if_pos hc]
   simp
  ·rw [if_neg hc] at h
   cases hf:fz r with
   | none=>rw [hf] at h;cases h
   | some j =>
    rw [hf] at h
    cases h
    rw [sg,if_neg hc,sg_some r j st (a++[c]) hf,List.take_succ_cons,List.drop_succ_cons,List.append_assoc,List.length_append]
    simp only [List.length_cons,List.length_nil,List.cons_append,List.nil_append]
    rw [show st+(a.length+(0+1))+j+1=st+a.length+(j+1)+1 by omega]
theorem sg_in:∀ (l:List UInt8) (st:Nat) (a:List UInt8) (x:Sg),x∈sg st a l→∃ k,x.at'=st+k∧k+x.t.length<a.length+l.length∧∀ j,j<x.t.length→x.t[j]?=(a++l)[k+j]?
 | [],_,_,_,h=>by simp [sg] at h
 | c::r,st,a,x,h=>by
  unfold sg at h
  by_cases hc:c=0
  ·rw [if_pos hc,List.mem_cons] at h
   rcases h with rfl|h
   ·exact⟨0,rfl,by simp,fun j hj=>by rw [Nat.zero_add,List.getElem?_append_left hj]⟩
   ·obtain⟨k,h1,h2,h3⟩:=sg_in r _ _ _ h
    refine⟨a.length+1+k,by omega,by simp only [List.length_cons,List.length_nil] at h2 ⊢;omega,fun j hj=>?_⟩
    rw [h3 j hj,List.nil_append,List.getElem?_append_right (by omega),show a.length+1+k+j-a.length=(k+j)+1 by omega,List.getElem?_cons_succ]
  ·rw [if_neg hc] at h
   obtain⟨k,h1,h2,h3⟩:=sg_in r _ _ _ h
   refine⟨k,h1,by simp only [List.length_append,List.length_cons,List.length_nil] at h2 ⊢;omega,fun j hj=>?_⟩
   rw [h3 j hj,List.append_assoc];rfl
theorem sg_len:∀ (l:List UInt8) (st:Nat) (a:List UInt8),(sg st a l).length≤l.length
 | [],_,_=>by simp [sg]
 | c::r,st,a=>by
  unfold sg
  split
  ·have:=sg_len r (st+a.length+1) []
   simp only [List.length_cons];omega
  ·have:=sg_len r st (a++[c])
   simp only [List.length_cons];omega
def gtx (l:List UInt8) (off:Nat):Option (List UInt8):=(fz (l.drop off)).map fun i=>(l.drop off).take i
def pr:List UInt8→List UInt8→Option (List (List UInt8))
 | a,[]=>if a=[] then some [] else none
 | a,c::r=>if c=0 then (if a=[] then none else (pr [] r).map (a::·)) else pr (a++[c]) r
def prV:List UInt8→Option (List (List UInt8))
 | []=>none
 | c::r=>if c=0 then pr [] r else none
theorem pr_none:∀ (l a:List UInt8),fz l=none→a++l≠[]→pr a l=none
 | [],a,_,h=>by
  have:a≠[]:=by simpa using h
  rw [pr,if_neg this]
 | c::r,a,hf,_=>by
  unfold fz at hf
  by_cases hc:c=0
  ·rw [if_pos hc] at hf;cases hf
  ·rw [if_neg hc] at hf
   rw [pr,if_neg hc,pr_none r (a++[c]) (by simpa using hf) (by simp)]
theorem pr_some:∀ (l:List UInt8) (i:Nat) (a:List UInt8),fz l=some i→pr a l=if a++l.take i=[] then none else (pr [] (l.drop (i+1))).map ((a++l.take i)::·)
 | [],i,_,h=>by simp [fz] at h
 | c::r,i,a,h=>by
  unfold fz at h
  by_cases hc:c=0
  ·rw [if_pos hc] at h
   cases h
   rw [pr,if_pos hc]
   simp
  ·rw [if_neg hc] at h
   cases hf:fz r with
   | none=>rw [hf] at h;cases h
   | some j =>
    rw [hf] at h
    cases h
    rw [pr,if_neg hc,pr_some r j (a++[c]) hf,List.take_succ_cons,List.drop_succ_cons,List.append_assoc]
    rfl
def en:List UInt8→List UInt8→Bool
 | a,[]=>a.isEmpty
 | a,c::r=>if c=0 then en [] r else en (a++[c]) r
theorem en_last:∀ (l a:List UInt8) (c:UInt8),l.getLast?=some c→en a l=(c==0)
 | [],_,_,h=>by simp at h
 | c::r,a,d,h=>by
  unfold en
  cases r with
  | nil =>
   simp at h;subst h
   by_cases hc:c=0
   ·rw [if_pos hc];simp [en,hc]
   ·rw [if_neg hc]
    have h1:(c==0)=false:=by simpa using hc
    rw [h1,en];simp
  | cons e r =>
   have h':(e::r).getLast?=some d:=by rw [← h,List.getLast?_cons_cons]
   split
   ·exact en_last (e::r) [] d h'
   ·exact en_last (e::r) (a++[c]) d h'
theorem pr_sg:∀ (l a:List UInt8) (st:Nat),pr a l=if (en a l && (sg st a l).all fun x=>!x.t.isEmpty)=true then some ((sg st a l).map (·.t)) else none
 | [],a,st=>by
  unfold pr en sg
  by_cases h:a=[]
  ·simp [h]
  ·have:a.isEmpty=false:=by simpa using h
   rw [if_neg h,this];rfl
 | c::r,a,st=>by
  unfold pr en sg
  by_cases hc:c=0
  ·rw [if_pos hc,if_pos hc,if_pos hc]
   by_cases h:a=[]
   ·rw [if_pos h]
    simp [h]
   ·have hi:a.isEmpty=false:=by simpa using h
    rw [if_neg h,pr_sg r [] (st+a.length+1)]
    simp only [List.all_cons,hi,Bool.not_false,Bool.true_and,List.map_cons]
    split <;> rfl
  ·rw [if_neg hc,if_neg hc,if_neg hc]
   exact pr_sg r (a++[c]) st
def ofs:Nat→List (List UInt8)→List Nat
 | _,[]=>[]
 | st,t::r=>st::ofs (st+t.length+1) r
theorem ofs_len:∀ (ts:List (List UInt8)) (st:Nat),(ofs st ts).length=ts.length
 | [],_=>rfl
 | t::r,st=>by rw [ofs,List.length_cons,List.length_cons,ofs_len r]
theorem sg_ofs:∀ (l:List UInt8) (st:Nat) (a:List UInt8),(sg st a l).map (·.at')=ofs st ((sg st a l).map (·.t))
 | [],_,_=>rfl
 | c::r,st,a=>by
  unfold sg
  split
  ·rw [List.map_cons,List.map_cons,ofs,sg_ofs r]
  ·exact sg_ofs r st (a++[c])
theorem ofs_up:∀ (ts:List (List UInt8)) (st k:Nat),(ofs st ts).map (k+·)=ofs (k+st) ts
 | [],_,_=>rfl
 | t::r,st,k=>by
  rw [ofs,ofs,List.map_cons,ofs_up r]
  congr 2;omega
def bd (ts:List (List UInt8)):List UInt8:=ts.flatMap (·++[0])
def tb (ts:List (List UInt8)):List UInt8:=0::bd ts
theorem bd_cons (t:List UInt8) (r:List (List UInt8)):bd (t::r)=t++0::bd r:=by simp [bd]
theorem bd_snoc (r:List (List UInt8)) (t:List UInt8):bd (r++[t])=bd r++t++[0]:=by simp [bd]
def rt (t:List UInt8):Bool:=!t.isEmpty && (fz t).isNone
theorem rt_iff {t:List UInt8}:rt t=true↔t≠[]∧¬ (0:UInt8)∈t:=by
 unfold rt
 rw [Bool.and_eq_true,Option.isNone_iff_eq_none,fz_none]
 simp
theorem pr_app:∀ (t a r:List UInt8),¬ (0:UInt8)∈t→pr a (t++r)=pr (a++t) r
 | [],a,r,_=>by simp
 | c::t,a,r,h=>by
  simp only [List.mem_cons,not_or] at h
  have hc:¬ c=0:=fun e=>h.1 e.symm
  rw [List.cons_append,pr,if_neg hc,pr_app t (a++[c]) r h.2,List.append_assoc];rfl
theorem pr_bd:∀ (ts:List (List UInt8)),(∀ t∈ts,rt t=true)→pr [] (bd ts)=some ts
 | [],_=>by simp [bd,pr]
 | t::r,h=>by
  obtain⟨h1,h2⟩:=rt_iff.1 (h t (List.mem_cons_self ..))
  rw [bd_cons,pr_app t [] _ h2,List.nil_append,pr,if_pos rfl,if_neg h1,pr_bd r (fun x hx=>h x (List.mem_cons_of_mem _ hx))]
  rfl
theorem bd_pr:∀ (l a:List UInt8) (ts:List (List UInt8)),¬ (0:UInt8)∈a→pr a l=some ts→(∀ t∈ts,rt t=true)∧a++l=bd ts
 | [],a,ts,_,h=>by
  unfold pr at h
  by_cases ha:a=[]
  ·rw [if_pos ha] at h
   cases h
   exact⟨fun t ht=>(by cases ht),by simp [ha,bd]⟩
  ·rw [if_neg ha] at h;cases h
 | c::r,a,ts,hz,h=>by
  unfold pr at h
  by_cases hc:c=0
  ·rw [if_pos hc] at h
   by_cases ha:a=[]
   ·rw [if_pos ha] at h;cases h
   ·rw [if_neg ha] at h
    cases hp:pr [] r with
    | none=>rw [hp] at h;cases h
    | some us =>
     rw [hp] at h
     cases h
     obtain⟨h1,h2⟩:=bd_pr r [] us (by simp) hp
     refine And.intro (fun t ht=>?_) (by rw [bd_cons,← h2,hc];simp)
     rcases List.mem_cons.1 ht with rfl|ht
     ·exact rt_iff.2 ⟨ha,hz⟩
     ·exact h1 t ht
  ·rw [if_neg hc] at h
   have hz':¬ (0:UInt8)∈a++[c]:=by
    simp only [List.mem_append,List.mem_cons,List.not_mem_nil,or_false,not_or]
    exact⟨hz,fun e=>hc e.symm⟩
   obtain⟨h1,h2⟩:=bd_pr r (a++[c]) ts hz' h
   exact⟨h1,by rw [← h2,List.append_assoc];rfl⟩
theorem prV_tb (ts:List (List UInt8)) (h:∀ t∈ts,rt t=true):prV (tb ts)=some ts:=by
 show (if (0:UInt8)=0 then pr [] (bd ts) else none)=_
 rw [if_pos rfl,pr_bd ts h]
theorem tb_prV {l:List UInt8} {ts:List (List UInt8)} (h:prV l=some ts):(∀ t∈ts,rt t=true)∧tb ts=l:=by
 cases l with
 | nil=>cases h
 | cons c r =>
  have h:(if c=0 then pr [] r else none)=some ts:=h
  by_cases hc:c=0
  ·rw [if_pos hc] at h
   obtain⟨h1,h2⟩:=bd_pr r [] ts (by simp) h
   exact⟨h1,by unfold tb;rw [← h2,hc];rfl⟩
  ·rw [if_neg hc] at h;cases h
end Go.Proofs.YtohkgdfkklfgmaaGreatDoor.L14
end
section
set_option maxRecDepth 100000
set_option maxHeartbeats 4000000
namespace Go.Proofs.YtohkgdfkklfgmaaGreatDoor.L14
set_option maxRecDepth 100000
open Go.RowKit
attribute [local go_sem] Oper.semAt_some
theorem bch {w a b:World} (h:Below w.heap.size w a) (k:Below a.heap.size a b):Below w.heap.size w b:=h.trans (k.mono h.size)
theorem bnew (w:World) (o:Obj):Below w.heap.size w (w.alloc o):=(Below.refl _ _).alloc (Nat.le_refl _) _
theorem bdN {B:Nat} {w w':World} (h:Below B w w') (m:Nat):Below B w (w'.drewN m):=⟨h.1,h.2,h.3,h.4,h.5⟩
theorem add0 (g o j:Nat):(⟨g,o,none⟩:Addr).add j=⟨g,o+j,none⟩:=by
 unfold Addr.add;split <;> simp_all
theorem cell_new (w:World) (v:Value) (t:TypeId):(w.alloc (.cells #[v] t)).cell? ⟨w.heap.size,0,none⟩=some v:=by
 have h:=heap_alloc_new w (.cells #[v] t)
 unfold World.cell?
 simp only [h];rfl
theorem own_below {w w':World} {base e:TypeId} {size:Nat} {v:Value} {n:Nat} {xs:List Value} (h:w.ownsRow base e size v n xs) (hb:Below w.heap.size w w'):w'.ownsRow base e size v n xs:=by
 refine⟨h.1,?_⟩
 rcases h.2 with h|⟨g,cap,cur,hv,hg,hh,r⟩
 ·exact .inl h
 ·exact .inr ⟨g,cap,cur,hv,hg,(hb.block _ (lt_of_block hh)).trans hh,r⟩
theorem txt_ne {a b:ByteArray} (h:¬ a=b):(a.toList==b.toList)=false:=by
 rw [Lib.toList_data,Lib.toList_data,beq_eq_false_iff_ne]
 intro e
 apply h
 cases a;cases b
 simp only [ByteArray.mk.injEq]
 exact Array.toList_inj.1 e
theorem txt_eq {a b:ByteArray} (h:a=b):(a.toList==b.toList)=true:=by
 rw [h];exact beq_self_eq_true _
def mkB (l:List UInt8):ByteArray:=⟨l.toArray⟩
theorem mkB_of (s:ByteArray):mkB s.data.toList=s:=by unfold mkB;rw [Array.toArray_toList]
theorem mkB_list (l:List UInt8):(mkB l).data.toList=l:=by simp [mkB]
theorem mkB_size (l:List UInt8):(mkB l).size=l.length:=by simp [mkB,ByteArray.size]
theorem mkB_inj {a b:List UInt8} (h:mkB a=mkB b):a=b:=by rw [← mkB_list a,h,mkB_list]
theorem mkB_app (a b:List UInt8):mkB a++mkB b=mkB (a++b):=by
 apply ByteArray.ext;simp [mkB]
abbrev eB (c:UInt8):Value:=.int .u8 (c.toNat:Int)
abbrev eT (t:List UInt8):Value:=.string (mkB t)
abbrev eN (n:Nat):Value:=.int .i64 (n:Int)
theorem byte_ne {c d:UInt8} (h:¬ c=d):((c.toNat:Int)==(d.toNat:Int))=false:=by
 rw [beq_eq_false_iff_ne]
 intro e
 exact h (UInt8.toNat_inj.1 (by omega))
def Rw {α:Type} (enc:α→Value) (w:World) (v:Value) (l:List α):Prop :=
 ∃ a c,v=.slice a l.length c∧l.length≤c∧(a=none→c=0)∧(0<l.length→∃ b o,a=some ⟨b,o,none⟩∧b<w.heap.size∧∀ j,(h:j<l.length)→w.cell? ⟨b,o+j,none⟩=some (enc l[j]))
theorem Rw.below {α:Type} {enc:α→Value} {w w':World} {v:Value} {l:List α} (h:Rw enc w v l) (hb:Below w.heap.size w w'):Rw enc w' v l:=by
 obtain⟨a,c,hv,h1,h2,h3⟩:=h
 refine⟨a,c,hv,h1,h2,fun hp=>?_⟩
 obtain⟨b,o,e,hlt,hc⟩:=h3 hp
 exact⟨b,o,e,Nat.lt_of_lt_of_le hlt hb.size,fun j hj=>(hb.cell (by exact hlt)).trans (hc j hj)⟩
theorem Rw.form {α:Type} {enc:α→Value} {w:World} {v:Value} {l:List α} {n:Nat} (hn:l.length=n) (h:Rw enc w v l):∃ a c,v=.slice a n c∧n≤c∧(a=none→c=0)∧(0<n→∃ b o,a=some ⟨b,o,none⟩∧b<w.heap.size∧∀ j,(h:j<l.length)→w.cell? ⟨b,o+j,none⟩=some (enc l[j])):=by
 subst hn;exact h
theorem Rw.at {α:Type} {enc:α→Value} {w:World} {a:Option Addr} {n c:Nat} {l:List α} (h:Rw enc w (.slice a n c) l):l.length=n∧n≤c∧(a=none→c=0)∧(0<n→∃ b o,a=some ⟨b,o,none⟩∧b<w.heap.size∧∀ j,(h:j<l.length)→w.cell? ⟨b,o+j,none⟩=some (enc l[j])):=by
 obtain⟨a',c',hv,h1,h2,h3⟩:=h
 cases hv
 exact⟨rfl,h1,h2,h3⟩
theorem Rw.nil {α:Type} (enc:α→Value) (w:World):Rw enc w (.slice none 0 0) ([]:List α):=⟨none,0,rfl,Nat.le_refl _,fun _=>rfl,fun h=>absurd h (by simp)⟩
theorem Rw.own {α:Type} {enc:α→Value} {w:World} {B e:TypeId} {v:Value} {l:List α} (h:w.ownsRow B e 1 v l.length (l.map enc)):Rw enc w v l:=by
 rcases h.2 with ⟨rfl,hn⟩|⟨g,cap,cur,rfl,hb,hg,hnc,hcm,hcs,htk⟩
 ·have h0:l=[]:=List.eq_nil_of_length_eq_zero hn
  subst h0
  exact Rw.nil _ _
 ·refine⟨_,_,rfl,by omega,fun h=>(by cases h),fun _=>⟨g,0,rfl,lt_of_block hg,fun j hj=>?_⟩⟩
  have h1:(cur.toList.take (l.length*1))[j]?=some (enc l[j]):=by
   rw [htk];simp [hj]
  rw [List.getElem?_take] at h1
  split at h1
  ·rw [Nat.zero_add]
   simpa [World.cell?,hg] using h1
  ·cases h1
theorem Rw.drop {α:Type} {enc:α→Value} {w:World} {a:Option Addr} {n c:Nat} {l:List α} (h:Rw enc w (.slice a n c) l) (k:Nat) (hk:k≤n):Rw enc w (.slice (if c=k then a else a.map (·.add k)) (n-k) (c-k)) (l.drop k):=by
 obtain⟨h0,h1,h2,h3⟩:=h.at
 refine⟨_,_,by rw [List.length_drop,h0],by rw [List.length_drop];omega,fun e=>?_,fun hp=>?_⟩
 ·split at e
  ·have:=h2 e;omega
  ·have:=h2 (by simpa using e);omega
 ·rw [List.length_drop,h0] at hp
  obtain⟨b,o,rfl,hb,hc⟩:=h3 (by omega)
  rw [if_neg (by omega)]
  refine⟨b,o+k,by simp [add0],hb,fun j hj=>?_⟩
  rw [List.length_drop] at hj
  have:=hc (k+j) (by omega)
  rw [List.getElem_drop,← this,Nat.add_assoc]
theorem Rw.take {α:Type} {enc:α→Value} {w:World} {a:Option Addr} {n c:Nat} {l:List α} (h:Rw enc w (.slice a n c) l) (k:Nat) (hk:k≤n):Rw enc w (.slice a k c) (l.take k):=by
 obtain⟨h0,h1,h2,h3⟩:=h.at
 have hl:(l.take k).length=k:=by rw [List.length_take];omega
 refine⟨_,_,by rw [hl],by omega,h2,fun hp=>?_⟩
 rw [hl] at hp
 obtain⟨b,o,rfl,hb,hc⟩:=h3 (by omega)
 refine⟨b,o,rfl,hb,fun j hj=>?_⟩
 rw [hl] at hj
 rw [hc j (by omega),List.getElem_take]
theorem run_from {t:TypeId} (ht:Tryz.prog.underlying t=some (.slice (Tryz.prog.elem t))) (hz:∀ w,(Go.sizeOf (Tryz.prog.elem t)).run Tryz.prog w=.ok 1 w) (a:Option Addr) (n c k:Nat) (hk:k≤n) (_:n≤c) (W:World) :
  (Instr.slice t (.slice a n c) (some (.int .i64 (k:Int))) none none).run Tryz.prog W=.ok (.slice (if c=k then a else a.map (·.add k)) (n-k) (c-k)) W:=by
 rw [run_slice_l W t a n c ht .i64 (k:Int) (by omega) (by omega)]
 simp [hz,Result.andThen,sliced]
theorem run_upto {t:TypeId} (ht:Tryz.prog.underlying t=some (.slice (Tryz.prog.elem t))) (hz:∀ w,(Go.sizeOf (Tryz.prog.elem t)).run Tryz.prog w=.ok 1 w) (a:Option Addr) (n c k:Nat) (hk:k≤n) (hc:n≤c) (W:World) :
  (Instr.slice t (.slice a n c) none (some (.int .i64 (k:Int))) none).run Tryz.prog W=.ok (.slice a k c) W:=by
 rw [run_slice_h W t a n c ht .i64 (k:Int) (by omega) (by omega)]
 by_cases h:c=0
 ·simp [hz,Result.andThen,sliced,h]
 ·simp [hz,Result.andThen,sliced,h,Addr.add]
theorem run_part {t:TypeId} (ht:Tryz.prog.underlying t=some (.slice (Tryz.prog.elem t))) (hz:∀ w,(Go.sizeOf (Tryz.prog.elem t)).run Tryz.prog w=.ok 1 w) (a:Option Addr) (n c k m:Nat) (hk:k≤m) (hm:m≤n) (hc:n≤c) (W:World) :
  (Instr.slice t (.slice a n c) (some (.int .i64 (k:Int))) (some (.int .i64 (m:Int))) none).run Tryz.prog W=.ok (.slice (if c=k then a else a.map (·.add k)) (m-k) (c-k)) W:=by
 rw [run_slice_lh W t a n c ht .i64 .i64 (k:Int) (m:Int) (by omega) (by omega) (by omega)]
 simp [hz,Result.andThen,sliced]
theorem size8 (w:World):(Go.sizeOf (Tryz.prog.elem 23)).run Tryz.prog w=.ok 1 w:=by kernel_rfl
theorem und8:Tryz.prog.underlying 23=some (.slice (Tryz.prog.elem 23)):=Tryz.underlying23
theorem conv_at {w:World} {v:Value} {l:List UInt8} (h:Rw eB w v l):(convert 23 9 v).run Tryz.prog w=.ok (.string (mkB l)) w:=by
 obtain⟨a,c,rfl,h1,h2,h3⟩:=h
 by_cases hp:0<l.length
 ·obtain⟨b,o,rfl,hb,hc⟩:=h3 hp
  exact run_convert_bytes_back w 23 9 5 ⟨b,o,none⟩ c l Tryz.underlying23 Tryz.underlying5 Tryz.underlying9 (fun j hj=>by rw [add0];exact hc j hj)
 ·have h0:l=[]:=List.eq_nil_of_length_eq_zero (by omega)
  subst h0
  cases a with
  | none=>exact run_convert_bytes_nil w 23 5 Tryz.underlying23 Tryz.underlying5 _ c 9 Tryz.underlying9
  | some a=>exact run_convert_bytes_back w 23 9 5 a c [] Tryz.underlying23 Tryz.underlying5 Tryz.underlying9 (fun j hj=>by cases hj)
def ixI (l:List UInt8):Int:=match fz l with
 | none=>-1
 | some i=>(i:Int)
theorem ix_is:∀ l:List UInt8,Lib.indexByte l 0=ixI l
 | []=>rfl
 | c::r=>by
  have ih:=ix_is r
  unfold Lib.indexByte ixI fz
  by_cases hc:c=0
  ·rw [if_pos (by simpa using hc),if_pos hc];rfl
  ·rw [if_neg (by simpa using hc),if_neg hc,ih]
   unfold ixI
   cases fz r with
   | none=>rfl
   | some i =>
    simp only [Option.map_some]
    rw [if_neg (by rw [beq_iff_eq];omega)];rfl
theorem run_ix {w:World} {v:Value} {l:List UInt8} (h:Rw eB w v l) (P:Program):(Extern.BytealgIndexByte.indexByte #[v,.int .u8 0]).run P w=.ok (.int .i64 (ixI l)) w:=by
 obtain⟨a,c,rfl,h1,h2,h3⟩:=h
 by_cases hp:0<l.length
 ·obtain⟨b,o,rfl,hb,hc⟩:=h3 hp
  have:=Lib.run_indexByteSlice (P:=P) w b o l.length c (l.map fun x=>(x.toNat:Int)) (by simp) (fun i hi=>by rw [hc i hi];simp [eB,List.getD,hi]) 0
  have e:Lib.bytesOf (l.map fun x=>(x.toNat:Int))=l:=by
   simp [Lib.bytesOf,Function.comp_def]
  rw [e] at this
  rw [← ix_is];exact this
 ·have h0:l=[]:=List.eq_nil_of_length_eq_zero (by omega)
  subst h0
  cases a with
  | none=>exact Lib.run_indexByteNil w _ c 0
  | some a =>
   have hs:=Lib.run_indexByteString (P:=P) .empty 0 w
   exact hs
theorem bix_at (v:Value) (l:List UInt8) (w:World) (h:Rw eB w v l):Calls Tryz.prog 182 #[v,.int .u8 0] w fun e w'=>e=.returned (.int .i64 (ixI l))∧w=w':=by
 have hr:=run_ix h Tryz.prog
 obtain⟨a,c,rfl,-⟩:=h
 go_enter Tryz.func182,Tryz.ntmps182
 go_wp2
 rw [run_callFunc_extern Tryz.func190 (by kernel_rfl) (by kernel_rfl) (by kernel_rfl) (e:=Extern.BytealgIndexByte.indexByte) (by kernel_rfl),hr]
 simp only [Result.andThen]
 rw [Oper.upon_value]
 go_wp2
 go_ret
 exact⟨rfl,rfl⟩
theorem bindex_at (v:Value) (l:List UInt8) (g:Nat) (w:World) (h:Rw eB w v l) (hg:w.cell? ⟨g,0,none⟩=some (.int .u8 0)):Calls Tryz.prog 157 #[v,.slice (some ⟨g,0,none⟩) 1 1] w fun e w'=>e=.returned (.int .i64 (ixI l))∧w=w':=by
 have HI:=Lib.hid (bix_at v l w h)
 obtain⟨a,c,rfl,-⟩:=h
 generalize ixI l=x at HI ⊢
 go_enter Tryz.func157,Tryz.ntmps157
 go_wp2_with (go_at_call 182;((with_reducible refine (HI.out).mono ?_);rintro e w1 ⟨rfl,rfl⟩))
 go_ret
 exact⟨rfl,rfl⟩
theorem ixI_some {l:List UInt8} {i:Nat} (h:fz l=some i):ixI l=(i:Int):=by unfold ixI;rw [h]
theorem ixI_none {l:List UInt8} (h:fz l=none):ixI l=-1:=by unfold ixI;rw [h]
theorem cut_none (a:Option Addr) (n c:Nat) (l:List UInt8) (g:Nat) (w:World) (h:Rw eB w (.slice a n c) l) (hg:w.cell? ⟨g,0,none⟩=some (.int .u8 0)) (hf:fz l=none) :
  Calls Tryz.prog 142 #[.slice a n c,.slice (some ⟨g,0,none⟩) 1 1] w fun e w'=>e=.returned (.tuple #[.slice a n c,.slice none 0 0,.bool false])∧∃ m,w'=w.drewN m:=by
 have HI:=Lib.hid (bindex_at _ l g w h hg)
 rw [ixI_none hf] at HI
 go_enter Tryz.func142,Tryz.ntmps142
 go_wp2_with (go_at_call 157;((with_reducible refine (HI.out).mono ?_);rintro e w1 ⟨rfl,rfl⟩))
 refine bodyPost_ret (v:=.tuple #[.slice a n c,.slice none 0 0,.bool false]) (by simp [results,Tryz.results142,go_sem]) rfl ⟨rfl,0,rfl⟩
theorem cut_some (a:Option Addr) (n c:Nat) (l:List UInt8) (g i:Nat) (w:World) (hn:n≤1000000000) (h:Rw eB w (.slice a n c) l) (hg:w.cell? ⟨g,0,none⟩=some (.int .u8 0)) (hf:fz l=some i) :
  Calls Tryz.prog 142 #[.slice a n c,.slice (some ⟨g,0,none⟩) 1 1] w fun e w'=>(∃ v2,e=.returned (.tuple #[.slice a i c,v2,.bool true]))∧∃ m,w'=w.drewN m:=by
 have HI:=Lib.hid (bindex_at _ l g w h hg)
 rw [ixI_some hf] at HI
 obtain⟨h0,h1,-,-⟩:=h.at
 have hi:=(fz_some hf).1
 have s1:=run_upto und8 size8 a n c i (by omega) h1
 have s2:=run_from und8 size8 a n c (i+1) (by omega) h1
 generalize (if c=i+1 then a else a.map (·.add (i+1)))=a2 at s2
 generalize n-(i+1)=n2 at s2
 generalize c-(i+1)=c2 at s2
 have e1:((i+1:Nat):Int)=(i:Int)+1:=by omega
 rw [e1] at s2
 have hmx:Tryz.prog.follows .mixedOrders=true:=by kernel_rfl
 have hi2:i<1000000000:=by omega
 clear h hf hi h0 e1
 go_enter Tryz.func142,Tryz.ntmps142
 go_upto_region 3 with (go_at_call 157;((with_reducible refine (HI.out).mono ?_);rintro e w1 ⟨rfl,rfl⟩))
 go_quiet (fail)
 go_wp2
 refine bodyPost_ret (v:=.tuple #[.slice a i c,.slice a2 n2 c2,.bool true]) (by simp [results,Tryz.results142,go_sem]) rfl ⟨⟨_,rfl⟩,_,rfl⟩
end Go.Proofs.YtohkgdfkklfgmaaGreatDoor.L14
end
section
set_option maxRecDepth 100000
set_option maxHeartbeats 4000000
namespace Go.Proofs.YtohkgdfkklfgmaaGreatDoor.L14
set_option maxRecDepth 100000
open Go.RowKit
attribute [local go_sem] Oper.semAt_some
theorem bequal_at (v1 v2:Value) (l1 l2:List UInt8) (b:Bool) (w:World) (h1:Rw eB w v1 l1) (h2:Rw eB w v2 l2) (hb:b=true↔l1=l2) :
  Calls Tryz.prog 36 #[v1,v2] w fun e w'=>e=.returned (.bool b)∧w=w':=by
 have k1:=conv_at h1
 have k2:=conv_at h2
 have ht:((mkB l1).toList==(mkB l2).toList)=b:=by
  cases b with
  | true=>exact txt_eq (by rw [hb.1 rfl])
  | false=>exact txt_ne (fun e=>by simpa using hb.2 (mkB_inj e))
 obtain⟨a1,c1,rfl,-⟩:=h1
 obtain⟨a2,c2,rfl,-⟩:=h2
 generalize mkB l1=T1 at k1 ht
 generalize mkB l2=T2 at k2 ht
 generalize l1.length=n1 at k1 ⊢
 generalize l2.length=n2 at k2 ⊢
 clear hb
 go_enter Tryz.func36,Tryz.ntmps36
 go_wp2
 go_ret
 exact⟨rfl,rfl⟩
theorem sixb_at (t:List UInt8) (T:ByteArray) (hT:T=mkB t) (w:World):Calls Tryz.prog 178 #[.string T,.int .u8 0] w fun e w'=>e=.returned (.int .i64 (ixI t))∧w=w':=by
 have hr:=Lib.run_indexByteString (P:=Tryz.prog) T 0
 have e:Lib.indexByte T.data.toList 0=ixI t:=by rw [hT,mkB_list,ix_is]
 go_enter Tryz.func178,Tryz.ntmps178
 go_wp2
 rw [run_callFunc_extern Tryz.func188 (by kernel_rfl) (by kernel_rfl) (by kernel_rfl) (e:=Extern.BytealgIndexByte.indexByte) (by kernel_rfl),Lib.run_indexByteString]
 simp only [Result.andThen]
 rw [Oper.upon_value]
 go_wp2
 go_ret
 exact⟨by rw [← e,hT];rfl,rfl⟩
theorem sindex_at (t:List UInt8) (T:ByteArray) (hT:T=mkB t) (w:World):Calls Tryz.prog 156 #[.string T,.string ⟨#[0]⟩] w fun e w'=>e=.returned (.int .i64 (ixI t))∧w=w':=by
 have HI:=Lib.hid (fun w=>sixb_at t T hT w)
 have hix:∀ w,(Instr.index 9 (.string ⟨#[0]⟩) (.int .i64 0)).run Tryz.prog w=.ok (.int .u8 0) w:=fun w=>by
  rw [run_index_string w 9 ⟨#[0]⟩ .i64 0 Tryz.underlying9,dif_pos (by decide)];rfl
 by_cases hs:T.data.toList=[0]
 ·have hx:ixI t=0:=by
   have:t=[0]:=by rw [← mkB_list t,← hT,hs]
   rw [this];rfl
  have t1:(([0]:List UInt8)==T.toList)=true:=by rw [Lib.toList_data,hs];rfl
  rw [hx]
  clear hs hx HI hT
  go_enter Tryz.func156,Tryz.ntmps156
  go_wp2
  go_ret
  exact⟨rfl,rfl⟩
 ·have t1:(([0]:List UInt8)==T.toList)=false:=by
   rw [Lib.toList_data,beq_eq_false_iff_ne]
   exact fun e=>hs e.symm
  clear hs hT
  generalize ixI t=x at HI ⊢
  go_enter Tryz.func156,Tryz.ntmps156
  go_wp2_with (go_at_call 178;((with_reducible refine (HI.out _).mono ?_);rintro e w1 ⟨rfl,rfl⟩))
  go_ret
  exact⟨rfl,rfl⟩
theorem sindex2_at (t:List UInt8) (T:ByteArray) (hT:T=mkB t) (w:World):Calls Tryz.prog 140 #[.string T,.string ⟨#[0]⟩] w fun e w'=>e=.returned (.int .i64 (ixI t))∧w=w':=by
 have HI:=Lib.hid (fun w=>sindex_at t T hT w)
 generalize ixI t=x at HI ⊢
 clear hT
 go_enter Tryz.func140,Tryz.ntmps140
 go_wp2_with (go_at_call 156;((with_reducible refine (HI.out _).mono ?_);rintro e w1 ⟨rfl,rfl⟩))
 go_ret
 exact⟨rfl,rfl⟩
theorem scont_at (t:List UInt8) (T:ByteArray) (hT:T=mkB t) (b:Bool) (hb:(fz t).isSome=b) (w:World):Calls Tryz.prog 95 #[.string T,.string ⟨#[0]⟩] w fun e w'=>e=.returned (.bool b)∧w=w':=by
 have HI:=Lib.hid (fun w=>sindex2_at t T hT w)
 have h0:decide (0≤ixI t)=b:=by
  rw [← hb]
  unfold ixI
  cases fz t with
  | none=>rfl
  | some i=>simp
 generalize ixI t=x at HI h0
 clear hT hb
 cases b
 ·have h1:¬ (0≤x):=of_decide_eq_false h0
  clear h0
  go_enter Tryz.func95,Tryz.ntmps95
  go_wp2_with (go_at_call 140;((with_reducible refine (HI.out _).mono ?_);rintro e w1 ⟨rfl,rfl⟩))
  go_ret
  exact⟨congrArg Ending.returned (congrArg Value.bool (by simpa using h1)),rfl⟩
 ·have h1:0≤x:=of_decide_eq_true h0
  clear h0
  go_enter Tryz.func95,Tryz.ntmps95
  go_wp2_with (go_at_call 140;((with_reducible refine (HI.out _).mono ?_);rintro e w1 ⟨rfl,rfl⟩))
  go_ret
  exact⟨congrArg Ending.returned (congrArg Value.bool (by simp)),rfl⟩
end Go.Proofs.YtohkgdfkklfgmaaGreatDoor.L14
end
section
set_option maxRecDepth 100000
set_option maxHeartbeats 4000000
namespace Go.Proofs.YtohkgdfkklfgmaaGreatDoor.L14
set_option maxRecDepth 100000
open Go.RowKit
attribute [local go_sem] Oper.semAt_some
def gtI (l:List UInt8) (off:Int):Option (List UInt8):=if 0≤off then gtx l off.toNat else none
theorem gtx_some {l:List UInt8} {k:Nat} {t:List UInt8} (h:gtx l k=some t):∃ i,fz (l.drop k)=some i∧t=(l.drop k).take i:=by
 unfold gtx at h
 cases hf:fz (l.drop k) with
 | none=>rw [hf] at h;cases h
 | some i=>rw [hf] at h;cases h;exact⟨i,rfl,rfl⟩
theorem gtx_lt {l:List UInt8} {k:Nat} {t:List UInt8} (h:gtx l k=some t):k<l.length:=by
 obtain⟨i,hi,-⟩:=gtx_some h
 have:=(fz_some hi).1
 rw [List.length_drop] at this;omega
def rgE (l:List UInt8) (off:Int):Ending:=match gtI l off with
 | none=>.returned (.tuple #[.string ⟨#[]⟩,.bool false])
 | some t=>.returned (.tuple #[.string (mkB t),.bool true])
theorem fz_cons0 (r:List UInt8):fz (0::r)=some 0:=by rw [fz,if_pos rfl]
theorem fz_consN {c:UInt8} (h:¬ c=0) (r:List UInt8):fz (c::r)=(fz r).map (·+1):=by rw [fz,if_neg h]
theorem rget_at (v:Value) (l:List UInt8) (off:Int) (w:World) (hl:l.length≤1000000000) (h:Rw eB w v l) :
  Calls Tryz.prog 72 #[v,.int .i64 off] w fun e w'=>e=rgE l off∧w=w':=by
 obtain⟨n,hn⟩:∃ n,l.length=n:=⟨_,rfl⟩
 obtain⟨a,c,rfl,hc,-,hcl⟩:=h.form hn
 obtain⟨R,hR⟩:∃ R,rgE l off=R:=⟨_,rfl⟩
 rw [hR]
 unfold rgE gtI at hR
 by_cases h0:0≤off
 ·obtain⟨k,rfl⟩:∃ k:Nat,off=(k:Int):=⟨off.toNat,by omega⟩
  rw [if_pos h0,Int.toNat_natCast] at hR
  by_cases hk:k<n
  ·have HG:Hid (gtx l k=(fz (l.drop (k+0))).map fun i=>(l.drop k).take (0+i)):=Lib.hid (by simp [gtx])
   have HL:=Lib.hid h
   have HCL:=Lib.hid hcl
   have HN:=Lib.hid hn
   have HR:=Lib.hid hR
   rw [hn] at hl
   clear h hcl hn hR
   go_enter Tryz.func72,Tryz.ntmps72
   go_wp2
   go_loop [6,7] (fun s i=>∃ q:Nat,k+q≤n∧i=.int .i64 ((k:Int)+(q:Int))∧Hid (gtx l k=(fz (l.drop (k+q))).map fun i=>(l.drop k).take (q+i))∧∃ T:ByteArray,s=.string T∧T.size=q∧Hid (T=mkB ((l.drop k).take q))) (fun _ i=>n-(intOf i).toNat)
   case atStart=>exact⟨0,by omega,by simp,HG,⟨#[]⟩,rfl,rfl,Lib.hid (by simp [mkB])⟩
   case round =>
    obtain⟨q,hq,rfl,hG,T,rfl,hTs,hT⟩:=hrel
    clear HG
    by_cases hlt:k+q<n
    ·have hkl:k+q<l.length:=by rw [HN.out];exact hlt
     obtain⟨b,o,rfl,hb,hcc⟩:=HCL.out (by omega)
     have hx:=hcc (k+q) hkl
     have hd:l.drop (k+q)=l[k+q]::l.drop (k+q+1):=List.drop_eq_getElem_cons hkl
     have hG1:=hG.out
     rw [hd] at hG1
     have hlt':(k:Int)+(q:Int)<(n:Int):=by omega
     have hx2:w.cell? ⟨b,o+(k+q),none⟩=some (.int .u8 (l[k+q].toNat:Int)):=hx
     by_cases hz:l[k+q]=0
     ·rw [hz,fz_cons0] at hG1
      rw [hz] at hx2
      have HT:Hid (R=.returned (.tuple #[.string T,.bool true])):=Lib.hid (by rw [← HR.out,hG1,hT.out];rfl)
      have e0:((0:UInt8).toNat:Int)=0:=rfl
      rw [e0] at hx2
      clear hx hcc hd hG1 hG hz hT
      go_wp2
      refine bodyPost_ret (v:=.tuple #[.string T,.bool true]) (by simp [results,Tryz.results72,go_sem]) rfl ⟨HT.out.symm,rfl⟩
     ·rw [fz_consN hz,Option.map_map] at hG1
      have hne:((l[k+q].toNat:Int)==0)=false:=byte_ne (d:=0) hz
      have hs1:=run_part und8 size8 (some ⟨b,o,none⟩) n c (k+q) (k+q+1) (by omega) (by omega) hc
      have hv1:=(HL.out.drop (k+q) (by omega)).take 1 (by omega)
      rw [hd] at hv1
      have hcv:=conv_at hv1
      rw [show k+q+1-(k+q)=1 by omega] at hs1
      generalize (if c=k+q then some (⟨b,o,none⟩:Addr) else (some (⟨b,o,none⟩:Addr)).map (·.add (k+q)))=a2 at hs1 hcv
      generalize c-(k+q)=c2 at hs1 hcv
      have e1:((k+q:Nat):Int)=(k:Int)+(q:Int):=by omega
      have e2:((k+q+1:Nat):Int)=(k:Int)+(q:Int)+1:=by omega
      rw [e1,e2] at hs1
      obtain⟨U,hU⟩:∃ U,mkB ((l[k+q]::l.drop (k+q+1)).take 1)=U:=⟨_,rfl⟩
      rw [hU] at hcv
      have hTU:T++U=mkB ((l.drop k).take (q+1)):=by
       rw [hT.out,← hU,mkB_app]
       congr 1
       rw [List.take_add_one (i:=q),List.getElem?_drop,List.getElem?_eq_getElem hkl];rfl
      have hUs:U.size=1:=by rw [← hU,mkB_size];rfl
      have hG2:gtx l k=(fz (l.drop (k+(q+1)))).map fun i=>(l.drop k).take (q+1+i):=by
       rw [hG1,Nat.add_assoc]
       congr 1
       funext i
       show (l.drop k).take (q+(i+1))=_
       congr 1;omega
      have HG2:=Lib.hid hG2
      have HTU:=Lib.hid hTU
      have hT1:T.size+U.size≤9223372036854775807:=by omega
      have hT2:T.size+U.size≤maxLen:=by unfold maxLen;omega
      obtain⟨d,hd2⟩:∃ d:Int,(l[k+q].toNat:Int)=d:=⟨_,rfl⟩
      rw [hd2] at hx2 hne
      have hx3:w.cell? ⟨b,o+((k:Int)+(q:Int)).toNat,none⟩=some (.int .u8 d):=by rw [← hx2];congr 2
      clear hx hcc hd hG1 hG hz hT hTU hU hG2 hv1 e1 e2 hd2
      go_wp2
      go_round
      case rel=>exact⟨q+1,by omega,by go_num,HG2,T++U,rfl,by rw [ByteArray.size_append];omega,HTU⟩
      case measure=>simp [intOf];omega
    ·obtain rfl:n=k+q:=by omega
     have hG1:=hG.out
     have hz0:l.drop (k+q)=[]:=List.drop_eq_nil_of_le (by rw [HN.out];exact Nat.le_refl _)
     rw [hz0] at hG1
     have HT:Hid (R=.returned (.tuple #[.string ⟨#[]⟩,.bool false])):=Lib.hid (by rw [← HR.out,hG1];rfl)
     have hge:¬ ((k:Int)+(q:Int)<((k+q:Nat):Int)):=by omega
     clear hG hG1 hT hz0
     go_wp2
     refine bodyPost_ret (v:=.tuple #[.string ⟨#[]⟩,.bool false]) (by simp [results,Tryz.results72,go_sem]) rfl ⟨HT.out.symm,rfl⟩
  ·have hgt:gtx l k=none:=by
    cases hq:gtx l k with
    | none=>rfl
    | some t=>have:=gtx_lt hq;omega
   rw [hgt] at hR
   have hR:=hR.symm
   subst hR
   have hge:¬ ((k:Int)<(n:Int)):=by omega
   clear h hn hgt hcl
   go_enter Tryz.func72,Tryz.ntmps72
   go_wp2
   refine wp_loop_rounds 1 ?_
   rw [rounds_succ]
   go_wp2
   refine bodyPost_ret (v:=.tuple #[.string ⟨#[]⟩,.bool false]) (by simp [results,Tryz.results72,go_sem]) rfl ⟨rfl,rfl⟩
 ·rw [if_neg h0] at hR
  have hR:=hR.symm
  subst hR
  have hneg:off<0:=by omega
  clear h hn hcl
  go_enter Tryz.func72,Tryz.ntmps72
  go_wp2
  refine bodyPost_ret (v:=.tuple #[.string ⟨#[]⟩,.bool false]) (by simp [results,Tryz.results72,go_sem]) rfl ⟨rfl,rfl⟩
end Go.Proofs.YtohkgdfkklfgmaaGreatDoor.L14
end
