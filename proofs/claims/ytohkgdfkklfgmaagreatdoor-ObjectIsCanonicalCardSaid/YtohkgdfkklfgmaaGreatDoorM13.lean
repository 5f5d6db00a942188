/- Lemmas and walks of L10Pg, L10Opn, L10Sml, L10Cks, L10Ea, L10Cn, L10Sam, L10Con, L10Fb, L10Lb, L10Fbw: what each theorem states; conditions stand in each theorem. -/
import Derived.Test.YtohkgdfkklfgmaaGreatDoorM10
import Derived.Test.YtohkgdfkklfgmaaGreatDoorM2
import Derived.Test.YtohkgdfkklfgmaaGreatDoorM5
import Derived.Test.YtohkgdfkklfgmaaGreatDoorM8
import Derived.Deep.Slices
import Derived.ProofKit
import Derived.OpenShut
import Derived.SliceStrings
import Derived.Deep.RegionHeld3
import Derived.Laws.EntriesVeiled
import Derived.Deep.QuietTactic
import Derived.BigQuiet
import Derived.Laws.CopyOwn
section
namespace Go.Proofs.YtohkgdfkklfgmaaGreatDoor.L10
open Go.RowKit Go.Maps
structure Stm where
 labs:List ByteArray
 x:L9.Ins
 tg:ByteArray
 mp:ByteArray
structure Pg where
 maps:List L9.Df
 stmts:List Stm
abbrev dfL (d:L9.Df):List Value:=[.string d.nm,.int .i64 d.key,.int .i64 d.val,.int .i64 d.ent]
abbrev inL (x:L9.Ins):List Value:=[.int .i64 x.op,.bool x.reg,.int .i64 x.dst,.int .i64 x.src,.int .i64 x.off,.int .i64 x.imm]
abbrev smL (lv:Value) (s:Stm):List Value:=[lv,.int .i64 s.x.op,.bool s.x.reg,.int .i64 s.x.dst,.int .i64 s.x.src,.int .i64 s.x.off,.int .i64 s.x.imm,.string s.tg,.string s.mp]
def feF:Nat→List Int→Nat × Int
 | _,[]=>(0,0)
 | k,e::r=>if e=0 then feF (k+1) r else (k,e)
def fe (l:List Int):Nat × Int:=feF 0 l
theorem feF_zero:∀ (l:List Int) (k:Nat),(∀ e∈l,e=0)→feF k l=(0,0)
 | [],_,_=>rfl
 | e::r,k,h=>by rw [feF,if_pos (h e (by simp))];exact feF_zero r (k+1) fun x hx=>h x (by simp [hx])
theorem feF_none:∀ (l:List Int) (k:Nat),(feF k l).2=0→∀ e∈l,e=0
 | [],_,_=>by simp
 | e::r,k,h=>by
  rw [feF] at h
  by_cases he:e=0
  ·rw [if_pos he] at h
   intro x hx
   rcases List.mem_cons.1 hx with rfl|hx
   ·exact he
   ·exact feF_none r (k+1) h x hx
  ·rw [if_neg he] at h;exact absurd h he
theorem feF_step (l:List Int) (j:Nat) (h:j<l.length):feF j (l.drop j)=if l[j]=0 then feF (j+1) (l.drop (j+1)) else (j,l[j]):=by
 rw [List.drop_eq_getElem_cons h,feF]
theorem feF_end (l:List Int) (j:Nat) (h:l.length≤j):feF j (l.drop j)=(0,0):=by
 rw [List.drop_eq_nil_of_le h];rfl
def upB (g n:Int):Bool:=decide (1≤n) && decide (n≤g)
def deE (d:L9.Df):Int:=if L2.vd d.nm then (if (upB 64 d.key && upB 256 d.val) && upB 1024 d.ent then 0 else 9) else 7
def chI (x:L9.Ins):Int:=L4.chkF (L3.frm (L3.ix x.op)) x.reg x.dst x.src x.off x.imm
def fmI (x:L9.Ins):Int:=L3.frm (L3.ix x.op)
def jmI (x:L9.Ins):Bool:=L4.jmpF (fmI x)
def rfI (x:L9.Ins):Bool:=fmI x==11
def badF (s:Stm):Bool:=(jmI s.x && s.x.off != 0) || (rfI s.x && s.x.imm != 0) || (!jmI s.x && !s.tg.toList.isEmpty) || (!rfI s.x && !s.mp.toList.isEmpty)
def badN (s:Stm):Bool:=(jmI s.x && !L2.vd s.tg) || (rfI s.x && !L2.vd s.mp)
def stE (s:Stm):Int:=if s.labs.all L2.vd then (if chI s.x=0 then (if badF s then 12 else if badN s then 7 else 0) else chI s.x) else 7
def addB:List ByteArray→List ByteArray→Bool
 | _,[]=>true
 | ks,x::r=>if L2.on ks x then false else addB (ks++[x]) r
def szE (n:Nat):List Int:=(List.range n).map fun i=>if i<255 then 0 else 16
def dpE:List ByteArray→List (List ByteArray)→List Int
 | _,[]=>[]
 | ks,l::r=>(if addB ks l then 0 else 10)::dpE (ks++l) r
def alL (p:Pg):List ByteArray:=p.stmts.flatMap (·.labs)
def mpL (p:Pg):List ByteArray:=p.maps.map (·.nm)
def unE (p:Pg) (s:Stm):Int:=if (s.tg.toList.isEmpty || L2.on (alL p) s.tg) && (s.mp.toList.isEmpty || L2.on (mpL p) s.mp) then 0 else 11
def wrE (s:Stm):Int:=if L4.wri (fmI s.x) s.x.dst=10 then 14 else 0
def enE (n:Nat) (i:Nat) (s:Stm):Int:=if decide ((i:Int)<(n:Int)-1) || L4.endF (fmI s.x) then 0 else 15
def cnd (p:Pg):List (Bool × Nat × Int) :=
 [(true,fe (p.maps.map deE)),(false,fe (p.stmts.map stE)),(true,fe (szE p.maps.length)),(true,fe (dpE [] (p.maps.map fun d=>[d.nm]))),
  (false,fe (dpE [] (p.stmts.map (·.labs)))),(false,(0,if 0<p.stmts.length then 0 else 15)),(false,fe (p.stmts.map (unE p))),(false,fe (p.stmts.map wrE)),
  (false,fe (p.stmts.mapIdx (enE p.stmts.length)))]
def frB:List (Bool × Nat × Int)→Bool × Nat × Int
 | []=>(false,0,0)
 | c::r=>if c.2.2=0 then frB r else c
def brV (p:Pg):Bool × Nat × Int:=frB (cnd p)
theorem dpE_len:∀ (l:List (List ByteArray)) (ks:List ByteArray),(dpE ks l).length=l.length
 | [],_=>rfl
 | _::r,ks=>by rw [dpE,List.length_cons,List.length_cons,dpE_len r]
theorem dpE_get:∀ (l:List (List ByteArray)) (ks:List ByteArray) (j:Nat) (h:j<l.length),(dpE ks l)[j]?=some (if addB (ks++(l.take j).flatten) l[j] then 0 else 10)
 | a::r,ks,0,_=>by simp [dpE]
 | a::r,ks,j+1,h=>by
  rw [dpE,List.getElem?_cons_succ,dpE_get r (ks++a) j (by simpa using h),List.append_assoc]
  rfl
def stx (ks:List ByteArray):List Lit:=ks.map L2.txt
def Sl (ks:List ByteArray):DataW Unit:=setOf (.lit (.bool true)) (stx ks)
theorem stx_mem (ks:List ByteArray) (x:ByteArray):L2.txt x∈stx ks↔x∈ks:=by
 unfold stx
 rw [List.mem_map]
 constructor
 ·rintro ⟨y,hy,e⟩
  rw [← L2.txt_inj e];exact hy
 ·intro h;exact⟨x,h,rfl⟩
theorem stx_key (ks:List ByteArray):∀ y∈stx ks,WideAt.IsKeyLit y:=by
 intro y hy
 obtain⟨s,_,rfl⟩:=List.mem_map.1 hy
 trivial
theorem Sl_snoc (ks:List ByteArray) (x:ByteArray):Sl (ks++[x])=(Sl ks).put (L2.txt x) (.lit (.bool true)):=by
 unfold Sl stx
 rw [List.map_append]
 exact setOf_snoc _ _ _
theorem Sl_at (ks:List ByteArray) (x:ByteArray):(Sl ks).atKey (L2.txt x) (.lit (.bool false))=.lit (.bool (L2.on ks x)):=by
 cases h:L2.on ks x
 ·rw [Sl,setOf,L2.fold_out _ _ _ _ _ fun h'=>by
   have:=(L2.on_mem ks x).2 ((stx_mem ks x).1 h')
   rw [h] at this;cases this]
  rfl
 ·exact L2.fold_in _ _ _ _ _ isMap_empty (stx_key ks) ((stx_mem ks x).2 ((L2.on_mem ks x).1 h))
abbrev SetAt (w:World) (g:Nat) (ks:List ByteArray):Prop:=w.ownsMap Tryz.prog 9 (plainElem Tryz.prog 4) g ks.length (Sl ks)
def DfAt (w:World) (v:Value) (l:List L9.Df):Prop :=
 (∃ b o cap,v=.slice (some ⟨b,o,none⟩) l.length cap∧b<w.heap.size∧∀ j,(h:j<l.length)→∀ i u,(dfL l[j])[i]?=some u→w.cell? ⟨b,o+j*4+i,none⟩=some u)∨(l=[]∧∃ a cap,v=.slice a 0 cap)
def SmAt (w:World) (v:Value) (l:List Stm):Prop :=
 (∃ b o cap,v=.slice (some ⟨b,o,none⟩) l.length cap∧b<w.heap.size∧∀ j,(h:j<l.length)→∃ lv,L8.StAt w lv l[j].labs∧∀ i u,(smL lv l[j])[i]?=some u→w.cell? ⟨b,o+j*9+i,none⟩=some u)∨(l=[]∧∃ a cap,v=.slice a 0 cap)
def Kp (w w':World) (o:Option Nat):Prop:=w.grownBy w' o
theorem DfAt.below {w w':World} {v:Value} {l:List L9.Df} (h:DfAt w v l) (hb:Below w.heap.size w w'):DfAt w' v l:=by
 rcases h with ⟨b,o,cap,rfl,hlt,hc⟩|h
 ·exact .inl ⟨b,o,cap,rfl,Nat.lt_of_lt_of_le hlt hb.size,fun j hj i u hu=>(hb.cell (by exact hlt)).trans (hc j hj i u hu)⟩
 ·exact .inr h
theorem SmAt.below {w w':World} {v:Value} {l:List Stm} (h:SmAt w v l) (hb:Below w.heap.size w w'):SmAt w' v l:=by
 rcases h with ⟨b,o,cap,rfl,hlt,hc⟩|h
 ·refine .inl ⟨b,o,cap,rfl,Nat.lt_of_lt_of_le hlt hb.size,fun j hj=>?_⟩
  obtain⟨lv,h1,h2⟩:=hc j hj
  exact⟨lv,h1.below hb,fun i u hu=>(hb.cell (by exact hlt)).trans (h2 i u hu)⟩
 ·exact .inr h
def PgAt (w:World) (vm vs:Value) (p:Pg):Prop:=DfAt w vm p.maps∧SmAt w vs p.stmts
theorem PgAt.below {w w':World} {vm vs:Value} {p:Pg} (h:PgAt w vm vs p) (hb:Below w.heap.size w w'):PgAt w' vm vs p:=⟨h.1.below hb,h.2.below hb⟩
structure Fits (p:Pg):Prop where
 maps:p.maps.length≤100000
 stmts:p.stmts.length≤100000
 labs:(alL p).length≤100000
 nm:∀ d∈p.maps,d.nm.size≤maxLen
 lb:∀ s∈p.stmts,∀ t∈s.labs,t.size≤maxLen
 tg:∀ s∈p.stmts,s.tg.size≤maxLen∧s.mp.size≤maxLen
end Go.Proofs.YtohkgdfkklfgmaaGreatDoor.L10
end
section
set_option maxRecDepth 100000
namespace Go.Proofs.YtohkgdfkklfgmaaGreatDoor.L10
open Go.ChangeShapes Go.WideShapes Go.ChangeAt Go.RowKit Go.Deep
structure DfFit (d:L9.Df):Prop where
 nm:d.nm.size≤maxLen
 key:(Lit.int .i64 d.key).wf=true
 val:(Lit.int .i64 d.val).wf=true
 ent:(Lit.int .i64 d.ent).wf=true
structure SmFit (s:Stm):Prop where
 lb:∀ t∈s.labs,t.size≤maxLen
 tg:s.tg.size≤maxLen
 mp:s.mp.size≤maxLen
 op:(Lit.int .i64 s.x.op).wf=true
 dst:(Lit.int .i64 s.x.dst).wf=true
 src:(Lit.int .i64 s.x.src).wf=true
 off:(Lit.int .i64 s.x.off).wf=true
 imm:(Lit.int .i64 s.x.imm).wf=true
structure PgFit (p:Pg):Prop where
 maps:∀ d∈p.maps,DfFit d
 stmts:∀ s∈p.stmts,SmFit s
theorem list_of {α:Type} {P:Nat→α→Prop}:∀ n:Nat,(∀ i,i<n→∃ x,P i x)→∃ l:List α,l.length=n∧∀ i,(hi:i<l.length)→P i l[i]
 | 0,_=>⟨[],rfl,fun i hi=>absurd hi (by simp)⟩
 | n+1,h=>by
  obtain⟨l,hl,hp⟩:=list_of n (fun i hi=>h i (by omega))
  obtain⟨x,hx⟩:=h n (by omega)
  refine⟨l++[x],by simp [hl],fun i hi=>?_⟩
  by_cases hlt:i<l.length
  ·rw [List.getElem_append_left hlt];exact hp i hlt
  ·have:i=n:=by simp at hi;omega
   subst this
   rw [List.getElem_append_right (by omega)]
   simpa [hl] using hx
theorem cD:Tryz.prog.cellsOf 62=4:=by kernel_rfl
theorem cS:Tryz.prog.cellsOf 94=9:=by kernel_rfl
theorem cI:Tryz.prog.cellsOf 92=6:=by kernel_rfl
theorem cT:Tryz.prog.cellsOf 9=1:=by kernel_rfl
theorem cN:Tryz.prog.cellsOf 3=1:=by kernel_rfl
theorem cL:Tryz.prog.cellsOf 2=1:=by kernel_rfl
theorem cB:Tryz.prog.cellsOf 4=1:=by kernel_rfl
theorem cP:Tryz.prog.cellsOf 50=2:=by kernel_rfl
theorem cTs:Tryz.prog.cellsOf 65=1:=by kernel_rfl
theorem cDs:Tryz.prog.cellsOf 22=1:=by kernel_rfl
theorem cSs:Tryz.prog.cellsOf 48=1:=by kernel_rfl
def InAt (w:World) (v:Value) (l:List Int):Prop :=
 (∃ b o cap,v=.slice (some ⟨b,o,none⟩) l.length cap∧b<w.heap.size∧∀ j,(h:j<l.length)→w.cell? ⟨b,o+j,none⟩=some (.int .i64 l[j]))∨(l=[]∧∃ a cap,v=.slice a 0 cap)
theorem cells2p {w:World} {k:Nat} {a b:Value} {t:TypeId} (h:w.heap[k]?=some (.cells #[a,b] t)):w.cell? ⟨k,0,none⟩=some a∧w.cell? ⟨k,1,none⟩=some b:=by
 simp [World.cell?,h]
theorem InAt.below {w w':World} {v:Value} {l:List Int} (h:InAt w v l) (hb:Below w.heap.size w w'):InAt w' v l:=by
 rcases h with ⟨b,o,cap,rfl,hlt,hc⟩|h
 ·exact .inl ⟨b,o,cap,rfl,Nat.lt_of_lt_of_le hlt hb.size,fun j hj=>(hb.cell (by exact hlt)).trans (hc j hj)⟩
 ·exact .inr h
theorem in_form {w:World} {v:Value} {l:List Int} {n:Nat} (hn:l.length=n) (h:InAt w v l):∃ a c,v=.slice a n c∧(0<n→∃ b o,a=some ⟨b,o,none⟩∧b<w.heap.size∧∀ j,(h:j<l.length)→w.cell? ⟨b,o+j,none⟩=some (.int .i64 l[j])):=by
 subst hn
 rcases h with ⟨b,o,cap,rfl,hb,hc⟩|⟨rfl,a,cap,rfl⟩
 ·exact⟨_,_,rfl,fun _=>⟨b,o,rfl,hb,hc⟩⟩
 ·exact⟨a,cap,rfl,fun h=>absurd h (by simp)⟩
section
variable {H:Type} {enc:TypeId × Value→H} {W:World} {base:Nat} {sp:Nat→Bool} {held:Bool}
theorem open_def {fuel:Nat} {cs:List Value} {x:DataW H × List MemPlace} (h:DataW.trod enc Tryz.prog W base sp held fuel 62 cs=some x) :
  ∃ d:L9.Df,cs=dfL d∧DfFit d:=by
 obtain⟨xs,n,_,_,hcl,hlen,hg⟩:=DataW.trod_struct Tryz.underlying62 h
 rw [cD] at hcl
 match cs,hcl,xs,hlen with
 | [c0,c1,c2,c3],_,[y0,y1,y2,y3],_ =>
  have g0:DataW.trod enc Tryz.prog W base sp held n 9 [c0]=some y0:=by simpa [cT] using hg 0 _ rfl
  have g1:DataW.trod enc Tryz.prog W base sp held n 3 [c1]=some y1:=by simpa [cN] using hg 1 _ rfl
  have g2:DataW.trod enc Tryz.prog W base sp held n 3 [c2]=some y2:=by simpa [cN] using hg 2 _ rfl
  have g3:DataW.trod enc Tryz.prog W base sp held n 3 [c3]=some y3:=by simpa [cN] using hg 3 _ rfl
  obtain⟨s0,e0,-,k0⟩:=DataW.trod_string Tryz.underlying9 g0
  obtain⟨n1,e1,-,k1⟩:=DataW.trod_int Tryz.underlying3 g1
  obtain⟨n2,e2,-,k2⟩:=DataW.trod_int Tryz.underlying3 g2
  obtain⟨n3,e3,-,k3⟩:=DataW.trod_int Tryz.underlying3 g3
  simp only [List.cons.injEq,and_true] at e0 e1 e2 e3
  subst e0 e1 e2 e3
  exact⟨⟨s0,n1,n2,n3⟩,rfl,k0,k1,k2,k3⟩
theorem open_insC {fuel:Nat} {cs:List Value} {x:DataW H × List MemPlace} (h:DataW.trod enc Tryz.prog W base sp held fuel 92 cs=some x) :
  ∃ d:L9.Ins,cs=inL d∧(Lit.int .i64 d.op).wf=true∧(Lit.int .i64 d.dst).wf=true∧(Lit.int .i64 d.src).wf=true∧(Lit.int .i64 d.off).wf=true∧(Lit.int .i64 d.imm).wf=true:=by
 obtain⟨xs,n,_,_,hcl,hlen,hg⟩:=DataW.trod_struct Tryz.underlying92 h
 rw [cI] at hcl
 match cs,hcl,xs,hlen with
 | [c0,c1,c2,c3,c4,c5],_,[y0,y1,y2,y3,y4,y5],_ =>
  have g0:DataW.trod enc Tryz.prog W base sp held n 3 [c0]=some y0:=by simpa [cN] using hg 0 _ rfl
  have g1:DataW.trod enc Tryz.prog W base sp held n 4 [c1]=some y1:=by simpa [cB] using hg 1 _ rfl
  have g2:DataW.trod enc Tryz.prog W base sp held n 3 [c2]=some y2:=by simpa [cN] using hg 2 _ rfl
  have g3:DataW.trod enc Tryz.prog W base sp held n 3 [c3]=some y3:=by simpa [cN] using hg 3 _ rfl
  have g4:DataW.trod enc Tryz.prog W base sp held n 3 [c4]=some y4:=by simpa [cN] using hg 4 _ rfl
  have g5:DataW.trod enc Tryz.prog W base sp held n 2 [c5]=some y5:=by simpa [cL] using hg 5 _ rfl
  obtain⟨n0,e0,-,k0⟩:=DataW.trod_int Tryz.underlying3 g0
  obtain⟨n1,e1,-⟩:=DataW.trod_bool Tryz.underlying4 g1
  obtain⟨n2,e2,-,k2⟩:=DataW.trod_int Tryz.underlying3 g2
  obtain⟨n3,e3,-,k3⟩:=DataW.trod_int Tryz.underlying3 g3
  obtain⟨n4,e4,-,k4⟩:=DataW.trod_int Tryz.underlying3 g4
  obtain⟨n5,e5,-,k5⟩:=DataW.trod_int Tryz.underlying2 g5
  simp only [List.cons.injEq,and_true] at e0 e1 e2 e3 e4 e5
  subst e0 e1 e2 e3 e4 e5
  exact⟨⟨n0,n1,n2,n3,n4,n5⟩,rfl,k0,k2,k3,k4,k5⟩
theorem open_defs {fuel:Nat} {cs:List Value} {x:DataW H × List MemPlace} (h:DataW.trod enc Tryz.prog W base sp held fuel 22 cs=some x) :
  ∃ v l,cs=[v]∧DfAt W v l∧∀ d∈l,DfFit d:=by
 rcases open_slice Tryz.underlying22 h with ⟨hcs,-⟩|⟨a,len,cap,m,n,D,Pl,hcs,-,hl,-,hmm,-,hi⟩
 ·exact⟨_,[],hcs,.inr ⟨rfl,none,0,rfl⟩,by simp⟩
 ·rw [cD] at hi
  have each:∀ i,i<len→∃ d:L9.Df,DfFit d∧∀ k u,(dfL d)[k]?=some u→W.cell? (a.add (i*4+k))=some u:=by
   intro i hil
   obtain⟨cs',hc,ht⟩:=hi i (by split at hmm <;> omega)
   obtain⟨d,hd,hfit⟩:=open_def ht
   obtain⟨_,hcl,hat⟩:=World.cells?_some hc
   refine⟨d,hfit,fun k u hu=>?_⟩
   have hk:k<4:=by
    have:=(List.getElem?_eq_some_iff.1 hu).1
    simpa using this
   rw [← Go.Deep.add_add,hat k hk,hd];exact hu
  obtain⟨l,hll,hp⟩:=list_of len each
  subst hll
  refine⟨_,l,hcs,?_,fun d hd=>?_⟩
  ·by_cases h0:l=[]
   ·exact .inr ⟨h0,some a,cap,by rw [h0];rfl⟩
   ·have hpos:0<l.length:=List.length_pos_iff.2 h0
    have hc0:=(hp 0 hpos).2 0 _ rfl
    obtain⟨b,off,spot⟩:=a
    have hspot:spot=none:=by simpa [Addr.add] using World.cell?_spot hc0
    subst hspot
    have hb:=World.block_lt_of_cell? W _ hc0
    refine .inl ⟨b,off,cap,rfl,hb,fun j hj i u hu=>?_⟩
    rw [Nat.add_assoc,← add_plain]
    exact (hp j hj).2 i u hu
  ·obtain⟨i,hi,rfl⟩:=List.mem_iff_getElem.1 hd
   exact (hp i hi).1
end
end Go.Proofs.YtohkgdfkklfgmaaGreatDoor.L10
end
section
set_option maxRecDepth 100000
set_option maxHeartbeats 1000000
namespace Go.Proofs.YtohkgdfkklfgmaaGreatDoor.L10
open Go.RowKit Go.Maps
attribute [local go_sem] Oper.semAt_some
theorem cells4 {w:World} {k:Nat} {a b c d:Value} {t:TypeId} (h:w.heap[k]?=some (.cells #[a,b,c,d] t)):w.cell? ⟨k,0,none⟩=some a∧w.cell? ⟨k,1,none⟩=some b∧w.cell? ⟨k,2,none⟩=some c∧w.cell? ⟨k,3,none⟩=some d:=by
 simp [World.cell?,h]
theorem cells9 {w:World} {k:Nat} {a b c d e f g i j:Value} {t:TypeId} (hh:w.heap[k]?=some (.cells #[a,b,c,d,e,f,g,i,j] t)) :
  w.cell? ⟨k,0,none⟩=some a∧w.cell? ⟨k,1,none⟩=some b∧w.cell? ⟨k,2,none⟩=some c∧w.cell? ⟨k,3,none⟩=some d∧w.cell? ⟨k,4,none⟩=some e∧w.cell? ⟨k,5,none⟩=some f∧w.cell? ⟨k,6,none⟩=some g∧w.cell? ⟨k,7,none⟩=some i∧w.cell? ⟨k,8,none⟩=some j:=by
 simp [World.cell?,hh]
theorem unless_at (b:Bool) (e r:Int) (w:World) (h:(if b then 0 else e)=r):Calls Tryz.prog 129 #[.bool b,.int .i64 e] w fun en w'=>en=.returned (.int .i64 r)∧w=w':=by
 subst h
 cases b
 all_goals
  go_enter Tryz.func129,Tryz.ntmps129
  go_wp2
  go_ret
  exact⟨rfl,rfl⟩
theorem upto_at (g n:Int) (b:Bool) (w:World) (h:upB g n=b):Calls Tryz.prog 154 #[.int .i64 g,.int .i64 n] w fun e w'=>e=.returned (.bool b)∧w=w':=by
 subst h
 unfold upB
 go_enter Tryz.func154,Tryz.ntmps154
 go_wp2
 all_goals
  go_ret
  exact⟨L2.ret_bool (by simp;try omega),rfl⟩
theorem checkDef_at (d:L9.Df) (r:Int) (w:World) (hT:L2.Regs w) (h:deE d=r):Calls Tryz.prog 124 #[.agg #[.string d.nm,.int .i64 d.key,.int .i64 d.val,.int .i64 d.ent]] w fun e w'=>e=.returned (.int .i64 r)∧Below w.heap.size w w':=by
 obtain⟨nm,key,val,ent⟩:=d
 unfold deE at h
 simp only at h ⊢
 obtain⟨v,hv⟩:∃ v,L2.vd nm=v:=⟨_,rfl⟩
 obtain⟨p,hp⟩:∃ v,upB 64 key=v:=⟨_,rfl⟩
 obtain⟨q,hq⟩:∃ v,upB 256 val=v:=⟨_,rfl⟩
 obtain⟨u,hu⟩:∃ v,upB 1024 ent=v:=⟨_,rfl⟩
 rw [hv,hp,hq,hu] at h
 subst h
 have HV:=Lib.hid (fun (W:World) (hb:Below w.heap.size w W)=>L2.valid_at nm v W (hT.below hb) hv)
 have HP:=Lib.hid (fun W=>upto_at 64 key p W hp)
 have HQ:=Lib.hid (fun W=>upto_at 256 val q W hq)
 have HU:=Lib.hid (fun W=>upto_at 1024 ent u W hu)
 have HN:=Lib.hid (fun W=>unless_at ((p && q) && u) 9 _ W rfl)
 clear hv hp hq hu hT
 cases v
 ·go_enter Tryz.func124,Tryz.ntmps124
  go_wp2_with (go_at_call 153;((with_reducible refine (HV.out _ (L8.bnew _ _)).mono ?_);rintro e w1 ⟨rfl,b1⟩))
  go_ret
  exact⟨rfl,L2.bch (L8.bnew _ _) b1⟩
 ·cases p <;> cases q <;> cases u
  all_goals
   simp only [Bool.and_self,Bool.and_false,Bool.and_true,if_true,if_false,Bool.false_eq_true] at HN ⊢
   go_enter Tryz.func124,Tryz.ntmps124
   go_wp2_with (first|(go_at_call 153;((with_reducible refine (HV.out _ (L8.bnew _ _)).mono ?_);rintro e w1 ⟨rfl,b1⟩;obtain⟨x0,x1,x2,x3⟩:=cells4 (L8.row_up (heap_alloc_last w _) b1)))|(go_at_call 154;((with_reducible refine (HP.out _).mono ?_);rintro e w2 ⟨rfl,rfl⟩))|(go_at_call 154;((with_reducible refine (HQ.out _).mono ?_);rintro e w2 ⟨rfl,rfl⟩))|(go_at_call 154;((with_reducible refine (HU.out _).mono ?_);rintro e w2 ⟨rfl,rfl⟩))|(go_at_call 129;((with_reducible refine (HN.out _).mono ?_);rintro e w2 ⟨rfl,rfl⟩)))
   go_ret
   exact⟨rfl,L2.bch (L8.bnew _ _) b1⟩
theorem key_of {x:ByteArray} (h:x.size≤maxLen):keyOf Tryz.prog 9 (.string x)=some (L2.txt x):=WideMaps.keyOf_string_mk Tryz.underlying9 h
theorem map_cells {w:World} {g:Nat} {ks:List ByteArray} (h:SetAt w g ks):∀ cs t fr,w.heap[g]?≠some (.cells cs t fr):=by
 intro cs t fr e
 obtain⟨_,_,hh,_⟩:=h
 rw [e] at hh
 cases hh
theorem addB_none (ks:List ByteArray):addB ks []=true:=rfl
structure AddI (g:Nat) (ks labs:List ByteArray) (w:World) (j:Nat) (W:World):Prop where
 set:SetAt W g (ks++labs.take j)
 gr:w.grownBy W (some g)
 res:addB (ks++labs.take j) (labs.drop j)=addB ks labs
theorem add_step (ks labs:List ByteArray) (j:Nat) (h:j<labs.length):addB (ks++labs.take j) (labs.drop j)=if L2.on (ks++labs.take j) labs[j] then false else addB (ks++labs.take (j+1)) (labs.drop (j+1)):=by
 rw [List.drop_eq_getElem_cons h,addB,List.take_add_one,List.getElem?_eq_getElem h,Option.toList,List.append_assoc]
theorem add_end (ks labs:List ByteArray) (j:Nat) (h:labs.length≤j):addB (ks++labs.take j) (labs.drop j)=true:=by
 rw [List.drop_eq_nil_of_le h];rfl
theorem add_some (b o n cap g:Nat) (ks labs:List ByteArray) (w:World) (hn:labs.length=n) (hm:ks.length+n≤100000) (hs:SetAt w g ks) (hz:∀ t∈labs,t.size≤maxLen)
  (hc:∀ j,j<n→w.cell? ⟨b,o+j,none⟩=some (.string (labs.getD j ByteArray.empty))) (hbg:b≠g) (r:Bool) (hr:addB ks labs=r) :
  Calls Tryz.prog 131 #[.map (some g),.slice (some ⟨b,o,none⟩) n cap] w fun e w'=>e=.returned (.bool r)∧w.grownBy w' (some g)∧(r=true→SetAt w' g (ks++labs)):=by
 subst hr
 have HC:=Lib.hid hc
 have HZ:=Lib.hid hz
 have HN:=Lib.hid hn
 have HI:Hid (AddI g ks labs w 0 w):=Lib.hid ⟨by simpa using hs,⟨rfl,rfl,rfl,Nat.le_refl _,fun _ _ _=>rfl⟩,by simp⟩
 clear hc hz hn hs
 go_enter Tryz.func131,Tryz.ntmps131
 go_wp2
 go_loopw [9] (fun i wr=>∃ j:Nat,j≤n∧i=.int .i64 (j:Int)∧AddI g ks labs w j wr) (fun i _=>n-(intOf i).toNat)
 case atStart=>exact⟨0,Nat.zero_le _,rfl,HI.out⟩
 case round =>
  obtain⟨j,hj,rfl,hI⟩:=hrel
  by_cases hlt:j<n
  ·have hjl:j<labs.length:=by rw [HN.out];exact hlt
   obtain⟨x,hx⟩:∃ x,labs[j]=x:=⟨_,rfl⟩
   have hcx:wr.cell? ⟨b,o+j,none⟩=some (.string x):=hI.gr.cell (by rw [HC.out j hlt,List.getD,List.getElem?_eq_getElem hjl,hx];rfl) (by simpa using hbg)
   have hkey:=key_of (HZ.out labs[j] (List.getElem_mem hjl))
   rw [hx] at hkey
   have hown:=hI.set
   have hlen:(ks++labs.take j).length=ks.length+j:=by rw [List.length_append,List.length_take];omega
   have hat:=Sl_at (ks++labs.take j) x
   have hres:=hI.res
   rw [add_step ks labs j hjl,hx] at hres
   obtain⟨c,hcc⟩:∃ c,L2.on (ks++labs.take j) x=c:=⟨_,rfl⟩
   rw [hcc] at hat hres
   have hsn:ks++labs.take (j+1)=(ks++labs.take j)++[x]:=by rw [List.take_add_one,List.getElem?_eq_getElem hjl,hx,Option.toList,List.append_assoc]
   have HS:=Lib.hid hsn
   have HG:=Lib.hid hI.gr
   obtain⟨K,hK⟩:∃ K,ks++labs.take j=K:=⟨_,rfl⟩
   unfold SetAt at hown
   rw [hK] at hown hat HS hlen
   rw [hlen] at hown
   have HL:=Lib.hid hlen
   clear hI hx hcc hsn hK hlen
   cases c
   ·have HR:=Lib.hid hres
    clear hres
    go_wp2_with (first
     | (at_lookup;refine L2.wpList_look_bool _ rfl _ _ 186 rfl 9 4 L2.law9 Tryz.underlying186 Tryz.underlying4 (by kernel_rfl) g _ _ rfl hown _ _ rfl hkey false hat ?_)
     | (at_mapUpdate;refine wpList_mapUpdate_own _ rfl _ _ _ 186 rfl 9 4 L2.law9 Tryz.underlying186 (plainElem (H:=Unit) Tryz.prog 4) g _ _ rfl hown (by unfold maxLen;omega) _ _ _ rfl rfl hkey _ [] (plainElem_bool Tryz.underlying4 true) ?_;intro w1 hown1 hgrow1)
     | go_in)
    go_roundw
    case rel =>
     refine⟨j+1,by omega,by go_num,?_,⟨hgrow1.os.trans HG.out.os,hgrow1.tape.trans HG.out.tape,hgrow1.output.trans HG.out.output,Nat.le_trans HG.out.size hgrow1.size,fun k hk hkg=>(hgrow1.block k (Nat.lt_of_lt_of_le hk HG.out.size) hkg).trans (HG.out.block k hk hkg)⟩,?_⟩
     ·unfold SetAt
      rw [HS.out,Sl_snoc,List.length_append,HL.out]
      exact hown1
     ·simpa using HR.out
    case measure=>simp [intOf];omega
   ·have HR:=Lib.hid hres
    clear hres
    go_wp2_with (first
     | (at_lookup;refine L2.wpList_look_bool _ rfl _ _ 186 rfl 9 4 L2.law9 Tryz.underlying186 Tryz.underlying4 (by kernel_rfl) g _ _ rfl hown _ _ rfl hkey true hat ?_)
     | go_in)
    go_ret
    rw [← HR.out]
    exact⟨rfl,HG.out,fun h=>by simp at h⟩
  ·obtain rfl:j=n:=by omega
   have HI2:=Lib.hid hI
   clear hI
   go_wp2
   go_ret
   have hI:=HI2.out
   have hr:=hI.res
   have hs:=hI.set
   rw [add_end ks labs _ (by rw [HN.out];exact Nat.le_refl _)] at hr
   rw [List.take_of_length_le (by rw [HN.out];exact Nat.le_refl _)] at hs
   rw [← hr]
   exact⟨rfl,hI.gr,fun _=>hs⟩
theorem add_none (a:Option Addr) (cap g:Nat) (ks:List ByteArray) (w:World) (hs:SetAt w g ks) :
  Calls Tryz.prog 131 #[.map (some g),.slice a 0 cap] w fun e w'=>e=.returned (.bool true)∧w.grownBy w' (some g)∧SetAt w' g ks:=by
 have HS:=Lib.hid hs
 clear hs
 go_enter Tryz.func131,Tryz.ntmps131
 go_wp2
 refine wp_loop_rounds 1 ?_
 rw [rounds_succ]
 go_wp2
 go_ret
 exact⟨rfl,⟨rfl,rfl,rfl,Nat.le_refl _,fun _ _ _=>rfl⟩,HS.out⟩
theorem add_at (v:Value) (g:Nat) (ks labs:List ByteArray) (w:World) (hm:ks.length+labs.length≤100000) (hs:SetAt w g ks) (hz:∀ t∈labs,t.size≤maxLen) (hv:L8.StAt w v labs) (r:Bool) (hr:addB ks labs=r) :
  Calls Tryz.prog 131 #[.map (some g),v] w fun e w'=>e=.returned (.bool r)∧w.grownBy w' (some g)∧(r=true→SetAt w' g (ks++labs)):=by
 rcases hv with ⟨b,o,cap,rfl,hlt,hc⟩|⟨rfl,a,cap,rfl⟩
 ·by_cases h0:labs.length=0
  ·have:=List.eq_nil_of_length_eq_zero h0
   subst this
   rw [addB_none] at hr
   subst hr
   exact (add_none _ cap g ks w hs).mono fun e w' ⟨h1,h2,h3⟩=>⟨h1,h2,fun _=>by rw [List.append_nil];exact h3⟩
  ·refine add_some b o _ cap g ks labs w rfl hm hs hz hc ?_ r hr
   rintro rfl
   have:=hc 0 (by omega)
   unfold World.cell? at this
   split at this
   ·exact map_cells hs _ _ _ ‹_›
   ·cases this
 ·rw [addB_none] at hr
  subst hr
  exact (add_none a cap g ks w hs).mono fun e w' ⟨h1,h2,h3⟩=>⟨h1,h2,fun _=>by rw [List.append_nil];exact h3⟩
end Go.Proofs.YtohkgdfkklfgmaaGreatDoor.L10
end
section
set_option maxRecDepth 100000
set_option maxHeartbeats 4000000
namespace Go.Proofs.YtohkgdfkklfgmaaGreatDoor.L10
open Go.RowKit Go.Maps
attribute [local go_sem] Oper.semAt_some
theorem st_form {w:World} {v:Value} {l:List ByteArray} {n:Nat} (hn:l.length=n) (h:L8.StAt w v l):∃ a c,v=.slice a n c∧(0<n→∃ b o,a=some ⟨b,o,none⟩∧b<w.heap.size∧∀ j,(h:j<l.length)→w.cell? ⟨b,o+j,none⟩=some (.string l[j])):=by
 subst hn
 rcases h with ⟨b,o,cap,rfl,hb,hc⟩|⟨rfl,a,cap,rfl⟩
 ·exact⟨_,_,rfl,fun _=>⟨b,o,rfl,hb,fun j hj=>by have:=hc j hj;simpa [List.getD,List.getElem?_eq_getElem hj] using this⟩⟩
 ·exact⟨a,cap,rfl,fun h=>absurd h (by simp)⟩
abbrev smA (lv:Value) (op:Int) (reg:Bool) (dst src off imm:Int) (tg mp:ByteArray):Array Value:=#[lv,.int .i64 op,.bool reg,.int .i64 dst,.int .i64 src,.int .i64 off,.int .i64 imm,.string tg,.string mp]
def Bt (w W:World) (g:Nat) (cs:Array Value):Prop:=Below w.heap.size w W∧W.heap[g]?=some (.cells cs 94)
theorem Bt.below {w W W':World} {g:Nat} {cs:Array Value} (h:Bt w W g cs) (hb:Below W.heap.size W W'):Bt w W' g cs:=⟨L2.bch h.1 hb,L8.row_up h.2 hb⟩
theorem keepB {w W W':World} {g:Nat} {a b c d e f i j k:Value} (hb:Below W.heap.size W W') (h:Bt w W g #[a,b,c,d,e,f,i,j,k]) :
  Bt w W' g #[a,b,c,d,e,f,i,j,k]∧W'.cell? ⟨g,0,none⟩=some a∧W'.cell? ⟨g,1,none⟩=some b∧W'.cell? ⟨g,2,none⟩=some c∧W'.cell? ⟨g,3,none⟩=some d∧W'.cell? ⟨g,4,none⟩=some e∧W'.cell? ⟨g,5,none⟩=some f∧W'.cell? ⟨g,6,none⟩=some i∧W'.cell? ⟨g,7,none⟩=some j∧W'.cell? ⟨g,8,none⟩=some k :=
 ⟨h.below hb,cells9 (h.below hb).2⟩
theorem keepC {w W W':World} {g:Nat} {a b c d e f i j k:Value} (hb:Below W.heap.size W W') (h:Bt w W g #[a,b,c,d,e,f,i,j,k]∧W.cell? ⟨g,0,none⟩=some a∧W.cell? ⟨g,1,none⟩=some b∧W.cell? ⟨g,2,none⟩=some c∧W.cell? ⟨g,3,none⟩=some d∧W.cell? ⟨g,4,none⟩=some e∧W.cell? ⟨g,5,none⟩=some f∧W.cell? ⟨g,6,none⟩=some i∧W.cell? ⟨g,7,none⟩=some j∧W.cell? ⟨g,8,none⟩=some k) :
  Bt w W' g #[a,b,c,d,e,f,i,j,k]∧W'.cell? ⟨g,0,none⟩=some a∧W'.cell? ⟨g,1,none⟩=some b∧W'.cell? ⟨g,2,none⟩=some c∧W'.cell? ⟨g,3,none⟩=some d∧W'.cell? ⟨g,4,none⟩=some e∧W'.cell? ⟨g,5,none⟩=some f∧W'.cell? ⟨g,6,none⟩=some i∧W'.cell? ⟨g,7,none⟩=some j∧W'.cell? ⟨g,8,none⟩=some k:=keepB hb h.1
theorem kinds3 (f:Int):(L4.jmpF f=true∧(f==11)=false)∨(L4.jmpF f=false∧(f==11)=true)∨(L4.jmpF f=false∧(f==11)=false):=by
 unfold L4.jmpF
 by_cases h3:f=3
 ·subst h3;exact .inl ⟨rfl,rfl⟩
 by_cases h4:f=4
 ·subst h4;exact .inl ⟨rfl,rfl⟩
 by_cases h11:f=11
 ·subst h11;exact .inr (.inl ⟨rfl,rfl⟩)
 ·exact .inr (.inr (by simp [h3,h4,h11]))
theorem stE_eq (labs:List ByteArray) (op:Int) (reg:Bool) (dst src off imm:Int) (tg mp:ByteArray) (f c:Int) (jm rf:Bool) (hf:L3.frm (L3.ix op)=f) (hc:L4.chkF f reg dst src off imm=c) (hj:L4.jmpF f=jm) (hr:(f==11)=rf) :
  stE ⟨labs,⟨op,reg,dst,src,off,imm⟩,tg,mp⟩=if labs.all L2.vd then (if c=0 then (if (jm && off != 0) || (rf && imm != 0) || (!jm && !tg.toList.isEmpty) || (!rf && !mp.toList.isEmpty) then 12 else if (jm && !L2.vd tg) || (rf && !L2.vd mp) then 7 else 0) else c) else 7:=by
 subst hf hc hj hr
 rfl
theorem checkStmt_at (lv:Value) (labs:List ByteArray) (op:Int) (reg:Bool) (dst src off imm:Int) (tg mp:ByteArray) (r:Int) (w:World) (hT:L1.Wid w∧L2.Regs w) (hv:L8.StAt w lv labs) (hm:labs.length≤100000) (h:stE ⟨labs,⟨op,reg,dst,src,off,imm⟩,tg,mp⟩=r) :
  Calls Tryz.prog 127 #[.agg (smA lv op reg dst src off imm tg mp)] w fun e w'=>e=.returned (.int .i64 r)∧Below w.heap.size w w':=by
 obtain⟨n,hn⟩:∃ n,labs.length=n:=⟨_,rfl⟩
 obtain⟨f,hf⟩:∃ f,L3.frm (L3.ix op)=f:=⟨_,rfl⟩
 obtain⟨c,hcc⟩:∃ c,L4.chkF f reg dst src off imm=c:=⟨_,rfl⟩
 obtain⟨jm,hjm⟩:∃ c,L4.jmpF f=c:=⟨_,rfl⟩
 obtain⟨rf,hrf⟩:∃ c,(f==11)=c:=⟨_,rfl⟩
 rw [stE_eq labs op reg dst src off imm tg mp f c jm rf hf hcc hjm hrf] at h
 have HR:=Lib.hid h
 have K3:Hid ((jm=true∧rf=false)∨(jm=false∧rf=true)∨(jm=false∧rf=false)):=Lib.hid (by have:=kinds3 f;rwa [hjm,hrf] at this)
 have HV:=Lib.hid (fun (t:ByteArray) (W:World) (hb:Below w.heap.size w W) (v:Bool) (hv:L2.vd t=v)=>L2.valid_at t v W (hT.2.below hb) hv)
 have HC:=Lib.hid (fun (W:World) (hb:Below w.heap.size w W)=>L4.check_is op reg dst src off imm f c W (L4.wid_below hT.1 hb) hf hcc)
 have HJ:=Lib.hid (fun W=>L4.jumps_at op reg dst src off imm f jm W hf hjm)
 have HF:=Lib.hid (fun W=>L4.form_at op f W hf)
 have HRF:=Lib.hid hrf
 have HA:=Lib.hid (st_form hn hv)
 have HN:=Lib.hid hn
 clear hv h hf hcc hjm hrf hn hT
 obtain⟨a,cap,rfl,hc⟩:=HA.out
 have HD:=Lib.hid hc
 clear hc HA
 have hS:=heap_alloc_last w (.cells (smA (.slice a n cap) op reg dst src off imm tg mp) 94)
 have hB0:=L8.bnew w (.cells (smA (.slice a n cap) op reg dst src off imm tg mp) 94)
 obtain⟨g,hg⟩:∃ g,g=w.heap.size:=⟨_,rfl⟩
 go_enter Tryz.func127,Tryz.ntmps127
 go_wp2
 rw [← hg] at hS ⊢
 clear hg
 generalize w.alloc (.cells (smA (.slice a n cap) op reg dst src off imm tg mp) 94)=W0 at hS hB0 ⊢
 have HW:=Lib.hid (show Below w.heap.size w W0 from hB0)
 clear hB0
 go_loopw [11] (fun i wr=>∃ j:Nat,j≤n∧i=.int .i64 (j:Int)∧Below W0.heap.size W0 wr∧Hid ((labs.drop j).all L2.vd=labs.all L2.vd)) (fun i _=>n-(intOf i).toNat)
 case atStart=>exact⟨0,Nat.zero_le _,rfl,Below.refl _ _,Lib.hid rfl⟩
 case round =>
  obtain⟨j,hj,rfl,hB,hL⟩:=hrel
  by_cases hlt:j<n
  ·have hjl:j<labs.length:=by rw [HN.out];exact hlt
   obtain⟨b,o,rfl,hb,hc⟩:=HD.out (by omega)
   obtain⟨x,hx⟩:∃ x,labs[j]=x:=⟨_,rfl⟩
   have hcx:wr.cell? ⟨b,o+j,none⟩=some (.string x):=(hB.cell (by exact Nat.lt_of_lt_of_le hb HW.out.size)).trans ((HW.out.cell (by exact hb)).trans (by rw [hc j hjl,hx]))
   have hst:labs.all L2.vd=(L2.vd x && (labs.drop (j+1)).all L2.vd):=by rw [← hL.out,List.drop_eq_getElem_cons hjl,List.all_cons,hx]
   obtain⟨v,hv⟩:∃ v,L2.vd x=v:=⟨_,rfl⟩
   rw [hv] at hst
   have HVV:=Lib.hid (HV.out x wr (L2.bch HW.out hB) v hv)
   have HS:=Lib.hid hst
   clear hc hx hst hv hL
   cases v
   ·obtain rfl:r=7:=by rw [← HR.out,HS.out];rfl
    go_wp2_with (go_at_call 153;((with_reducible refine (HVV.out).mono ?_);rintro e w1 ⟨rfl,b1⟩))
    go_ret
    exact⟨rfl,L2.bch HW.out (L2.bch hB b1)⟩
   ·go_wp2_with (go_at_call 153;((with_reducible refine (HVV.out).mono ?_);rintro e w1 ⟨rfl,b1⟩))
    go_roundw
    case rel=>exact⟨j+1,by omega,by go_num,L2.bch hB b1,Lib.hid (by rw [HS.out];rfl)⟩
    case measure=>simp [intOf];omega
  ·obtain rfl:j=n:=by omega
   have hall:labs.all L2.vd=true:=by rw [← hL.out,List.drop_eq_nil_of_le (by rw [HN.out];exact Nat.le_refl _)];rfl
   have hr:=HR.out
   rw [hall,if_pos rfl] at hr
   have hS2:=L8.row_up hS hB
   have B2:=L2.bch HW.out hB
   obtain⟨x0,x1,x2,x3,x4,x5,x6,x7,x8⟩:=cells9 hS2
   clear hall HR hL HD HN hS
   by_cases hc0:c=0
   ·subst hc0
    rw [if_pos rfl] at hr
    have HR:=Lib.hid hr
    clear hr
    go_upto_region 10 with (go_at_call 114;((with_reducible refine (HC.out _ B2).mono ?_);rintro e w1 ⟨rfl,b1⟩))
    have X:Bt w w1 g (smA (.slice a j cap) op reg dst src off imm tg mp):=⟨L2.bch B2 b1,L8.row_up hS2 b1⟩
    have hrf:=HRF.out
    clear hS2 x0 x1 x2 x3 x4 x5 x6 x7 x8 HC
    go_region_held3 (fun W=>Bt w W g (smA (.slice a j cap) op reg dst src off imm tg mp)∧W.cell? ⟨g,0,none⟩=some (.slice a j cap)∧W.cell? ⟨g,1,none⟩=some (.int .i64 op)∧W.cell? ⟨g,2,none⟩=some (.bool reg)∧W.cell? ⟨g,3,none⟩=some (.int .i64 dst)∧W.cell? ⟨g,4,none⟩=some (.int .i64 src)∧W.cell? ⟨g,5,none⟩=some (.int .i64 off)∧W.cell? ⟨g,6,none⟩=some (.int .i64 imm)∧W.cell? ⟨g,7,none⟩=some (.string tg)∧W.cell? ⟨g,8,none⟩=some (.string mp))
     (first|exact keepB (Below.refl _ _).drew X|exact keepC hb9 (by assumption)|assumption)
     (first|(go_at_call 112;((with_reducible refine (HJ.out _).mono ?_);rintro e w9 ⟨rfl,hb9⟩))|(go_at_call 91;((with_reducible refine (HF.out _).mono ?_);rintro e w9 ⟨rfl,hb9⟩)))
    all_goals
     rename_i hh
     obtain⟨X2,y0,y1,y2,y3,y4,y5,y6,y7,y8⟩:=hh
     have HV2:=Lib.hid (fun (t:ByteArray) (v:Bool) (hv:L2.vd t=v)=>HV.out t _ X2.1 v hv)
     have HX:=Lib.hid X2.1
     clear X2 X HJ HF hrf HRF HV
     rcases K3.out with ⟨rfl,rfl⟩|⟨rfl,rfl⟩|⟨rfl,rfl⟩
     ·by_cases ho:off=0
      ·subst ho
       cases hme:mp.toList.isEmpty
       ·obtain rfl:r=12:=by rw [← HR.out];simp [hme]
        clear HR
        go_wp2
        go_ret
        exact⟨rfl,HX.out⟩
       ·obtain⟨v,hv⟩:∃ v,L2.vd tg=v:=⟨_,rfl⟩
        have HVV:=Lib.hid (HV2.out tg v hv)
        cases v
        ·obtain rfl:r=7:=by rw [← HR.out];simp [hme,hv]
         clear HR hv
         go_wp2_with (go_at_call 153;((with_reducible refine (HVV.out).mono ?_);rintro e w2 ⟨rfl,b2⟩))
         go_ret
         exact⟨rfl,L2.bch HX.out b2⟩
        ·obtain rfl:r=0:=by rw [← HR.out];simp [hme,hv]
         clear HR hv
         go_wp2_with (go_at_call 153;((with_reducible refine (HVV.out).mono ?_);rintro e w2 ⟨rfl,b2⟩))
         go_ret
         exact⟨rfl,L2.bch HX.out b2⟩
      ·obtain rfl:r=12:=by rw [← HR.out];simp [ho]
       clear HR
       go_wp2
       go_ret
       exact⟨rfl,HX.out⟩
     ·by_cases ho:imm=0
      ·subst ho
       cases hme:tg.toList.isEmpty
       ·obtain rfl:r=12:=by rw [← HR.out];simp [hme]
        clear HR
        go_wp2
        go_ret
        exact⟨rfl,HX.out⟩
       ·obtain⟨v,hv⟩:∃ v,L2.vd mp=v:=⟨_,rfl⟩
        have HVV:=Lib.hid (HV2.out mp v hv)
        cases v
        ·obtain rfl:r=7:=by rw [← HR.out];simp [hme,hv]
         clear HR hv
         go_wp2_with (go_at_call 153;((with_reducible refine (HVV.out).mono ?_);rintro e w2 ⟨rfl,b2⟩))
         go_ret
         exact⟨rfl,L2.bch HX.out b2⟩
        ·obtain rfl:r=0:=by rw [← HR.out];simp [hme,hv]
         clear HR hv
         go_wp2_with (go_at_call 153;((with_reducible refine (HVV.out).mono ?_);rintro e w2 ⟨rfl,b2⟩))
         go_ret
         exact⟨rfl,L2.bch HX.out b2⟩
      ·obtain rfl:r=12:=by rw [← HR.out];simp [ho]
       clear HR
       go_wp2
       go_ret
       exact⟨rfl,HX.out⟩
     ·cases hte:tg.toList.isEmpty
      ·obtain rfl:r=12:=by rw [← HR.out];simp [hte]
       clear HR
       go_wp2
       go_ret
       exact⟨rfl,HX.out⟩
      ·cases hme:mp.toList.isEmpty
       ·obtain rfl:r=12:=by rw [← HR.out];simp [hte,hme]
        clear HR
        go_wp2
        go_ret
        exact⟨rfl,HX.out⟩
       ·obtain rfl:r=0:=by rw [← HR.out];simp [hte,hme]
        clear HR
        go_wp2
        go_ret
        exact⟨rfl,HX.out⟩
   ·rw [if_neg hc0] at hr
    subst hr
    go_wp2_with (go_at_call 114;((with_reducible refine (HC.out _ B2).mono ?_);rintro e w1 ⟨rfl,b1⟩))
    go_ret
    exact⟨rfl,L2.bch B2 b1⟩
end Go.Proofs.YtohkgdfkklfgmaaGreatDoor.L10
end
section
set_option maxRecDepth 100000
set_option maxHeartbeats 1000000
namespace Go.Proofs.YtohkgdfkklfgmaaGreatDoor.L10
open Go.RowKit Go.Maps
attribute [local go_sem] Oper.semAt_some
def NoC (w:World) (o:Option Nat):Prop:=∀ g,o=some g→∀ cs t fr,w.heap[g]?≠some (.cells cs t fr)
theorem gr_cell {w W:World} {o:Option Nat} {p:Addr} {v:Value} (hg:w.grownBy W o) (hn:NoC w o) (h:w.cell? p=some v):W.cell? p=some v:=by
 refine hg.cell h ?_
 intro e
 unfold World.cell? at h
 split at h
 ·exact hn p.block e.symm _ _ _ ‹_›
 ·cases h
theorem gr_row {w W:World} {o:Option Nat} {k:Nat} {cs:Array Value} {t:TypeId} {fr:Nat × Nat} (hg:w.grownBy W o) (hn:NoC w o) (h:w.heap[k]?=some (.cells cs t fr)):W.heap[k]?=some (.cells cs t fr):=by
 refine (hg.block k (Array.getElem?_eq_some_iff.1 h).1 ?_).trans h
 intro e
 exact hn k e.symm _ _ _ h
theorem gr_refl (w:World) (o:Option Nat):w.grownBy w o:=⟨rfl,rfl,rfl,Nat.le_refl _,fun _ _ _=>rfl⟩
theorem gr_of {w W:World} (h:Below w.heap.size w W) (o:Option Nat):w.grownBy W o:=⟨h.os,h.tape,h.output,h.size,fun k hk _=>h.block k hk⟩
theorem gr_to {w W:World} (h:w.grownBy W none):Below w.heap.size w W:=⟨h.os,h.tape,h.output,h.size,fun k hk=>h.block k hk (by simp)⟩
theorem gr_tr {w a b:World} {o:Option Nat} (h:w.grownBy a o) (k:a.grownBy b o):w.grownBy b o:=⟨k.os.trans h.os,k.tape.trans h.tape,k.output.trans h.output,Nat.le_trans h.size k.size,fun x hx hn=>(k.block x (Nat.lt_of_lt_of_le hx h.size) hn).trans (h.block x hx hn)⟩
theorem st_gr {w W:World} {o:Option Nat} {v:Value} {l:List ByteArray} (h:L8.StAt w v l) (hg:w.grownBy W o) (hn:NoC w o):L8.StAt W v l:=by
 rcases h with ⟨b,i,cap,rfl,hlt,hc⟩|h
 ·exact .inl ⟨b,i,cap,rfl,Nat.lt_of_lt_of_le hlt hg.size,fun j hj=>gr_cell hg hn (hc j hj)⟩
 ·exact .inr h
theorem df_form {w:World} {v:Value} {l:List L9.Df} {n:Nat} (hn:l.length=n) (h:DfAt w v l):∃ a c,v=.slice a n c∧(0<n→∃ b o,a=some ⟨b,o,none⟩∧b<w.heap.size∧∀ j,(h:j<l.length)→∀ i u,(dfL l[j])[i]?=some u→w.cell? ⟨b,o+j*4+i,none⟩=some u):=by
 subst hn
 rcases h with ⟨b,o,cap,rfl,hb,hc⟩|⟨rfl,a,cap,rfl⟩
 ·exact⟨_,_,rfl,fun _=>⟨b,o,rfl,hb,hc⟩⟩
 ·exact⟨a,cap,rfl,fun h=>absurd h (by simp)⟩
theorem sm_form {w:World} {v:Value} {l:List Stm} {n:Nat} (hn:l.length=n) (h:SmAt w v l):∃ a c,v=.slice a n c∧(0<n→∃ b o,a=some ⟨b,o,none⟩∧b<w.heap.size∧∀ j,(h:j<l.length)→∃ lv,L8.StAt w lv l[j].labs∧∀ i u,(smL lv l[j])[i]?=some u→w.cell? ⟨b,o+j*9+i,none⟩=some u):=by
 subst hn
 rcases h with ⟨b,o,cap,rfl,hb,hc⟩|⟨rfl,a,cap,rfl⟩
 ·exact⟨_,_,rfl,fun _=>⟨b,o,rfl,hb,hc⟩⟩
 ·exact⟨a,cap,rfl,fun h=>absurd h (by simp)⟩
theorem fe_step {es:List Int} {j n:Nat} (hn:es.length=n) (hj:j<n) (h:feF j (es.drop j)=fe es):(es.getD j 0=0→feF (j+1) (es.drop (j+1))=fe es)∧(es.getD j 0≠0→fe es=(j,es.getD j 0)):=by
 have hjl:j<es.length:=by omega
 have e:es.getD j 0=es[j]:=by simp [List.getD,List.getElem?_eq_getElem hjl]
 rw [feF_step es j hjl] at h
 rw [e]
 exact⟨fun h0=>by rw [if_pos h0] at h;exact h,fun h0=>by rw [if_neg h0] at h;exact h.symm⟩
theorem fe_end {es:List Int} {n:Nat} (hn:es.length=n) (h:feF n (es.drop n)=fe es):fe es=(0,0):=by
 rw [← h,feF_end es n (by omega)]
def EaP (o:Option Nat) (n:Nat) (es:List Int) (Q:Nat→World→Prop) (w:World) (e:Ending) (w':World):Prop :=
 e=.returned (.tuple #[.int .i64 ((fe es).1:Int),.int .i64 (fe es).2])∧w.grownBy w' o∧((fe es).2=0→Q n w')
theorem each1 (o:Option Nat) (kb kf:Nat) (vm:Value) (l:List L9.Df) (es:List Int) (Q:Nat→World→Prop) (w:World) (hv:DfAt w vm l) (hm:l.length≤100000) (he:es.length=l.length)
  (hb:w.cell? ⟨kb,0,none⟩=some vm) (hf:w.cell? ⟨kf,0,none⟩=some (.func (.func 123) #[] #[])) (ho:NoC w o) (h0:Q 0 w)
  (hQ:∀ j W W',Q j W→Below W.heap.size W W'→Q j W')
  (hK:∀ j (h:j<l.length) W,Q j W→Calls Tryz.prog 123 #[.int .i64 (j:Int),.agg (#[.string l[j].nm,.int .i64 l[j].key,.int .i64 l[j].val,.int .i64 l[j].ent])] W fun e W'=>e=.returned (.int .i64 (es.getD j 0))∧W.grownBy W' o∧(es.getD j 0=0→Q (j+1) W')) :
  Calls Tryz.prog 152 #[.pointer (some ⟨kb,0,none⟩),.pointer (some ⟨kf,0,none⟩)] w fun e w'=>EaP o l.length es Q w e w':=by
 obtain⟨n,hn⟩:∃ n,l.length=n:=⟨_,rfl⟩
 rw [hn] at hm he ⊢
 obtain⟨a,cap,rfl,hc⟩:=df_form hn hv
 have HD:=Lib.hid hc
 have HN:=Lib.hid hn
 have HE:=Lib.hid he
 have HK:=Lib.hid hK
 have HQ:=Lib.hid hQ
 have HO:=Lib.hid ho
 have HF:=Lib.hid hf
 have HI:Hid (w.grownBy w o∧Q 0 w):=Lib.hid ⟨gr_refl w o,h0⟩
 clear hc hn he hK hQ ho hf h0 hv
 go_enter Tryz.func152,Tryz.ntmps152
 go_wp2
 go_loopw [9] (fun i wr=>∃ j:Nat,j≤n∧i=.int .i64 (j:Int)∧Hid (w.grownBy wr o∧Q j wr)∧Hid (feF j (es.drop j)=fe es)) (fun i _=>n-(intOf i).toNat)
 case atStart=>exact⟨0,Nat.zero_le _,rfl,HI,Lib.hid rfl⟩
 case round =>
  obtain⟨j,hj,rfl,hG,hL⟩:=hrel
  by_cases hlt:j<n
  ·have hjl:j<l.length:=by rw [HN.out];exact hlt
   obtain⟨b,o',rfl,hbl,hc⟩:=HD.out (by omega)
   obtain⟨d,hd⟩:∃ d,l[j]=d:=⟨_,rfl⟩
   have hC:=fun i u hu=>gr_cell hG.out.1 HO.out (hc j hjl i u hu)
   have a0:=hC 0 _ rfl
   have a1:=hC 1 _ rfl
   have a2:=hC 2 _ rfl
   have a3:=hC 3 _ rfl
   have hk:=HK.out j hjl
   rw [hd] at a0 a1 a2 a3 hk
   rw [Nat.add_zero] at a0
   clear hC
   have hfc:=gr_cell hG.out.1 HO.out HF.out
   have hkf:kf<wr.heap.size:=World.block_lt_of_cell? wr _ hfc
   have hlt':(j:Int)<(n:Int):=by omega
   obtain⟨ej,hej⟩:∃ ej,es.getD j 0=ej:=⟨_,rfl⟩
   rw [hej] at hk
   obtain⟨hs1,hs2⟩:=fe_step HE.out hlt hL.out
   rw [hej] at hs1 hs2
   have HK2:=Lib.hid (fun W hq=>hk W hq)
   have HS1:=Lib.hid hs1
   have HS2:=Lib.hid hs2
   clear hk hs1 hs2 hej hd hc hL
   by_cases h0:ej=0
   ·subst h0
    go_wp2_with (go_at_call 123;((with_reducible refine (HK2.out _ (HQ.out _ _ _ hG.out.2 (L8.bnew wr _))).mono ?_);rintro e w1 ⟨rfl,g1,q1⟩))
    go_roundw
    case rel=>exact⟨j+1,by omega,by go_num,Lib.hid ⟨gr_tr hG.out.1 (gr_tr (gr_of (L8.bnew wr _) o) g1),q1 (by trivial)⟩,Lib.hid (HS1.out (by trivial))⟩
    case measure=>simp [intOf];omega
   ·go_wp2_with (go_at_call 123;((with_reducible refine (HK2.out _ (HQ.out _ _ _ hG.out.2 (L8.bnew wr _))).mono ?_);rintro e w1 ⟨rfl,g1,q1⟩))
    go_ret2
    unfold EaP
    rw [HS2.out h0]
    exact⟨rfl,gr_tr hG.out.1 (gr_tr (gr_of (L8.bnew wr _) o) g1),fun h=>absurd h h0⟩
  ·obtain rfl:j=n:=by omega
   go_wp2
   go_ret2
   unfold EaP
   rw [fe_end HE.out hL.out]
   exact⟨rfl,hG.out.1,fun _=>hG.out.2⟩
theorem each3 (o:Option Nat) (kb kf:Nat) (vm:Value) (l:List L9.Df) (es:List Int) (Q:Nat→World→Prop) (w:World) (hv:DfAt w vm l) (hm:l.length≤100000) (he:es.length=l.length)
  (hb:w.cell? ⟨kb,0,none⟩=some vm) (hf:w.cell? ⟨kf,0,none⟩=some (.func (.func 128) #[] #[])) (ho:NoC w o) (h0:Q 0 w)
  (hQ:∀ j W W',Q j W→Below W.heap.size W W'→Q j W')
  (hK:∀ j (h:j<l.length) W,Q j W→Calls Tryz.prog 128 #[.int .i64 (j:Int),.agg (#[.string l[j].nm,.int .i64 l[j].key,.int .i64 l[j].val,.int .i64 l[j].ent])] W fun e W'=>e=.returned (.int .i64 (es.getD j 0))∧W.grownBy W' o∧(es.getD j 0=0→Q (j+1) W')) :
  Calls Tryz.prog 152 #[.pointer (some ⟨kb,0,none⟩),.pointer (some ⟨kf,0,none⟩)] w fun e w'=>EaP o l.length es Q w e w':=by
 obtain⟨n,hn⟩:∃ n,l.length=n:=⟨_,rfl⟩
 rw [hn] at hm he ⊢
 obtain⟨a,cap,rfl,hc⟩:=df_form hn hv
 have HD:=Lib.hid hc
 have HN:=Lib.hid hn
 have HE:=Lib.hid he
 have HK:=Lib.hid hK
 have HQ:=Lib.hid hQ
 have HO:=Lib.hid ho
 have HF:=Lib.hid hf
 have HI:Hid (w.grownBy w o∧Q 0 w):=Lib.hid ⟨gr_refl w o,h0⟩
 clear hc hn he hK hQ ho hf h0 hv
 go_enter Tryz.func152,Tryz.ntmps152
 go_wp2
 go_loopw [9] (fun i wr=>∃ j:Nat,j≤n∧i=.int .i64 (j:Int)∧Hid (w.grownBy wr o∧Q j wr)∧Hid (feF j (es.drop j)=fe es)) (fun i _=>n-(intOf i).toNat)
 case atStart=>exact⟨0,Nat.zero_le _,rfl,HI,Lib.hid rfl⟩
 case round =>
  obtain⟨j,hj,rfl,hG,hL⟩:=hrel
  by_cases hlt:j<n
  ·have hjl:j<l.length:=by rw [HN.out];exact hlt
   obtain⟨b,o',rfl,hbl,hc⟩:=HD.out (by omega)
   obtain⟨d,hd⟩:∃ d,l[j]=d:=⟨_,rfl⟩
   have hC:=fun i u hu=>gr_cell hG.out.1 HO.out (hc j hjl i u hu)
   have a0:=hC 0 _ rfl
   have a1:=hC 1 _ rfl
   have a2:=hC 2 _ rfl
   have a3:=hC 3 _ rfl
   have hk:=HK.out j hjl
   rw [hd] at a0 a1 a2 a3 hk
   rw [Nat.add_zero] at a0
   clear hC
   have hfc:=gr_cell hG.out.1 HO.out HF.out
   have hkf:kf<wr.heap.size:=World.block_lt_of_cell? wr _ hfc
   have hlt':(j:Int)<(n:Int):=by omega
   obtain⟨ej,hej⟩:∃ ej,es.getD j 0=ej:=⟨_,rfl⟩
   rw [hej] at hk
   obtain⟨hs1,hs2⟩:=fe_step HE.out hlt hL.out
   rw [hej] at hs1 hs2
   have HK2:=Lib.hid (fun W hq=>hk W hq)
   have HS1:=Lib.hid hs1
   have HS2:=Lib.hid hs2
   clear hk hs1 hs2 hej hd hc hL
   by_cases h0:ej=0
   ·subst h0
    go_wp2_with (go_at_call 128;((with_reducible refine (HK2.out _ (HQ.out _ _ _ hG.out.2 (L8.bnew wr _))).mono ?_);rintro e w1 ⟨rfl,g1,q1⟩))
    go_roundw
    case rel=>exact⟨j+1,by omega,by go_num,Lib.hid ⟨gr_tr hG.out.1 (gr_tr (gr_of (L8.bnew wr _) o) g1),q1 (by trivial)⟩,Lib.hid (HS1.out (by trivial))⟩
    case measure=>simp [intOf];omega
   ·go_wp2_with (go_at_call 128;((with_reducible refine (HK2.out _ (HQ.out _ _ _ hG.out.2 (L8.bnew wr _))).mono ?_);rintro e w1 ⟨rfl,g1,q1⟩))
    go_ret2
    unfold EaP
    rw [HS2.out h0]
    exact⟨rfl,gr_tr hG.out.1 (gr_tr (gr_of (L8.bnew wr _) o) g1),fun h=>absurd h h0⟩
  ·obtain rfl:j=n:=by omega
   go_wp2
   go_ret2
   unfold EaP
   rw [fe_end HE.out hL.out]
   exact⟨rfl,hG.out.1,fun _=>hG.out.2⟩
theorem each4 (o:Option Nat) (kb kf k3:Nat) (vm:Value) (l:List L9.Df) (es:List Int) (Q:Nat→World→Prop) (w:World) (hv:DfAt w vm l) (hm:l.length≤100000) (he:es.length=l.length)
  (hb:w.cell? ⟨kb,0,none⟩=some vm) (hf:w.cell? ⟨kf,0,none⟩=some (.func (.func 130) #[] #[.pointer (some ⟨k3,0,none⟩)])) (ho:NoC w o) (h0:Q 0 w)
  (hQ:∀ j W W',Q j W→Below W.heap.size W W'→Q j W')
  (hK:∀ j (h:j<l.length) W,Q j W→Calls Tryz.prog 130 #[.int .i64 (j:Int),.agg (#[.string l[j].nm,.int .i64 l[j].key,.int .i64 l[j].val,.int .i64 l[j].ent]),.pointer (some ⟨k3,0,none⟩)] W fun e W'=>e=.returned (.int .i64 (es.getD j 0))∧W.grownBy W' o∧(es.getD j 0=0→Q (j+1) W')) :
  Calls Tryz.prog 152 #[.pointer (some ⟨kb,0,none⟩),.pointer (some ⟨kf,0,none⟩)] w fun e w'=>EaP o l.length es Q w e w':=by
 obtain⟨n,hn⟩:∃ n,l.length=n:=⟨_,rfl⟩
 rw [hn] at hm he ⊢
 obtain⟨a,cap,rfl,hc⟩:=df_form hn hv
 have HD:=Lib.hid hc
 have HN:=Lib.hid hn
 have HE:=Lib.hid he
 have HK:=Lib.hid hK
 have HQ:=Lib.hid hQ
 have HO:=Lib.hid ho
 have HF:=Lib.hid hf
 have HI:Hid (w.grownBy w o∧Q 0 w):=Lib.hid ⟨gr_refl w o,h0⟩
 clear hc hn he hK hQ ho hf h0 hv
 go_enter Tryz.func152,Tryz.ntmps152
 go_wp2
 go_loopw [9] (fun i wr=>∃ j:Nat,j≤n∧i=.int .i64 (j:Int)∧Hid (w.grownBy wr o∧Q j wr)∧Hid (feF j (es.drop j)=fe es)) (fun i _=>n-(intOf i).toNat)
 case atStart=>exact⟨0,Nat.zero_le _,rfl,HI,Lib.hid rfl⟩
 case round =>
  obtain⟨j,hj,rfl,hG,hL⟩:=hrel
  by_cases hlt:j<n
  ·have hjl:j<l.length:=by rw [HN.out];exact hlt
   obtain⟨b,o',rfl,hbl,hc⟩:=HD.out (by omega)
   obtain⟨d,hd⟩:∃ d,l[j]=d:=⟨_,rfl⟩
   have hC:=fun i u hu=>gr_cell hG.out.1 HO.out (hc j hjl i u hu)
   have a0:=hC 0 _ rfl
   have a1:=hC 1 _ rfl
   have a2:=hC 2 _ rfl
   have a3:=hC 3 _ rfl
   have hk:=HK.out j hjl
   rw [hd] at a0 a1 a2 a3 hk
   rw [Nat.add_zero] at a0
   clear hC
   have hfc:=gr_cell hG.out.1 HO.out HF.out
   have hkf:kf<wr.heap.size:=World.block_lt_of_cell? wr _ hfc
   have hlt':(j:Int)<(n:Int):=by omega
   obtain⟨ej,hej⟩:∃ ej,es.getD j 0=ej:=⟨_,rfl⟩
   rw [hej] at hk
   obtain⟨hs1,hs2⟩:=fe_step HE.out hlt hL.out
   rw [hej] at hs1 hs2
   have HK2:=Lib.hid (fun W hq=>hk W hq)
   have HS1:=Lib.hid hs1
   have HS2:=Lib.hid hs2
   clear hk hs1 hs2 hej hd hc hL
   by_cases h0:ej=0
   ·subst h0
    go_wp2_with (go_at_call 130;((with_reducible refine (HK2.out _ (HQ.out _ _ _ hG.out.2 (L8.bnew wr _))).mono ?_);rintro e w1 ⟨rfl,g1,q1⟩))
    go_roundw
    case rel=>exact⟨j+1,by omega,by go_num,Lib.hid ⟨gr_tr hG.out.1 (gr_tr (gr_of (L8.bnew wr _) o) g1),q1 (by trivial)⟩,Lib.hid (HS1.out (by trivial))⟩
    case measure=>simp [intOf];omega
   ·go_wp2_with (go_at_call 130;((with_reducible refine (HK2.out _ (HQ.out _ _ _ hG.out.2 (L8.bnew wr _))).mono ?_);rintro e w1 ⟨rfl,g1,q1⟩))
    go_ret2
    unfold EaP
    rw [HS2.out h0]
    exact⟨rfl,gr_tr hG.out.1 (gr_tr (gr_of (L8.bnew wr _) o) g1),fun h=>absurd h h0⟩
  ·obtain rfl:j=n:=by omega
   go_wp2
   go_ret2
   unfold EaP
   rw [fe_end HE.out hL.out]
   exact⟨rfl,hG.out.1,fun _=>hG.out.2⟩
theorem each2 (o:Option Nat) (kb kf:Nat) (vm:Value) (l:List Stm) (es:List Int) (Q:Nat→World→Prop) (w:World) (hv:SmAt w vm l) (hm:l.length≤100000) (he:es.length=l.length)
  (hb:w.cell? ⟨kb,0,none⟩=some vm) (hf:w.cell? ⟨kf,0,none⟩=some (.func (.func 126) #[] #[])) (ho:NoC w o) (h0:Q 0 w)
  (hQ:∀ j W W',Q j W→Below W.heap.size W W'→Q j W')
  (hK:∀ j (h:j<l.length) lv W,L8.StAt W lv l[j].labs→Q j W→Calls Tryz.prog 126 #[.int .i64 (j:Int),.agg (smA lv l[j].x.op l[j].x.reg l[j].x.dst l[j].x.src l[j].x.off l[j].x.imm l[j].tg l[j].mp)] W fun e W'=>e=.returned (.int .i64 (es.getD j 0))∧W.grownBy W' o∧(es.getD j 0=0→Q (j+1) W')) :
  Calls Tryz.prog 155 #[.pointer (some ⟨kb,0,none⟩),.pointer (some ⟨kf,0,none⟩)] w fun e w'=>EaP o l.length es Q w e w':=by
 obtain⟨n,hn⟩:∃ n,l.length=n:=⟨_,rfl⟩
 rw [hn] at hm he ⊢
 obtain⟨a,cap,rfl,hc⟩:=sm_form hn hv
 have HD:=Lib.hid hc
 have HN:=Lib.hid hn
 have HE:=Lib.hid he
 have HK:=Lib.hid hK
 have HQ:=Lib.hid hQ
 have HO:=Lib.hid ho
 have HF:=Lib.hid hf
 have HI:Hid (w.grownBy w o∧Q 0 w):=Lib.hid ⟨gr_refl w o,h0⟩
 clear hc hn he hK hQ ho hf h0 hv
 go_enter Tryz.func155,Tryz.ntmps155
 go_wp2
 go_loopw [9] (fun i wr=>∃ j:Nat,j≤n∧i=.int .i64 (j:Int)∧Hid (w.grownBy wr o∧Q j wr)∧Hid (feF j (es.drop j)=fe es)) (fun i _=>n-(intOf i).toNat)
 case atStart=>exact⟨0,Nat.zero_le _,rfl,HI,Lib.hid rfl⟩
 case round =>
  obtain⟨j,hj,rfl,hG,hL⟩:=hrel
  by_cases hlt:j<n
  ·have hjl:j<l.length:=by rw [HN.out];exact hlt
   obtain⟨b,o',rfl,hbl,hc⟩:=HD.out (by omega)
   obtain⟨d,hd⟩:∃ d,l[j]=d:=⟨_,rfl⟩
   obtain⟨lv,hst,hc2⟩:=hc j hjl
   obtain⟨ln,hln⟩:∃ ln,l[j].labs.length=ln:=⟨_,rfl⟩
   obtain⟨la,lc,rfl,-⟩:=st_form hln hst
   have hC:=fun i u hu=>gr_cell hG.out.1 HO.out (hc2 i u hu)
   have a0:=hC 0 _ rfl
   have a1:=hC 1 _ rfl
   have a2:=hC 2 _ rfl
   have a3:=hC 3 _ rfl
   have a4:=hC 4 _ rfl
   have a5:=hC 5 _ rfl
   have a6:=hC 6 _ rfl
   have a7:=hC 7 _ rfl
   have a8:=hC 8 _ rfl
   have hk:=HK.out j hjl (.slice la ln lc)
   rw [hd] at a1 a2 a3 a4 a5 a6 a7 a8 hk hst
   rw [Nat.add_zero] at a0
   have HST:=Lib.hid (st_gr hst hG.out.1 HO.out)
   clear hC hc2 hst hln
   have hfc:=gr_cell hG.out.1 HO.out HF.out
   have hkf:kf<wr.heap.size:=World.block_lt_of_cell? wr _ hfc
   have hlt':(j:Int)<(n:Int):=by omega
   obtain⟨ej,hej⟩:∃ ej,es.getD j 0=ej:=⟨_,rfl⟩
   rw [hej] at hk
   obtain⟨hs1,hs2⟩:=fe_step HE.out hlt hL.out
   rw [hej] at hs1 hs2
   have HK2:=Lib.hid (fun W hq hs=>hk W hs hq)
   have HS1:=Lib.hid hs1
   have HS2:=Lib.hid hs2
   clear hk hs1 hs2 hej hd hc hL
   by_cases h0:ej=0
   ·subst h0
    go_wp2_with (go_at_call 126;((with_reducible refine (HK2.out _ (HQ.out _ _ _ hG.out.2 (L8.bnew wr _)) (HST.out.below (L8.bnew wr _))).mono ?_);rintro e w1 ⟨rfl,g1,q1⟩))
    go_roundw
    case rel=>exact⟨j+1,by omega,by go_num,Lib.hid ⟨gr_tr hG.out.1 (gr_tr (gr_of (L8.bnew wr _) o) g1),q1 (by trivial)⟩,Lib.hid (HS1.out (by trivial))⟩
    case measure=>simp [intOf];omega
   ·go_wp2_with (go_at_call 126;((with_reducible refine (HK2.out _ (HQ.out _ _ _ hG.out.2 (L8.bnew wr _)) (HST.out.below (L8.bnew wr _))).mono ?_);rintro e w1 ⟨rfl,g1,q1⟩))
    go_ret2
    unfold EaP
    rw [HS2.out h0]
    exact⟨rfl,gr_tr hG.out.1 (gr_tr (gr_of (L8.bnew wr _) o) g1),fun h=>absurd h h0⟩
  ·obtain rfl:j=n:=by omega
   go_wp2
   go_ret2
   unfold EaP
   rw [fe_end HE.out hL.out]
   exact⟨rfl,hG.out.1,fun _=>hG.out.2⟩
theorem each5 (o:Option Nat) (kb kf k4:Nat) (vm:Value) (l:List Stm) (es:List Int) (Q:Nat→World→Prop) (w:World) (hv:SmAt w vm l) (hm:l.length≤100000) (he:es.length=l.length)
  (hb:w.cell? ⟨kb,0,none⟩=some vm) (hf:w.cell? ⟨kf,0,none⟩=some (.func (.func 132) #[] #[.pointer (some ⟨k4,0,none⟩)])) (ho:NoC w o) (h0:Q 0 w)
  (hQ:∀ j W W',Q j W→Below W.heap.size W W'→Q j W')
  (hK:∀ j (h:j<l.length) lv W,L8.StAt W lv l[j].labs→Q j W→Calls Tryz.prog 132 #[.int .i64 (j:Int),.agg (smA lv l[j].x.op l[j].x.reg l[j].x.dst l[j].x.src l[j].x.off l[j].x.imm l[j].tg l[j].mp),.pointer (some ⟨k4,0,none⟩)] W fun e W'=>e=.returned (.int .i64 (es.getD j 0))∧W.grownBy W' o∧(es.getD j 0=0→Q (j+1) W')) :
  Calls Tryz.prog 155 #[.pointer (some ⟨kb,0,none⟩),.pointer (some ⟨kf,0,none⟩)] w fun e w'=>EaP o l.length es Q w e w':=by
 obtain⟨n,hn⟩:∃ n,l.length=n:=⟨_,rfl⟩
 rw [hn] at hm he ⊢
 obtain⟨a,cap,rfl,hc⟩:=sm_form hn hv
 have HD:=Lib.hid hc
 have HN:=Lib.hid hn
 have HE:=Lib.hid he
 have HK:=Lib.hid hK
 have HQ:=Lib.hid hQ
 have HO:=Lib.hid ho
 have HF:=Lib.hid hf
 have HI:Hid (w.grownBy w o∧Q 0 w):=Lib.hid ⟨gr_refl w o,h0⟩
 clear hc hn he hK hQ ho hf h0 hv
 go_enter Tryz.func155,Tryz.ntmps155
 go_wp2
 go_loopw [9] (fun i wr=>∃ j:Nat,j≤n∧i=.int .i64 (j:Int)∧Hid (w.grownBy wr o∧Q j wr)∧Hid (feF j (es.drop j)=fe es)) (fun i _=>n-(intOf i).toNat)
 case atStart=>exact⟨0,Nat.zero_le _,rfl,HI,Lib.hid rfl⟩
 case round =>
  obtain⟨j,hj,rfl,hG,hL⟩:=hrel
  by_cases hlt:j<n
  ·have hjl:j<l.length:=by rw [HN.out];exact hlt
   obtain⟨b,o',rfl,hbl,hc⟩:=HD.out (by omega)
   obtain⟨d,hd⟩:∃ d,l[j]=d:=⟨_,rfl⟩
   obtain⟨lv,hst,hc2⟩:=hc j hjl
   obtain⟨ln,hln⟩:∃ ln,l[j].labs.length=ln:=⟨_,rfl⟩
   obtain⟨la,lc,rfl,-⟩:=st_form hln hst
   have hC:=fun i u hu=>gr_cell hG.out.1 HO.out (hc2 i u hu)
   have a0:=hC 0 _ rfl
   have a1:=hC 1 _ rfl
   have a2:=hC 2 _ rfl
   have a3:=hC 3 _ rfl
   have a4:=hC 4 _ rfl
   have a5:=hC 5 _ rfl
   have a6:=hC 6 _ rfl
   have a7:=hC 7 _ rfl
   have a8:=hC 8 _ rfl
   have hk:=HK.out j hjl (.slice la ln lc)
   rw [hd] at a1 a2 a3 a4 a5 a6 a7 a8 hk hst
   rw [Nat.add_zero] at a0
   have HST:=Lib.hid (st_gr hst hG.out.1 HO.out)
   clear hC hc2 hst hln
   have hfc:=gr_cell hG.out.1 HO.out HF.out
   have hkf:kf<wr.heap.size:=World.block_lt_of_cell? wr _ hfc
   have hlt':(j:Int)<(n:Int):=by omega
   obtain⟨ej,hej⟩:∃ ej,es.getD j 0=ej:=⟨_,rfl⟩
   rw [hej] at hk
   obtain⟨hs1,hs2⟩:=fe_step HE.out hlt hL.out
   rw [hej] at hs1 hs2
   have HK2:=Lib.hid (fun W hq hs=>hk W hs hq)
   have HS1:=Lib.hid hs1
   have HS2:=Lib.hid hs2
   clear hk hs1 hs2 hej hd hc hL
   by_cases h0:ej=0
   ·subst h0
    go_wp2_with (go_at_call 132;((with_reducible refine (HK2.out _ (HQ.out _ _ _ hG.out.2 (L8.bnew wr _)) (HST.out.below (L8.bnew wr _))).mono ?_);rintro e w1 ⟨rfl,g1,q1⟩))
    go_roundw
    case rel=>exact⟨j+1,by omega,by go_num,Lib.hid ⟨gr_tr hG.out.1 (gr_tr (gr_of (L8.bnew wr _) o) g1),q1 (by trivial)⟩,Lib.hid (HS1.out (by trivial))⟩
    case measure=>simp [intOf];omega
   ·go_wp2_with (go_at_call 132;((with_reducible refine (HK2.out _ (HQ.out _ _ _ hG.out.2 (L8.bnew wr _)) (HST.out.below (L8.bnew wr _))).mono ?_);rintro e w1 ⟨rfl,g1,q1⟩))
    go_ret2
    unfold EaP
    rw [HS2.out h0]
    exact⟨rfl,gr_tr hG.out.1 (gr_tr (gr_of (L8.bnew wr _) o) g1),fun h=>absurd h h0⟩
  ·obtain rfl:j=n:=by omega
   go_wp2
   go_ret2
   unfold EaP
   rw [fe_end HE.out hL.out]
   exact⟨rfl,hG.out.1,fun _=>hG.out.2⟩
theorem each7 (o:Option Nat) (kb kf k4 k3:Nat) (vm:Value) (l:List Stm) (es:List Int) (Q:Nat→World→Prop) (w:World) (hv:SmAt w vm l) (hm:l.length≤100000) (he:es.length=l.length)
  (hb:w.cell? ⟨kb,0,none⟩=some vm) (hf:w.cell? ⟨kf,0,none⟩=some (.func (.func 134) #[] #[.pointer (some ⟨k4,0,none⟩),.pointer (some ⟨k3,0,none⟩)])) (ho:NoC w o) (h0:Q 0 w)
  (hQ:∀ j W W',Q j W→Below W.heap.size W W'→Q j W')
  (hK:∀ j (h:j<l.length) lv W,L8.StAt W lv l[j].labs→Q j W→Calls Tryz.prog 134 #[.int .i64 (j:Int),.agg (smA lv l[j].x.op l[j].x.reg l[j].x.dst l[j].x.src l[j].x.off l[j].x.imm l[j].tg l[j].mp),.pointer (some ⟨k4,0,none⟩),.pointer (some ⟨k3,0,none⟩)] W fun e W'=>e=.returned (.int .i64 (es.getD j 0))∧W.grownBy W' o∧(es.getD j 0=0→Q (j+1) W')) :
  Calls Tryz.prog 155 #[.pointer (some ⟨kb,0,none⟩),.pointer (some ⟨kf,0,none⟩)] w fun e w'=>EaP o l.length es Q w e w':=by
 obtain⟨n,hn⟩:∃ n,l.length=n:=⟨_,rfl⟩
 rw [hn] at hm he ⊢
 obtain⟨a,cap,rfl,hc⟩:=sm_form hn hv
 have HD:=Lib.hid hc
 have HN:=Lib.hid hn
 have HE:=Lib.hid he
 have HK:=Lib.hid hK
 have HQ:=Lib.hid hQ
 have HO:=Lib.hid ho
 have HF:=Lib.hid hf
 have HI:Hid (w.grownBy w o∧Q 0 w):=Lib.hid ⟨gr_refl w o,h0⟩
 clear hc hn he hK hQ ho hf h0 hv
 go_enter Tryz.func155,Tryz.ntmps155
 go_wp2
 go_loopw [9] (fun i wr=>∃ j:Nat,j≤n∧i=.int .i64 (j:Int)∧Hid (w.grownBy wr o∧Q j wr)∧Hid (feF j (es.drop j)=fe es)) (fun i _=>n-(intOf i).toNat)
 case atStart=>exact⟨0,Nat.zero_le _,rfl,HI,Lib.hid rfl⟩
 case round =>
  obtain⟨j,hj,rfl,hG,hL⟩:=hrel
  by_cases hlt:j<n
  ·have hjl:j<l.length:=by rw [HN.out];exact hlt
   obtain⟨b,o',rfl,hbl,hc⟩:=HD.out (by omega)
   obtain⟨d,hd⟩:∃ d,l[j]=d:=⟨_,rfl⟩
   obtain⟨lv,hst,hc2⟩:=hc j hjl
   obtain⟨ln,hln⟩:∃ ln,l[j].labs.length=ln:=⟨_,rfl⟩
   obtain⟨la,lc,rfl,-⟩:=st_form hln hst
   have hC:=fun i u hu=>gr_cell hG.out.1 HO.out (hc2 i u hu)
   have a0:=hC 0 _ rfl
   have a1:=hC 1 _ rfl
   have a2:=hC 2 _ rfl
   have a3:=hC 3 _ rfl
   have a4:=hC 4 _ rfl
   have a5:=hC 5 _ rfl
   have a6:=hC 6 _ rfl
   have a7:=hC 7 _ rfl
   have a8:=hC 8 _ rfl
   have hk:=HK.out j hjl (.slice la ln lc)
   rw [hd] at a1 a2 a3 a4 a5 a6 a7 a8 hk hst
   rw [Nat.add_zero] at a0
   have HST:=Lib.hid (st_gr hst hG.out.1 HO.out)
   clear hC hc2 hst hln
   have hfc:=gr_cell hG.out.1 HO.out HF.out
   have hkf:kf<wr.heap.size:=World.block_lt_of_cell? wr _ hfc
   have hlt':(j:Int)<(n:Int):=by omega
   obtain⟨ej,hej⟩:∃ ej,es.getD j 0=ej:=⟨_,rfl⟩
   rw [hej] at hk
   obtain⟨hs1,hs2⟩:=fe_step HE.out hlt hL.out
   rw [hej] at hs1 hs2
   have HK2:=Lib.hid (fun W hq hs=>hk W hs hq)
   have HS1:=Lib.hid hs1
   have HS2:=Lib.hid hs2
   clear hk hs1 hs2 hej hd hc hL
   by_cases h0:ej=0
   ·subst h0
    go_wp2_with (go_at_call 134;((with_reducible refine (HK2.out _ (HQ.out _ _ _ hG.out.2 (L8.bnew wr _)) (HST.out.below (L8.bnew wr _))).mono ?_);rintro e w1 ⟨rfl,g1,q1⟩))
    go_roundw
    case rel=>exact⟨j+1,by omega,by go_num,Lib.hid ⟨gr_tr hG.out.1 (gr_tr (gr_of (L8.bnew wr _) o) g1),q1 (by trivial)⟩,Lib.hid (HS1.out (by trivial))⟩
    case measure=>simp [intOf];omega
   ·go_wp2_with (go_at_call 134;((with_reducible refine (HK2.out _ (HQ.out _ _ _ hG.out.2 (L8.bnew wr _)) (HST.out.below (L8.bnew wr _))).mono ?_);rintro e w1 ⟨rfl,g1,q1⟩))
    go_ret2
    unfold EaP
    rw [HS2.out h0]
    exact⟨rfl,gr_tr hG.out.1 (gr_tr (gr_of (L8.bnew wr _) o) g1),fun h=>absurd h h0⟩
  ·obtain rfl:j=n:=by omega
   go_wp2
   go_ret2
   unfold EaP
   rw [fe_end HE.out hL.out]
   exact⟨rfl,hG.out.1,fun _=>hG.out.2⟩
theorem each8 (o:Option Nat) (kb kf:Nat) (vm:Value) (l:List Stm) (es:List Int) (Q:Nat→World→Prop) (w:World) (hv:SmAt w vm l) (hm:l.length≤100000) (he:es.length=l.length)
  (hb:w.cell? ⟨kb,0,none⟩=some vm) (hf:w.cell? ⟨kf,0,none⟩=some (.func (.func 135) #[] #[])) (ho:NoC w o) (h0:Q 0 w)
  (hQ:∀ j W W',Q j W→Below W.heap.size W W'→Q j W')
  (hK:∀ j (h:j<l.length) lv W,L8.StAt W lv l[j].labs→Q j W→Calls Tryz.prog 135 #[.int .i64 (j:Int),.agg (smA lv l[j].x.op l[j].x.reg l[j].x.dst l[j].x.src l[j].x.off l[j].x.imm l[j].tg l[j].mp)] W fun e W'=>e=.returned (.int .i64 (es.getD j 0))∧W.grownBy W' o∧(es.getD j 0=0→Q (j+1) W')) :
  Calls Tryz.prog 155 #[.pointer (some ⟨kb,0,none⟩),.pointer (some ⟨kf,0,none⟩)] w fun e w'=>EaP o l.length es Q w e w':=by
 obtain⟨n,hn⟩:∃ n,l.length=n:=⟨_,rfl⟩
 rw [hn] at hm he ⊢
 obtain⟨a,cap,rfl,hc⟩:=sm_form hn hv
 have HD:=Lib.hid hc
 have HN:=Lib.hid hn
 have HE:=Lib.hid he
 have HK:=Lib.hid hK
 have HQ:=Lib.hid hQ
 have HO:=Lib.hid ho
 have HF:=Lib.hid hf
 have HI:Hid (w.grownBy w o∧Q 0 w):=Lib.hid ⟨gr_refl w o,h0⟩
 clear hc hn he hK hQ ho hf h0 hv
 go_enter Tryz.func155,Tryz.ntmps155
 go_wp2
 go_loopw [9] (fun i wr=>∃ j:Nat,j≤n∧i=.int .i64 (j:Int)∧Hid (w.grownBy wr o∧Q j wr)∧Hid (feF j (es.drop j)=fe es)) (fun i _=>n-(intOf i).toNat)
 case atStart=>exact⟨0,Nat.zero_le _,rfl,HI,Lib.hid rfl⟩
 case round =>
  obtain⟨j,hj,rfl,hG,hL⟩:=hrel
  by_cases hlt:j<n
  ·have hjl:j<l.length:=by rw [HN.out];exact hlt
   obtain⟨b,o',rfl,hbl,hc⟩:=HD.out (by omega)
   obtain⟨d,hd⟩:∃ d,l[j]=d:=⟨_,rfl⟩
   obtain⟨lv,hst,hc2⟩:=hc j hjl
   obtain⟨ln,hln⟩:∃ ln,l[j].labs.length=ln:=⟨_,rfl⟩
   obtain⟨la,lc,rfl,-⟩:=st_form hln hst
   have hC:=fun i u hu=>gr_cell hG.out.1 HO.out (hc2 i u hu)
   have a0:=hC 0 _ rfl
   have a1:=hC 1 _ rfl
   have a2:=hC 2 _ rfl
   have a3:=hC 3 _ rfl
   have a4:=hC 4 _ rfl
   have a5:=hC 5 _ rfl
   have a6:=hC 6 _ rfl
   have a7:=hC 7 _ rfl
   have a8:=hC 8 _ rfl
   have hk:=HK.out j hjl (.slice la ln lc)
   rw [hd] at a1 a2 a3 a4 a5 a6 a7 a8 hk hst
   rw [Nat.add_zero] at a0
   have HST:=Lib.hid (st_gr hst hG.out.1 HO.out)
   clear hC hc2 hst hln
   have hfc:=gr_cell hG.out.1 HO.out HF.out
   have hkf:kf<wr.heap.size:=World.block_lt_of_cell? wr _ hfc
   have hlt':(j:Int)<(n:Int):=by omega
   obtain⟨ej,hej⟩:∃ ej,es.getD j 0=ej:=⟨_,rfl⟩
   rw [hej] at hk
   obtain⟨hs1,hs2⟩:=fe_step HE.out hlt hL.out
   rw [hej] at hs1 hs2
   have HK2:=Lib.hid (fun W hq hs=>hk W hs hq)
   have HS1:=Lib.hid hs1
   have HS2:=Lib.hid hs2
   clear hk hs1 hs2 hej hd hc hL
   by_cases h0:ej=0
   ·subst h0
    go_wp2_with (go_at_call 135;((with_reducible refine (HK2.out _ (HQ.out _ _ _ hG.out.2 (L8.bnew wr _)) (HST.out.below (L8.bnew wr _))).mono ?_);rintro e w1 ⟨rfl,g1,q1⟩))
    go_roundw
    case rel=>exact⟨j+1,by omega,by go_num,Lib.hid ⟨gr_tr hG.out.1 (gr_tr (gr_of (L8.bnew wr _) o) g1),q1 (by trivial)⟩,Lib.hid (HS1.out (by trivial))⟩
    case measure=>simp [intOf];omega
   ·go_wp2_with (go_at_call 135;((with_reducible refine (HK2.out _ (HQ.out _ _ _ hG.out.2 (L8.bnew wr _)) (HST.out.below (L8.bnew wr _))).mono ?_);rintro e w1 ⟨rfl,g1,q1⟩))
    go_ret2
    unfold EaP
    rw [HS2.out h0]
    exact⟨rfl,gr_tr hG.out.1 (gr_tr (gr_of (L8.bnew wr _) o) g1),fun h=>absurd h h0⟩
  ·obtain rfl:j=n:=by omega
   go_wp2
   go_ret2
   unfold EaP
   rw [fe_end HE.out hL.out]
   exact⟨rfl,hG.out.1,fun _=>hG.out.2⟩
theorem each9 (o:Option Nat) (kb kf k1:Nat) (vm:Value) (l:List Stm) (es:List Int) (Q:Nat→World→Prop) (w:World) (hv:SmAt w vm l) (hm:l.length≤100000) (he:es.length=l.length)
  (hb:w.cell? ⟨kb,0,none⟩=some vm) (hf:w.cell? ⟨kf,0,none⟩=some (.func (.func 137) #[] #[.pointer (some ⟨k1,0,none⟩)])) (ho:NoC w o) (h0:Q 0 w)
  (hQ:∀ j W W',Q j W→Below W.heap.size W W'→Q j W')
  (hK:∀ j (h:j<l.length) lv W,L8.StAt W lv l[j].labs→Q j W→Calls Tryz.prog 137 #[.int .i64 (j:Int),.agg (smA lv l[j].x.op l[j].x.reg l[j].x.dst l[j].x.src l[j].x.off l[j].x.imm l[j].tg l[j].mp),.pointer (some ⟨k1,0,none⟩)] W fun e W'=>e=.returned (.int .i64 (es.getD j 0))∧W.grownBy W' o∧(es.getD j 0=0→Q (j+1) W')) :
  Calls Tryz.prog 155 #[.pointer (some ⟨kb,0,none⟩),.pointer (some ⟨kf,0,none⟩)] w fun e w'=>EaP o l.length es Q w e w':=by
 obtain⟨n,hn⟩:∃ n,l.length=n:=⟨_,rfl⟩
 rw [hn] at hm he ⊢
 obtain⟨a,cap,rfl,hc⟩:=sm_form hn hv
 have HD:=Lib.hid hc
 have HN:=Lib.hid hn
 have HE:=Lib.hid he
 have HK:=Lib.hid hK
 have HQ:=Lib.hid hQ
 have HO:=Lib.hid ho
 have HF:=Lib.hid hf
 have HI:Hid (w.grownBy w o∧Q 0 w):=Lib.hid ⟨gr_refl w o,h0⟩
 clear hc hn he hK hQ ho hf h0 hv
 go_enter Tryz.func155,Tryz.ntmps155
 go_wp2
 go_loopw [9] (fun i wr=>∃ j:Nat,j≤n∧i=.int .i64 (j:Int)∧Hid (w.grownBy wr o∧Q j wr)∧Hid (feF j (es.drop j)=fe es)) (fun i _=>n-(intOf i).toNat)
 case atStart=>exact⟨0,Nat.zero_le _,rfl,HI,Lib.hid rfl⟩
 case round =>
  obtain⟨j,hj,rfl,hG,hL⟩:=hrel
  by_cases hlt:j<n
  ·have hjl:j<l.length:=by rw [HN.out];exact hlt
   obtain⟨b,o',rfl,hbl,hc⟩:=HD.out (by omega)
   obtain⟨d,hd⟩:∃ d,l[j]=d:=⟨_,rfl⟩
   obtain⟨lv,hst,hc2⟩:=hc j hjl
   obtain⟨ln,hln⟩:∃ ln,l[j].labs.length=ln:=⟨_,rfl⟩
   obtain⟨la,lc,rfl,-⟩:=st_form hln hst
   have hC:=fun i u hu=>gr_cell hG.out.1 HO.out (hc2 i u hu)
   have a0:=hC 0 _ rfl
   have a1:=hC 1 _ rfl
   have a2:=hC 2 _ rfl
   have a3:=hC 3 _ rfl
   have a4:=hC 4 _ rfl
   have a5:=hC 5 _ rfl
   have a6:=hC 6 _ rfl
   have a7:=hC 7 _ rfl
   have a8:=hC 8 _ rfl
   have hk:=HK.out j hjl (.slice la ln lc)
   rw [hd] at a1 a2 a3 a4 a5 a6 a7 a8 hk hst
   rw [Nat.add_zero] at a0
   have HST:=Lib.hid (st_gr hst hG.out.1 HO.out)
   clear hC hc2 hst hln
   have hfc:=gr_cell hG.out.1 HO.out HF.out
   have hkf:kf<wr.heap.size:=World.block_lt_of_cell? wr _ hfc
   have hlt':(j:Int)<(n:Int):=by omega
   obtain⟨ej,hej⟩:∃ ej,es.getD j 0=ej:=⟨_,rfl⟩
   rw [hej] at hk
   obtain⟨hs1,hs2⟩:=fe_step HE.out hlt hL.out
   rw [hej] at hs1 hs2
   have HK2:=Lib.hid (fun W hq hs=>hk W hs hq)
   have HS1:=Lib.hid hs1
   have HS2:=Lib.hid hs2
   clear hk hs1 hs2 hej hd hc hL
   by_cases h0:ej=0
   ·subst h0
    go_wp2_with (go_at_call 137;((with_reducible refine (HK2.out _ (HQ.out _ _ _ hG.out.2 (L8.bnew wr _)) (HST.out.below (L8.bnew wr _))).mono ?_);rintro e w1 ⟨rfl,g1,q1⟩))
    go_roundw
    case rel=>exact⟨j+1,by omega,by go_num,Lib.hid ⟨gr_tr hG.out.1 (gr_tr (gr_of (L8.bnew wr _) o) g1),q1 (by trivial)⟩,Lib.hid (HS1.out (by trivial))⟩
    case measure=>simp [intOf];omega
   ·go_wp2_with (go_at_call 137;((with_reducible refine (HK2.out _ (HQ.out _ _ _ hG.out.2 (L8.bnew wr _)) (HST.out.below (L8.bnew wr _))).mono ?_);rintro e w1 ⟨rfl,g1,q1⟩))
    go_ret2
    unfold EaP
    rw [HS2.out h0]
    exact⟨rfl,gr_tr hG.out.1 (gr_tr (gr_of (L8.bnew wr _) o) g1),fun h=>absurd h h0⟩
  ·obtain rfl:j=n:=by omega
   go_wp2
   go_ret2
   unfold EaP
   rw [fe_end HE.out hL.out]
   exact⟨rfl,hG.out.1,fun _=>hG.out.2⟩
end Go.Proofs.YtohkgdfkklfgmaaGreatDoor.L10
end
section
set_option maxRecDepth 100000
set_option maxHeartbeats 2000000
namespace Go.Proofs.YtohkgdfkklfgmaaGreatDoor.L10
open Go.RowKit Go.Maps
attribute [local go_sem] Oper.semAt_some
theorem set_of {w W:World} {g:Nat} {ks:List ByteArray} (h:SetAt w g ks) (e:W.heap[g]?=w.heap[g]?):SetAt W g ks:=by
 obtain⟨es,n,h1,h2⟩:=h
 exact⟨es,n,e.trans h1,h2⟩
theorem set_lt {w:World} {g:Nat} {ks:List ByteArray} (h:SetAt w g ks):g<w.heap.size:=by
 obtain⟨es,n,h1,h2⟩:=h
 exact (Array.getElem?_eq_some_iff.1 h1).1
theorem set_below {w W:World} {g:Nat} {ks:List ByteArray} (h:SetAt w g ks) (hb:Below w.heap.size w W):SetAt W g ks:=set_of h (hb.block _ (set_lt h))
theorem one_text (W:World) (t:ByteArray) (ty:TypeId) (k:Nat) (hk:k=W.heap.size):L8.StAt (W.alloc (.cells #[.string t] ty)) (.slice (some ⟨k,0,none⟩) 1 1) [t]:=by
 subst hk
 refine .inl ⟨W.heap.size,0,1,rfl,by simp,fun j hj=>?_⟩
 obtain rfl:j=0:=by simpa using hj
 have h:=heap_alloc_last W (.cells #[.string t] ty)
 unfold World.cell?
 rw [h]
 rfl
theorem look_run {w:World} {g:Nat} {ks:List ByteArray} {x:ByteArray} {b:Bool} (h:SetAt w g ks) (hx:x.size≤maxLen) (hb:L2.on ks x=b):(Instr.lookup 186 (.map (some g)) (.string x) false).run Tryz.prog w=.ok (.bool b) w:=by
 have hz:(zeroValue 4).run Tryz.prog w=.ok (.bool false) w:=by kernel_rfl
 obtain⟨v,ps,hrun,hv⟩:=World.ownsMap.lookup h L2.law9 Tryz.underlying186 hz (plainElem_bool Tryz.underlying4 false) (key_of hx)
 rw [Sl_at,hb] at hv
 obtain⟨y,rfl,hy⟩:=L2.bool_inv Tryz.underlying4 hv
 simp only [Prod.mk.injEq,DataW.lit.injEq,Lit.bool.injEq] at hy
 rw [hrun,hy.1]
theorem c1_at (i:Int) (d:L9.Df) (r:Int) (w:World) (hT:L2.Regs w) (h:deE d=r):Calls Tryz.prog 123 #[.int .i64 i,.agg #[.string d.nm,.int .i64 d.key,.int .i64 d.val,.int .i64 d.ent]] w fun e w'=>e=.returned (.int .i64 r)∧Below w.heap.size w w':=by
 have HD:=Lib.hid (fun (W:World) (hb:Below w.heap.size w W)=>checkDef_at d r W (hT.below hb) h)
 clear hT h
 go_enter Tryz.func123,Tryz.ntmps123
 go_wp2_with (go_at_call 124;((with_reducible refine (HD.out _ (L8.bnew w _)).mono ?_);rintro e w1 ⟨rfl,b1⟩))
 go_ret
 exact⟨rfl,L2.bch (L8.bnew _ _) b1⟩
theorem c2_at (i:Int) (lv:Value) (s:Stm) (r:Int) (w:World) (hT:L1.Wid w∧L2.Regs w) (hv:L8.StAt w lv s.labs) (hm:s.labs.length≤100000) (h:stE s=r):Calls Tryz.prog 126 #[.int .i64 i,.agg (smA lv s.x.op s.x.reg s.x.dst s.x.src s.x.off s.x.imm s.tg s.mp)] w fun e w'=>e=.returned (.int .i64 r)∧Below w.heap.size w w':=by
 have HD:=Lib.hid (fun (W:World) (hb:Below w.heap.size w W)=>checkStmt_at lv s.labs s.x.op s.x.reg s.x.dst s.x.src s.x.off s.x.imm s.tg s.mp r W ⟨L4.wid_below hT.1 hb,hT.2.below hb⟩ (hv.below hb) hm h)
 obtain⟨ln,hln⟩:∃ ln,s.labs.length=ln:=⟨_,rfl⟩
 obtain⟨la,lc,rfl,-⟩:=st_form hln hv
 clear hT h hv hm hln
 go_enter Tryz.func126,Tryz.ntmps126
 go_wp2_with (go_at_call 127;((with_reducible refine (HD.out _ (L8.bnew w _)).mono ?_);rintro e w1 ⟨rfl,b1⟩))
 go_ret
 exact⟨rfl,L2.bch (L8.bnew _ _) b1⟩
theorem c3_at (j:Nat) (a b c:Int) (t:ByteArray) (r:Int) (w:World) (h:(if j<255 then 0 else 16)=r):Calls Tryz.prog 128 #[.int .i64 (j:Int),.agg #[.string t,.int .i64 a,.int .i64 b,.int .i64 c]] w fun e w'=>e=.returned (.int .i64 r)∧Below w.heap.size w w':=by
 obtain⟨v,hv⟩:∃ v,decide ((j:Int)<255)=v:=⟨_,rfl⟩
 have HU:=Lib.hid (fun W=>unless_at v 16 r W (by rw [← h,← hv];by_cases hj:j<255 <;> simp [hj] <;> omega))
 clear h
 cases v
 all_goals
  have hv':=hv
  simp only [decide_eq_true_eq,decide_eq_false_iff_not] at hv'
  go_enter Tryz.func128,Tryz.ntmps128
  go_wp2_with (go_at_call 129;((with_reducible refine (HU.out _).mono ?_);rintro e w1 ⟨rfl,rfl⟩))
  go_ret
  exact⟨rfl,L8.bnew _ _⟩
theorem c4_at (i:Int) (a b c:Int) (t:ByteArray) (k3 g:Nat) (ks:List ByteArray) (r:Int) (w:World) (hc:w.cell? ⟨k3,0,none⟩=some (.map (some g))) (hs:SetAt w g ks) (hz:t.size≤maxLen) (hm:ks.length+1≤100000) (h:(if addB ks [t] then 0 else 10)=r) :
  Calls Tryz.prog 130 #[.int .i64 i,.agg #[.string t,.int .i64 a,.int .i64 b,.int .i64 c],.pointer (some ⟨k3,0,none⟩)] w fun e w'=>e=.returned (.int .i64 r)∧w.grownBy w' (some g)∧(r=0→SetAt w' g (ks++[t])):=by
 obtain⟨v,hv⟩:∃ v,addB ks [t]=v:=⟨_,rfl⟩
 rw [hv] at h
 have HA:=Lib.hid (fun (W:World) (hb:Below w.heap.size w W) (v':Value) (hl:L8.StAt W v' [t])=>add_at v' g ks [t] W (by simpa using hm) (set_below hs hb) (fun x hx=>by simp at hx;rw [hx];exact hz) hl v hv)
 have HU:=Lib.hid (fun W=>unless_at v 10 r W h)
 have HR:=Lib.hid h
 have hk:=World.block_lt_of_cell? w _ hc
 clear hv h hs
 go_enter Tryz.func130,Tryz.ntmps130
 go_wp2_with (first|(go_at_call 131;((with_reducible refine (HA.out _ (L2.bch (L8.bnew w _) (L8.bnew _ _)) _ (one_text _ t _ _ (by simp))).mono ?_);rintro e w1 ⟨rfl,g1,s1⟩))|(go_at_call 129;((with_reducible refine (HU.out _).mono ?_);rintro e w2 ⟨rfl,rfl⟩)))
 go_ret
 refine⟨rfl,gr_tr (gr_of (L2.bch (L8.bnew w _) (L8.bnew _ _)) _) g1,fun h0=>s1 ?_⟩
 cases v
 ·have:=HR.out;simp at this;omega
 ·rfl
theorem c5_at (i:Int) (lv:Value) (s:Stm) (k4 g:Nat) (ks:List ByteArray) (r:Int) (w:World) (hc:w.cell? ⟨k4,0,none⟩=some (.map (some g))) (hs:SetAt w g ks) (hz:∀ t∈s.labs,t.size≤maxLen) (hm:ks.length+s.labs.length≤100000) (hl:L8.StAt w lv s.labs) (h:(if addB ks s.labs then 0 else 10)=r) :
  Calls Tryz.prog 132 #[.int .i64 i,.agg (smA lv s.x.op s.x.reg s.x.dst s.x.src s.x.off s.x.imm s.tg s.mp),.pointer (some ⟨k4,0,none⟩)] w fun e w'=>e=.returned (.int .i64 r)∧w.grownBy w' (some g)∧(r=0→SetAt w' g (ks++s.labs)):=by
 obtain⟨v,hv⟩:∃ v,addB ks s.labs=v:=⟨_,rfl⟩
 rw [hv] at h
 have HA:=Lib.hid (fun (W:World) (hb:Below w.heap.size w W)=>add_at lv g ks s.labs W hm (set_below hs hb) hz (hl.below hb) v hv)
 have HU:=Lib.hid (fun W=>unless_at v 10 r W h)
 have HR:=Lib.hid h
 have hk:=World.block_lt_of_cell? w _ hc
 obtain⟨ln,hln⟩:∃ ln,s.labs.length=ln:=⟨_,rfl⟩
 obtain⟨la,lc,rfl,-⟩:=st_form hln hl
 clear hv h hs hl hln hm hz
 go_enter Tryz.func132,Tryz.ntmps132
 go_wp2_with (first|(go_at_call 131;((with_reducible refine (HA.out _ (L8.bnew w _)).mono ?_);rintro e w1 ⟨rfl,g1,s1⟩))|(go_at_call 129;((with_reducible refine (HU.out _).mono ?_);rintro e w2 ⟨rfl,rfl⟩)))
 go_ret
 refine⟨rfl,gr_tr (gr_of (L8.bnew w _) _) g1,fun h0=>s1 ?_⟩
 cases v
 ·have:=HR.out;simp at this;omega
 ·rfl
theorem c6_at (k1 n cap:Nat) (a:Option Addr) (r:Int) (w:World) (hc:w.cell? ⟨k1,1,none⟩=some (.slice a n cap)) (h:(if 0<n then 0 else 15)=r) :
  Calls Tryz.prog 133 #[.pointer (some ⟨k1,0,none⟩)] w fun e w'=>e=.returned (.tuple #[.int .i64 0,.int .i64 r])∧w=w':=by
 obtain⟨v,hv⟩:∃ v,decide (0<n)=v:=⟨_,rfl⟩
 have HU:=Lib.hid (fun W=>unless_at v 15 r W (by rw [← h,← hv];by_cases hj:0<n <;> simp [hj] <;> omega))
 clear h
 cases v
 all_goals
  simp only [decide_eq_true_eq,decide_eq_false_iff_not] at hv
  have hv1:(0:Int)<(n:Int)↔0<n:=by omega
  go_enter Tryz.func133,Tryz.ntmps133
  go_wp2_with (go_at_call 129;((with_reducible refine (HU.out _).mono ?_);rintro e w1 ⟨rfl,rfl⟩))
  go_ret2
  exact⟨rfl,rfl⟩
theorem c7_at (i:Int) (la:Option Addr) (ln lc:Nat) (s:Stm) (k4 k3 g4 g3:Nat) (ls ms:List ByteArray) (r:Int) (w:World) (hc4:w.cell? ⟨k4,0,none⟩=some (.map (some g4))) (hc3:w.cell? ⟨k3,0,none⟩=some (.map (some g3))) (hs4:SetAt w g4 ls) (hs3:SetAt w g3 ms) (hz:s.tg.size≤maxLen∧s.mp.size≤maxLen)
  (h:(if (s.tg.toList.isEmpty || L2.on ls s.tg) && (s.mp.toList.isEmpty || L2.on ms s.mp) then 0 else 11)=r) :
  Calls Tryz.prog 134 #[.int .i64 i,.agg (smA (.slice la ln lc) s.x.op s.x.reg s.x.dst s.x.src s.x.off s.x.imm s.tg s.mp),.pointer (some ⟨k4,0,none⟩),.pointer (some ⟨k3,0,none⟩)] w fun e w'=>e=.returned (.int .i64 r)∧Below w.heap.size w w':=by
 obtain⟨labs,x,tg,mp⟩:=s
 simp only at hz h ⊢
 obtain⟨bt,hbt⟩:∃ v,L2.on ls tg=v:=⟨_,rfl⟩
 obtain⟨bm,hbm⟩:∃ v,L2.on ms mp=v:=⟨_,rfl⟩
 rw [hbt,hbm] at h
 have hl4:=look_run (set_below hs4 (L8.bnew w (.cells (smA (.slice la ln lc) x.op x.reg x.dst x.src x.off x.imm tg mp) 94))) hz.1 hbt
 have hl3:=look_run (set_below hs3 (L8.bnew w (.cells (smA (.slice la ln lc) x.op x.reg x.dst x.src x.off x.imm tg mp) 94))) hz.2 hbm
 have hk4:=World.block_lt_of_cell? w _ hc4
 have hk3:=World.block_lt_of_cell? w _ hc3
 have HR:=Lib.hid h
 clear hbt hbm hs4 hs3 h hz
 cases hte:tg.toList.isEmpty <;> cases bt <;> cases hme:mp.toList.isEmpty <;> cases bm
 all_goals
  rw [hte,hme] at HR
  have hR:=HR.out
  simp at hR
  subst hR
  clear HR
  go_enter Tryz.func134,Tryz.ntmps134
  go_wp2
  go_ret
  exact⟨rfl,L8.bnew _ _⟩
theorem c8_at (i:Int) (la:Option Addr) (ln lc:Nat) (s:Stm) (r:Int) (w:World) (h:wrE s=r) :
  Calls Tryz.prog 135 #[.int .i64 i,.agg (smA (.slice la ln lc) s.x.op s.x.reg s.x.dst s.x.src s.x.off s.x.imm s.tg s.mp)] w fun e w'=>e=.returned (.int .i64 r)∧Below w.heap.size w w':=by
 obtain⟨v,hv⟩:∃ v,L4.wri (fmI s.x) s.x.dst=v:=⟨_,rfl⟩
 have HW:=Lib.hid (fun W=>L4.writes_at s.x.op s.x.reg s.x.dst s.x.src s.x.off s.x.imm _ v W rfl hv)
 unfold wrE at h
 rw [hv] at h
 clear hv
 by_cases h10:v=10
 ·subst h10
  have HU:=Lib.hid (fun W=>unless_at false 14 r W (by rw [← h];rfl))
  clear h
  go_enter Tryz.func135,Tryz.ntmps135
  go_wp2_with (go_at_call 136;((with_reducible refine (HW.out _).mono ?_);rintro e w1 ⟨rfl,b1⟩))
  refine Calls.mono (HU.out _) ?_
  rintro e w2 ⟨rfl,rfl⟩
  go_wp2
  go_ret
  exact⟨rfl,L2.bch (L8.bnew _ _) b1⟩
 ·have HU:=Lib.hid (fun W=>unless_at (v != 10) 14 r W (by rw [← h,if_neg h10];simp [h10]))
  clear h
  go_enter Tryz.func135,Tryz.ntmps135
  go_wp2_with (go_at_call 136;((with_reducible refine (HW.out _).mono ?_);rintro e w1 ⟨rfl,b1⟩))
  refine Calls.mono (HU.out _) ?_
  rintro e w2 ⟨rfl,rfl⟩
  go_wp2
  go_ret
  exact⟨rfl,L2.bch (L8.bnew _ _) b1⟩
theorem c9_at (j:Nat) (la:Option Addr) (ln lc:Nat) (s:Stm) (k1 n cap:Nat) (a:Option Addr) (r:Int) (w:World) (hc:w.cell? ⟨k1,1,none⟩=some (.slice a n cap)) (hn:n≤100000) (h:enE n j s=r) :
  Calls Tryz.prog 137 #[.int .i64 (j:Int),.agg (smA (.slice la ln lc) s.x.op s.x.reg s.x.dst s.x.src s.x.off s.x.imm s.tg s.mp),.pointer (some ⟨k1,0,none⟩)] w fun e w'=>e=.returned (.int .i64 r)∧Below w.heap.size w w':=by
 unfold enE at h
 obtain⟨v,hv⟩:∃ v,L4.endF (fmI s.x)=v:=⟨_,rfl⟩
 rw [hv] at h
 have HE:=Lib.hid (fun W=>L4.ends_at s.x.op s.x.reg s.x.dst s.x.src s.x.off s.x.imm _ v W rfl hv)
 have hk:=World.block_lt_of_cell? w _ hc
 have hw:IntKind.i64.wrap ((n:Int)-1)=(n:Int)-1:=IntWalk.i64_in _ (by omega)
 clear hv
 by_cases hj:(j:Int)<(n:Int)-1
 ·obtain rfl:0=r:=by rw [← h];simp [hj]
  clear h
  go_enter Tryz.func137,Tryz.ntmps137
  go_wp2
  go_ret
  exact⟨rfl,L8.bnew _ _⟩
 ·have HU:=Lib.hid (fun W=>unless_at v 15 r W (by rw [← h];simp [hj]))
  clear h
  go_enter Tryz.func137,Tryz.ntmps137
  go_wp2_with (go_at_call 138;((with_reducible refine (HE.out _).mono ?_);rintro e w1 ⟨rfl,b1⟩))
  refine Calls.mono (HU.out _) ?_
  rintro e w2 ⟨rfl,rfl⟩
  go_wp2
  go_ret
  exact⟨rfl,L2.bch (L8.bnew _ _) b1⟩
end Go.Proofs.YtohkgdfkklfgmaaGreatDoor.L10
end
section
namespace Go.Proofs.YtohkgdfkklfgmaaGreatDoor.L10
open Go.RowKit Go.Maps
attribute [local go_sem] Oper.semAt_some
theorem bx (P:Prop):∃ b:Bool,b=true↔P:=by
 by_cases h:P
 ·exact⟨true,by simp [h]⟩
 ·exact⟨false,by simp [h]⟩
theorem tl_iff {a b:ByteArray}:a.toList=b.toList↔a=b :=
 ⟨fun h=>Classical.byContradiction fun hn=>by have:=L2.txt_ne hn;rw [h] at this;simp at this,fun h=>by rw [h]⟩
theorem nq_df (d e:L9.Df) (b:Bool) (h:b=true↔d=e) (w:World):(binOp .neq 62 (.agg #[.string d.nm,.int .i64 d.key,.int .i64 d.val,.int .i64 d.ent]) (.agg #[.string e.nm,.int .i64 e.key,.int .i64 e.val,.int .i64 e.ent])).run Tryz.prog w=.ok (.bool (!b)) w:=by
 have hp:Tryz.prog.stoodInHeld 62=false:=by kernel_rfl
 have a9:∀ w,(isAgg 9).run Tryz.prog w=.ok false w:=fun w=>by kernel_rfl
 have a3:∀ w,(isAgg 3).run Tryz.prog w=.ok false w:=fun w=>by kernel_rfl
 obtain⟨x1,x2,x3,x4⟩:=d
 obtain⟨y1,y2,y3,y4⟩:=e
 simp only [L9.Df.mk.injEq] at h ⊢
 simp [go_sem,hp,Tryz.underlying62,Tryz.underlying9,Tryz.underlying3,part,a9,a3]
 simp only [tl_iff]
 by_cases e1:x1=y1 <;> by_cases e2:x2=y2 <;> by_cases e3:x3=y3 <;> by_cases e4:x4=y4 <;> cases b <;> simp_all
theorem take_eq {α:Type} {l m:List α} {k:Nat} (h1:k<l.length) (h2:k<m.length) (h:l.take k=m.take k) (e:l[k]=m[k]):l.take (k+1)=m.take (k+1):=by
 rw [List.take_add_one,List.take_add_one,h,List.getElem?_eq_getElem h1,List.getElem?_eq_getElem h2,e]
theorem take_all {α:Type} {l m:List α} {n:Nat} (h1:l.length=n) (h2:m.length=n) (h:l.take n=m.take n):l=m:=by
 rwa [List.take_of_length_le (by omega),List.take_of_length_le (by omega)] at h
theorem get_ne {α:Type} {l m:List α} {k:Nat} (h1:k<l.length) (h2:k<m.length) (h:l[k]≠m[k]):l≠m:=by
 rintro rfl;exact h rfl
theorem df_form4 {w:World} {v:Value} {l:List L9.Df} {n:Nat} (hn:l.length=n) (h:DfAt w v l):∃ a c,v=.slice a n c∧(0<n→∃ b o,a=some ⟨b,o,none⟩∧b<w.heap.size∧∀ j,(h:j<l.length)→w.cell? ⟨b,o+j*4,none⟩=some (.string l[j].nm)∧w.cell? ⟨b,o+j*4+1,none⟩=some (.int .i64 l[j].key)∧w.cell? ⟨b,o+j*4+2,none⟩=some (.int .i64 l[j].val)∧w.cell? ⟨b,o+j*4+3,none⟩=some (.int .i64 l[j].ent)):=by
 obtain⟨a,c,rfl,hc⟩:=df_form hn h
 refine⟨a,c,rfl,fun h0=>?_⟩
 obtain⟨b,o,rfl,hb,hc⟩:=hc h0
 exact⟨b,o,rfl,hb,fun j hj=>⟨hc j hj 0 _ rfl,hc j hj 1 _ rfl,hc j hj 2 _ rfl,hc j hj 3 _ rfl⟩⟩
structure Sml (p:Pg):Prop where
 maps:p.maps.length≤100000
 stmts:p.stmts.length≤100000
 labs:∀ s∈p.stmts,s.labs.length≤100000
end Go.Proofs.YtohkgdfkklfgmaaGreatDoor.L10
end
section
set_option maxRecDepth 100000
set_option maxHeartbeats 4000000
namespace Go.Proofs.YtohkgdfkklfgmaaGreatDoor.L10
open Go.RowKit Go.Maps
attribute [local go_sem] Oper.semAt_some
theorem eachD_mk (a:Option Addr) (n cap F:Nat) (caps:Array Value) (w:World):Calls Tryz.prog 122 #[.slice a n cap,.func (.func F) #[] caps] w fun e w' =>
  ∃ kb kf,e=.returned (.func (.func 152) #[] #[.pointer (some ⟨kb,0,none⟩),.pointer (some ⟨kf,0,none⟩)])∧Below w.heap.size w w'∧w'.heap[kb]?=some (.cells #[.slice a n cap] 22)∧w'.heap[kf]?=some (.cells #[.func (.func F) #[] caps] 189):=by
 have hmf:∀ (fn:Fn) (first cap:Array Value) (w:World),(Instr.makeFunc fn first cap).run Tryz.prog w=.ok (.func fn first cap) w:=fun _ _ _ _=>rfl
 go_enter Tryz.func122,Tryz.ntmps122
 go_wp2
 go_ret
 exact⟨_,_,rfl,L2.bch (L8.bnew _ _) (L8.bnew _ _),L8.row_up (heap_alloc_last w _) (L8.bnew _ _),by have:=heap_alloc_last (w.alloc (.cells #[.slice a n cap] 22)) (.cells #[.func (.func F) #[] caps] 189);simpa using this⟩
theorem eachS_mk (a:Option Addr) (n cap F:Nat) (caps:Array Value) (w:World):Calls Tryz.prog 125 #[.slice a n cap,.func (.func F) #[] caps] w fun e w' =>
  ∃ kb kf,e=.returned (.func (.func 155) #[] #[.pointer (some ⟨kb,0,none⟩),.pointer (some ⟨kf,0,none⟩)])∧Below w.heap.size w w'∧w'.heap[kb]?=some (.cells #[.slice a n cap] 48)∧w'.heap[kf]?=some (.cells #[.func (.func F) #[] caps] 192):=by
 have hmf:∀ (fn:Fn) (first cap:Array Value) (w:World),(Instr.makeFunc fn first cap).run Tryz.prog w=.ok (.func fn first cap) w:=fun _ _ _ _=>rfl
 go_enter Tryz.func125,Tryz.ntmps125
 go_wp2
 go_ret
 exact⟨_,_,rfl,L2.bch (L8.bnew _ _) (L8.bnew _ _),L8.row_up (heap_alloc_last w _) (L8.bnew _ _),by have:=heap_alloc_last (w.alloc (.cells #[.slice a n cap] 48)) (.cells #[.func (.func F) #[] caps] 192);simpa using this⟩
def Acc (W:World) (l:List (Nat × Value × TypeId)):Prop:=∀ x∈l,W.heap[x.1]?=some (.cells #[x.2.1] x.2.2)
theorem acc_nil (W:World):Acc W []:=fun x hx=>by cases hx
theorem Acc.below {W W':World} {l:List (Nat × Value × TypeId)} (h:Acc W l) (hb:Below W.heap.size W W'):Acc W' l:=fun x hx=>L8.row_up (h x hx) hb
theorem acc_add {W W':World} {l:List (Nat × Value × TypeId)} {b f:Nat} {u v:Value} {s t:TypeId} (h:Acc W l) (hb:Below W.heap.size W W') (h1:W'.heap[b]?=some (.cells #[u] s)) (h2:W'.heap[f]?=some (.cells #[v] t)):Acc W' (l++[(b,u,s),(f,v,t)]):=fun x hx=>by
 rcases List.mem_append.1 hx with hx|hx
 ·exact h.below hb x hx
 ·simp only [List.mem_cons,List.not_mem_nil,or_false] at hx
  rcases hx with rfl|rfl
  ·exact h1
  ·exact h2
theorem cells2 {w:World} {k:Nat} {a b:Value} {t:TypeId} (h:w.heap[k]?=some (.cells #[a,b] t)):w.cell? ⟨k,0,none⟩=some a∧w.cell? ⟨k,1,none⟩=some b:=by
 simp [World.cell?,h]
theorem made_set (w:World):SetAt (w.alloc (.map #[] 0)) w.heap.size []:=World.ownsMap_made _ _ _ _
theorem acc_at {W:World} {l:List (Nat × Value × TypeId)} (h:Acc W l) (i:Nat) {b:Nat} {v:Value} {t:TypeId} (hx:l[i]?=some (b,v,t)):W.heap[b]?=some (.cells #[v] t):=h _ (List.mem_of_getElem? hx)
def ClD (W:World) (v vm:Value) (F:Nat) (caps:Array Value):Prop:=∃ kb kf,v=.func (.func 152) #[] #[.pointer (some ⟨kb,0,none⟩),.pointer (some ⟨kf,0,none⟩)]∧W.heap[kb]?=some (.cells #[vm] 22)∧W.heap[kf]?=some (.cells #[.func (.func F) #[] caps] 189)
def ClS (W:World) (v vs:Value) (F:Nat) (caps:Array Value):Prop:=∃ kb kf,v=.func (.func 155) #[] #[.pointer (some ⟨kb,0,none⟩),.pointer (some ⟨kf,0,none⟩)]∧W.heap[kb]?=some (.cells #[vs] 48)∧W.heap[kf]?=some (.cells #[.func (.func F) #[] caps] 192)
structure CnS (W:World) (vm vs:Value) (g k1 k3 k4 g3 g4:Nat) (v1 v2 v3 v4 v5 v7 v8 v9:Value):Prop where
 list:W.heap[g]?=some (.cells #[.bool true,v1,.bool false,v2,.bool true,v3,.bool true,v4,.bool false,v5,.bool false,.func (.func 133) #[] #[.pointer (some ⟨k1,0,none⟩)],.bool false,v7,.bool false,v8,.bool false,v9] 150)
 prg:W.heap[k1]?=some (.cells #[vm,vs] 50)
 box3:W.heap[k3]?=some (.cells #[.map (some g3)] 186)
 box4:W.heap[k4]?=some (.cells #[.map (some g4)] 186)
 set3:SetAt W g3 []
 set4:SetAt W g4 []
 ne:g3≠g4
 c1:ClD W v1 vm 123 #[]
 c2:ClS W v2 vs 126 #[]
 c3:ClD W v3 vm 128 #[]
 c4:ClD W v4 vm 130 #[.pointer (some ⟨k3,0,none⟩)]
 c5:ClS W v5 vs 132 #[.pointer (some ⟨k4,0,none⟩)]
 c7:ClS W v7 vs 134 #[.pointer (some ⟨k4,0,none⟩),.pointer (some ⟨k3,0,none⟩)]
 c8:ClS W v8 vs 135 #[]
 c9:ClS W v9 vs 137 #[.pointer (some ⟨k1,0,none⟩)]
theorem five (w:World) (vm vs:Value):∃ (W0:World) (k1 g3 g4 k3 k4:Nat),W0=(((((w.alloc (.cells #[vm,vs] 50)).alloc (.map #[] 0)).alloc (.map #[] 0)).alloc (.cells #[.map (some (w.heap.size+1))] 186)).alloc (.cells #[.map (some (w.heap.size+1+1))] 186))∧k1=w.heap.size∧g3=w.heap.size+1∧g4=w.heap.size+1+1∧k3=w.heap.size+1+1+1∧k4=w.heap.size+1+1+1+1 ∧
  Below w.heap.size w W0∧W0.heap[k1]?=some (.cells #[vm,vs] 50)∧W0.heap[k3]?=some (.cells #[.map (some g3)] 186)∧W0.heap[k4]?=some (.cells #[.map (some g4)] 186)∧SetAt W0 g3 []∧SetAt W0 g4 []∧g3≠g4∧w.heap.size≤g3∧w.heap.size≤g4:=by
 refine⟨_,_,_,_,_,_,rfl,rfl,rfl,rfl,rfl,rfl,L2.bch (L2.bch (L2.bch (L2.bch (L8.bnew w _) (L8.bnew _ _)) (L8.bnew _ _)) (L8.bnew _ _)) (L8.bnew _ _),?_,?_,?_,?_,?_,by omega,by omega,by omega⟩
 ·exact L8.row_up (L8.row_up (L8.row_up (L8.row_up (heap_alloc_last w _) (L8.bnew _ _)) (L8.bnew _ _)) (L8.bnew _ _)) (L8.bnew _ _)
 ·have:=heap_alloc_last (((w.alloc (.cells #[vm,vs] 50)).alloc (.map #[] 0)).alloc (.map #[] 0)) (.cells #[.map (some (w.heap.size+1))] 186)
  have h:=L8.row_up this (L8.bnew _ (.cells #[.map (some (w.heap.size+1+1))] 186))
  simpa using h
 ·have:=heap_alloc_last ((((w.alloc (.cells #[vm,vs] 50)).alloc (.map #[] 0)).alloc (.map #[] 0)).alloc (.cells #[.map (some (w.heap.size+1))] 186)) (.cells #[.map (some (w.heap.size+1+1))] 186)
  simpa using this
 ·have h:=made_set (w.alloc (.cells #[vm,vs] 50))
  have:=set_below (set_below (set_below h (L8.bnew _ (.map #[] 0))) (L8.bnew _ (.cells #[.map (some (w.heap.size+1))] 186))) (L8.bnew _ (.cells #[.map (some (w.heap.size+1+1))] 186))
  rwa [show (w.alloc (.cells #[vm,vs] 50)).heap.size=w.heap.size+1 by simp] at this
 ·have h:=made_set ((w.alloc (.cells #[vm,vs] 50)).alloc (.map #[] 0))
  have:=set_below (set_below h (L8.bnew _ (.cells #[.map (some (w.heap.size+1))] 186))) (L8.bnew _ (.cells #[.map (some (w.heap.size+1+1))] 186))
  rwa [show ((w.alloc (.cells #[vm,vs] 50)).alloc (.map #[] 0)).heap.size=w.heap.size+1+1 by simp] at this
theorem keepP {W0 W W':World} {k1:Nat} {a b:Value} (hb:Below W.heap.size W W') (h:Below W0.heap.size W0 W∧W0.heap[k1]?=some (.cells #[a,b] 50)):Below W0.heap.size W0 W'∧W'.cell? ⟨k1,0,none⟩=some a∧W'.cell? ⟨k1,1,none⟩=some b :=
 ⟨L2.bch h.1 hb,cells2 (L8.row_up h.2 (L2.bch h.1 hb))⟩
theorem conds_at (am at2:Option Addr) (nm cm ns cs:Nat) (w:World) :
  Calls Tryz.prog 92 #[.agg #[.slice am nm cm,.slice at2 ns cs]] w fun e w'=>∃ g k1 k3 k4 g3 g4 v1 v2 v3 v4 v5 v7 v8 v9,e=.returned (.slice (some ⟨g,0,none⟩) 9 9)∧Below w.heap.size w w'∧CnS w' (.slice am nm cm) (.slice at2 ns cs) g k1 k3 k4 g3 g4 v1 v2 v3 v4 v5 v7 v8 v9∧w.heap.size≤g3∧w.heap.size≤g4:=by
 have hmf:∀ (fn:Fn) (first cap:Array Value) (w:World),(Instr.makeFunc fn first cap).run Tryz.prog w=.ok (.func fn first cap) w:=fun _ _ _ _=>rfl
 have hmm:=@run_makeMap Tryz.prog
 go_enter Tryz.func92,Tryz.ntmps92
 go_upto_region 2 with (fail)
 clear hmm
 obtain⟨W0,k1,g3,g4,k3,k4,hW,e1,e3,e4,f3,f4,hB0,r1,r3,r4,s3,s4,hne,lo3,lo4⟩:=five w (.slice am nm cm) (.slice at2 ns cs)
 rw [← hW]
 rw [← f4,← f3,← e4,← e3,← e1]
 have HB:=Lib.hid hB0
 have HL:=Lib.hid (And.intro lo3 lo4)
 clear hW e1 e3 e4 f3 f4 hB0 lo3 lo4
 obtain⟨p0,p1⟩:=cells2 r1
 have R:=Lib.hid (And.intro r1 (And.intro r3 (And.intro r4 (And.intro s3 (And.intro s4 hne)))))
 clear r1 r3 r4 s3 s4 hne
 refine wp_region_noPanic ?_
 refine wp_region_held_drew (S:=fun W=>Below W0.heap.size W0 W∧W.cell? ⟨k1,0,none⟩=some (.slice am nm cm)∧W.cell? ⟨k1,1,none⟩=some (.slice at2 ns cs)) (by kernel_rfl) (keepP (Below.refl _ _).drew ⟨Below.refl _ _,R.out.1⟩) (fun hH=>?_)
 refine wpAnyH_take (i:=0) (oi:=⟨some 7,.fieldAddr 50 (.tmp 1) 0,_,_,_,none⟩) (v:=.pointer (some ⟨k1,0,none⟩)) rfl (by kernel_rfl) (by kernel_rfl) (by kernel_rfl) (fun _ _ _ h=>h) (Or.inl ⟨by rfl,fun wS hS=>(by have d0:=hS.2.1;have d1:=hS.2.2;go_simp)⟩) hH ?_
 simp only [Act.put,zA,zB,zC]
 refine wpAnyH_take (i:=1) (oi:=⟨some 8,.load 22 (.tmp 7),_,_,_,none⟩) (v:=.slice am nm cm) rfl (by kernel_rfl) (by kernel_rfl) (by kernel_rfl) (fun _ _ _ h=>h) (Or.inl ⟨by rfl,fun wS hS=>(by have d0:=hS.2.1;have d1:=hS.2.2;go_simp)⟩) hH ?_
 simp only [Act.put,zA,zB,zC]
 refine wpAnyH_take (i:=4) (oi:=⟨some 11,.fieldAddr 50 (.tmp 1) 1,_,_,_,none⟩) (v:=.pointer (some ⟨k1,1,none⟩)) rfl (by kernel_rfl) (by kernel_rfl) (by kernel_rfl) (fun _ _ _ h=>h) (Or.inl ⟨by rfl,fun wS hS=>(by have d0:=hS.2.1;have d1:=hS.2.2;go_simp)⟩) hH ?_
 simp only [Act.put,zA,zB,zC]
 refine wpAnyH_take (i:=5) (oi:=⟨some 12,.load 48 (.tmp 11),_,_,_,none⟩) (v:=.slice at2 ns cs) rfl (by kernel_rfl) (by kernel_rfl) (by kernel_rfl) (fun _ _ _ h=>h) (Or.inl ⟨by rfl,fun wS hS=>(by have d0:=hS.2.1;have d1:=hS.2.2;go_simp)⟩) hH ?_
 simp only [Act.put,zA,zB,zC]
 refine wpAnyH_take (i:=8) (oi:=⟨some 15,.fieldAddr 50 (.tmp 1) 0,_,_,_,none⟩) (v:=.pointer (some ⟨k1,0,none⟩)) rfl (by kernel_rfl) (by kernel_rfl) (by kernel_rfl) (fun _ _ _ h=>h) (Or.inl ⟨by rfl,fun wS hS=>(by have d0:=hS.2.1;have d1:=hS.2.2;go_simp)⟩) hH ?_
 simp only [Act.put,zA,zB,zC]
 refine wpAnyH_take (i:=9) (oi:=⟨some 16,.load 22 (.tmp 15),_,_,_,none⟩) (v:=.slice am nm cm) rfl (by kernel_rfl) (by kernel_rfl) (by kernel_rfl) (fun _ _ _ h=>h) (Or.inl ⟨by rfl,fun wS hS=>(by have d0:=hS.2.1;have d1:=hS.2.2;go_simp)⟩) hH ?_
 simp only [Act.put,zA,zB,zC]
 refine wpAnyH_take (i:=12) (oi:=⟨some 19,.fieldAddr 50 (.tmp 1) 0,_,_,_,none⟩) (v:=.pointer (some ⟨k1,0,none⟩)) rfl (by kernel_rfl) (by kernel_rfl) (by kernel_rfl) (fun _ _ _ h=>h) (Or.inl ⟨by rfl,fun wS hS=>(by have d0:=hS.2.1;have d1:=hS.2.2;go_simp)⟩) hH ?_
 simp only [Act.put,zA,zB,zC]
 refine wpAnyH_take (i:=13) (oi:=⟨some 20,.load 22 (.tmp 19),_,_,_,none⟩) (v:=.slice am nm cm) rfl (by kernel_rfl) (by kernel_rfl) (by kernel_rfl) (fun _ _ _ h=>h) (Or.inl ⟨by rfl,fun wS hS=>(by have d0:=hS.2.1;have d1:=hS.2.2;go_simp)⟩) hH ?_
 simp only [Act.put,zA,zB,zC]
 refine wpAnyH_take (i:=17) (oi:=⟨some 24,.fieldAddr 50 (.tmp 1) 1,_,_,_,none⟩) (v:=.pointer (some ⟨k1,1,none⟩)) rfl (by kernel_rfl) (by kernel_rfl) (by kernel_rfl) (fun _ _ _ h=>h) (Or.inl ⟨by rfl,fun wS hS=>(by have d0:=hS.2.1;have d1:=hS.2.2;go_simp)⟩) hH ?_
 simp only [Act.put,zA,zB,zC]
 refine wpAnyH_take (i:=18) (oi:=⟨some 25,.load 48 (.tmp 24),_,_,_,none⟩) (v:=.slice at2 ns cs) rfl (by kernel_rfl) (by kernel_rfl) (by kernel_rfl) (fun _ _ _ h=>h) (Or.inl ⟨by rfl,fun wS hS=>(by have d0:=hS.2.1;have d1:=hS.2.2;go_simp)⟩) hH ?_
 simp only [Act.put,zA,zB,zC]
 refine wpAnyH_take (i:=24) (oi:=⟨some 31,.fieldAddr 50 (.tmp 1) 1,_,_,_,none⟩) (v:=.pointer (some ⟨k1,1,none⟩)) rfl (by kernel_rfl) (by kernel_rfl) (by kernel_rfl) (fun _ _ _ h=>h) (Or.inl ⟨by rfl,fun wS hS=>(by have d0:=hS.2.1;have d1:=hS.2.2;go_simp)⟩) hH ?_
 simp only [Act.put,zA,zB,zC]
 refine wpAnyH_take (i:=25) (oi:=⟨some 32,.load 48 (.tmp 31),_,_,_,none⟩) (v:=.slice at2 ns cs) rfl (by kernel_rfl) (by kernel_rfl) (by kernel_rfl) (fun _ _ _ h=>h) (Or.inl ⟨by rfl,fun wS hS=>(by have d0:=hS.2.1;have d1:=hS.2.2;go_simp)⟩) hH ?_
 simp only [Act.put,zA,zB,zC]
 refine wpAnyH_take (i:=29) (oi:=⟨some 36,.fieldAddr 50 (.tmp 1) 1,_,_,_,none⟩) (v:=.pointer (some ⟨k1,1,none⟩)) rfl (by kernel_rfl) (by kernel_rfl) (by kernel_rfl) (fun _ _ _ h=>h) (Or.inl ⟨by rfl,fun wS hS=>(by have d0:=hS.2.1;have d1:=hS.2.2;go_simp)⟩) hH ?_
 simp only [Act.put,zA,zB,zC]
 refine wpAnyH_take (i:=30) (oi:=⟨some 37,.load 48 (.tmp 36),_,_,_,none⟩) (v:=.slice at2 ns cs) rfl (by kernel_rfl) (by kernel_rfl) (by kernel_rfl) (fun _ _ _ h=>h) (Or.inl ⟨by rfl,fun wS hS=>(by have d0:=hS.2.1;have d1:=hS.2.2;go_simp)⟩) hH ?_
 simp only [Act.put,zA,zB,zC]
 refine wpAnyH_take (i:=33) (oi:=⟨some 40,.fieldAddr 50 (.tmp 1) 1,_,_,_,none⟩) (v:=.pointer (some ⟨k1,1,none⟩)) rfl (by kernel_rfl) (by kernel_rfl) (by kernel_rfl) (fun _ _ _ h=>h) (Or.inl ⟨by rfl,fun wS hS=>(by have d0:=hS.2.1;have d1:=hS.2.2;go_simp)⟩) hH ?_
 simp only [Act.put,zA,zB,zC]
 refine wpAnyH_take (i:=34) (oi:=⟨some 41,.load 48 (.tmp 40),_,_,_,none⟩) (v:=.slice at2 ns cs) rfl (by kernel_rfl) (by kernel_rfl) (by kernel_rfl) (fun _ _ _ h=>h) (Or.inl ⟨by rfl,fun wS hS=>(by have d0:=hS.2.1;have d1:=hS.2.2;go_simp)⟩) hH ?_
 simp only [Act.put,zA,zB,zC]
 refine wpAnyH_take (i:=14) (oi:=⟨some 21,.makeFunc (Fn.func 130) #[] #[.tmp 3],_,_,_,none⟩) (v:=.func (.func 130) #[] #[.pointer (some ⟨k3,0,none⟩)]) rfl (by kernel_rfl) (by kernel_rfl) (by kernel_rfl) (fun _ _ _ h=>h) (Or.inl ⟨by rfl,fun wS hS=>(by have d0:=hS.2.1;have d1:=hS.2.2;go_simp)⟩) hH ?_
 simp only [Act.put,zA,zB,zC]
 refine wpAnyH_take (i:=19) (oi:=⟨some 26,.makeFunc (Fn.func 132) #[] #[.tmp 4],_,_,_,none⟩) (v:=.func (.func 132) #[] #[.pointer (some ⟨k4,0,none⟩)]) rfl (by kernel_rfl) (by kernel_rfl) (by kernel_rfl) (fun _ _ _ h=>h) (Or.inl ⟨by rfl,fun wS hS=>(by have d0:=hS.2.1;have d1:=hS.2.2;go_simp)⟩) hH ?_
 simp only [Act.put,zA,zB,zC]
 refine wpAnyH_take (i:=22) (oi:=⟨some 29,.makeFunc (Fn.func 133) #[] #[.tmp 1],_,_,_,none⟩) (v:=.func (.func 133) #[] #[.pointer (some ⟨k1,0,none⟩)]) rfl (by kernel_rfl) (by kernel_rfl) (by kernel_rfl) (fun _ _ _ h=>h) (Or.inl ⟨by rfl,fun wS hS=>(by have d0:=hS.2.1;have d1:=hS.2.2;go_simp)⟩) hH ?_
 simp only [Act.put,zA,zB,zC]
 refine wpAnyH_take (i:=26) (oi:=⟨some 33,.makeFunc (Fn.func 134) #[] #[.tmp 4,.tmp 3],_,_,_,none⟩) (v:=.func (.func 134) #[] #[.pointer (some ⟨k4,0,none⟩),.pointer (some ⟨k3,0,none⟩)]) rfl (by kernel_rfl) (by kernel_rfl) (by kernel_rfl) (fun _ _ _ h=>h) (Or.inl ⟨by rfl,fun wS hS=>(by have d0:=hS.2.1;have d1:=hS.2.2;go_simp)⟩) hH ?_
 simp only [Act.put,zA,zB,zC]
 refine wpAnyH_take (i:=35) (oi:=⟨some 42,.makeFunc (Fn.func 137) #[] #[.tmp 1],_,_,_,none⟩) (v:=.func (.func 137) #[] #[.pointer (some ⟨k1,0,none⟩)]) rfl (by kernel_rfl) (by kernel_rfl) (by kernel_rfl) (fun _ _ _ h=>h) (Or.inl ⟨by rfl,fun wS hS=>(by have d0:=hS.2.1;have d1:=hS.2.2;go_simp)⟩) hH ?_
 simp only [Act.put,zA,zB,zC]
 refine wpAnyH_take (i:=23) (oi:=⟨some 30,.build 150 #[(0,.const (.bool false)),(1,.tmp 29)],_,_,_,none⟩) (v:=.agg #[.bool false,.func (.func 133) #[] #[.pointer (some ⟨k1,0,none⟩)]]) rfl (by kernel_rfl) (by kernel_rfl) (by kernel_rfl) (fun _ _ _ h=>h) (Or.inl ⟨by rfl,fun wS hS=>(by have d0:=hS.2.1;have d1:=hS.2.2;go_simp)⟩) hH ?_
 simp only [Act.put,zA,zB,zC]
 refine wpAnyH_ready (rs:=[2]) (by kernel_rfl) (by simp) ?_
 refine AllReadyH.cons (o:=⟨some 9,.call { callee:=.value (.func 122),args:=#[.tmp 8,.func 123],argTypes:=#[22,189] },_,_,_,none⟩) rfl (fun K hK=>?_) AllReadyH.nil
 go_simp
 refine (eachD_mk am nm cm 123 #[] _).mono ?_
 rintro e w9 ⟨b1,f1,rfl,hb9,q1,q2⟩
 refine hK.out _ _ (keepP hb9 ⟨hH.1,R.out.1⟩) (fun hH2=>?_)
 clear hK K
 have A2:=acc_add (acc_nil _) hb9 q1 q2
 clear q1 q2 hb9 hH
 have hH:=hH2
 have A:=A2
 clear hH2 A2
 (try simp only [Act.put,zA,zB,zC])
 refine wpAnyH_take (i:=3) (oi:=⟨some 10,.build 150 #[(0,.const (.bool true)),(1,.tmp 9)],_,_,_,none⟩) (v:=.agg #[.bool true,.func (.func 152) #[] #[.pointer (some ⟨b1,0,none⟩),.pointer (some ⟨f1,0,none⟩)]]) rfl (by kernel_rfl) (by kernel_rfl) (by kernel_rfl) (fun _ _ _ h=>h) (Or.inl ⟨by rfl,fun wS hS=>(by have d0:=hS.2.1;have d1:=hS.2.2;go_simp)⟩) hH ?_
 simp only [Act.put,zA,zB,zC]
 refine wpAnyH_ready (rs:=[6]) (by kernel_rfl) (by simp) ?_
 refine AllReadyH.cons (o:=⟨some 13,.call { callee:=.value (.func 125),args:=#[.tmp 12,.func 126],argTypes:=#[48,192] },_,_,_,none⟩) rfl (fun K hK=>?_) AllReadyH.nil
 go_simp
 refine (eachS_mk at2 ns cs 126 #[] _).mono ?_
 rintro e w9 ⟨b2,f2,rfl,hb9,q1,q2⟩
 refine hK.out _ _ (keepP hb9 ⟨hH.1,R.out.1⟩) (fun hH2=>?_)
 clear hK K
 have A2:=acc_add (A) hb9 q1 q2
 clear q1 q2 hb9 hH A
 have hH:=hH2
 have A:=A2
 clear hH2 A2
 (try simp only [Act.put,zA,zB,zC])
 refine wpAnyH_take (i:=7) (oi:=⟨some 14,.build 150 #[(0,.const (.bool false)),(1,.tmp 13)],_,_,_,none⟩) (v:=.agg #[.bool false,.func (.func 155) #[] #[.pointer (some ⟨b2,0,none⟩),.pointer (some ⟨f2,0,none⟩)]]) rfl (by kernel_rfl) (by kernel_rfl) (by kernel_rfl) (fun _ _ _ h=>h) (Or.inl ⟨by rfl,fun wS hS=>(by have d0:=hS.2.1;have d1:=hS.2.2;go_simp)⟩) hH ?_
 simp only [Act.put,zA,zB,zC]
 refine wpAnyH_ready (rs:=[10]) (by kernel_rfl) (by simp) ?_
 refine AllReadyH.cons (o:=⟨some 17,.call { callee:=.value (.func 122),args:=#[.tmp 16,.func 128],argTypes:=#[22,189] },_,_,_,none⟩) rfl (fun K hK=>?_) AllReadyH.nil
 go_simp
 refine (eachD_mk am nm cm 128 #[] _).mono ?_
 rintro e w9 ⟨b3,f3,rfl,hb9,q1,q2⟩
 refine hK.out _ _ (keepP hb9 ⟨hH.1,R.out.1⟩) (fun hH2=>?_)
 clear hK K
 have A2:=acc_add (A) hb9 q1 q2
 clear q1 q2 hb9 hH A
 have hH:=hH2
 have A:=A2
 clear hH2 A2
 (try simp only [Act.put,zA,zB,zC])
 refine wpAnyH_take (i:=11) (oi:=⟨some 18,.build 150 #[(0,.const (.bool true)),(1,.tmp 17)],_,_,_,none⟩) (v:=.agg #[.bool true,.func (.func 152) #[] #[.pointer (some ⟨b3,0,none⟩),.pointer (some ⟨f3,0,none⟩)]]) rfl (by kernel_rfl) (by kernel_rfl) (by kernel_rfl) (fun _ _ _ h=>h) (Or.inl ⟨by rfl,fun wS hS=>(by have d0:=hS.2.1;have d1:=hS.2.2;go_simp)⟩) hH ?_
 simp only [Act.put,zA,zB,zC]
 refine wpAnyH_ready (rs:=[15]) (by kernel_rfl) (by simp) ?_
 refine AllReadyH.cons (o:=⟨some 22,.call { callee:=.value (.func 122),args:=#[.tmp 20,.tmp 21],argTypes:=#[22,189] },_,_,_,none⟩) rfl (fun K hK=>?_) AllReadyH.nil
 go_simp
 refine (eachD_mk am nm cm 130 #[.pointer (some ⟨k3,0,none⟩)] _).mono ?_
 rintro e w9 ⟨b4,f4,rfl,hb9,q1,q2⟩
 refine hK.out _ _ (keepP hb9 ⟨hH.1,R.out.1⟩) (fun hH2=>?_)
 clear hK K
 have A2:=acc_add (A) hb9 q1 q2
 clear q1 q2 hb9 hH A
 have hH:=hH2
 have A:=A2
 clear hH2 A2
 (try simp only [Act.put,zA,zB,zC])
 refine wpAnyH_take (i:=16) (oi:=⟨some 23,.build 150 #[(0,.const (.bool true)),(1,.tmp 22)],_,_,_,none⟩) (v:=.agg #[.bool true,.func (.func 152) #[] #[.pointer (some ⟨b4,0,none⟩),.pointer (some ⟨f4,0,none⟩)]]) rfl (by kernel_rfl) (by kernel_rfl) (by kernel_rfl) (fun _ _ _ h=>h) (Or.inl ⟨by rfl,fun wS hS=>(by have d0:=hS.2.1;have d1:=hS.2.2;go_simp)⟩) hH ?_
 simp only [Act.put,zA,zB,zC]
 refine wpAnyH_ready (rs:=[20]) (by kernel_rfl) (by simp) ?_
 refine AllReadyH.cons (o:=⟨some 27,.call { callee:=.value (.func 125),args:=#[.tmp 25,.tmp 26],argTypes:=#[48,192] },_,_,_,none⟩) rfl (fun K hK=>?_) AllReadyH.nil
 go_simp
 refine (eachS_mk at2 ns cs 132 #[.pointer (some ⟨k4,0,none⟩)] _).mono ?_
 rintro e w9 ⟨b5,f5,rfl,hb9,q1,q2⟩
 refine hK.out _ _ (keepP hb9 ⟨hH.1,R.out.1⟩) (fun hH2=>?_)
 clear hK K
 have A2:=acc_add (A) hb9 q1 q2
 clear q1 q2 hb9 hH A
 have hH:=hH2
 have A:=A2
 clear hH2 A2
 (try simp only [Act.put,zA,zB,zC])
 refine wpAnyH_take (i:=21) (oi:=⟨some 28,.build 150 #[(0,.const (.bool false)),(1,.tmp 27)],_,_,_,none⟩) (v:=.agg #[.bool false,.func (.func 155) #[] #[.pointer (some ⟨b5,0,none⟩),.pointer (some ⟨f5,0,none⟩)]]) rfl (by kernel_rfl) (by kernel_rfl) (by kernel_rfl) (fun _ _ _ h=>h) (Or.inl ⟨by rfl,fun wS hS=>(by have d0:=hS.2.1;have d1:=hS.2.2;go_simp)⟩) hH ?_
 simp only [Act.put,zA,zB,zC]
 refine wpAnyH_ready (rs:=[27]) (by kernel_rfl) (by simp) ?_
 refine AllReadyH.cons (o:=⟨some 34,.call { callee:=.value (.func 125),args:=#[.tmp 32,.tmp 33],argTypes:=#[48,192] },_,_,_,none⟩) rfl (fun K hK=>?_) AllReadyH.nil
 go_simp
 refine (eachS_mk at2 ns cs 134 #[.pointer (some ⟨k4,0,none⟩),.pointer (some ⟨k3,0,none⟩)] _).mono ?_
 rintro e w9 ⟨b7,f7,rfl,hb9,q1,q2⟩
 refine hK.out _ _ (keepP hb9 ⟨hH.1,R.out.1⟩) (fun hH2=>?_)
 clear hK K
 have A2:=acc_add (A) hb9 q1 q2
 clear q1 q2 hb9 hH A
 have hH:=hH2
 have A:=A2
 clear hH2 A2
 (try simp only [Act.put,zA,zB,zC])
 refine wpAnyH_take (i:=28) (oi:=⟨some 35,.build 150 #[(0,.const (.bool false)),(1,.tmp 34)],_,_,_,none⟩) (v:=.agg #[.bool false,.func (.func 155) #[] #[.pointer (some ⟨b7,0,none⟩),.pointer (some ⟨f7,0,none⟩)]]) rfl (by kernel_rfl) (by kernel_rfl) (by kernel_rfl) (fun _ _ _ h=>h) (Or.inl ⟨by rfl,fun wS hS=>(by have d0:=hS.2.1;have d1:=hS.2.2;go_simp)⟩) hH ?_
 simp only [Act.put,zA,zB,zC]
 refine wpAnyH_ready (rs:=[31]) (by kernel_rfl) (by simp) ?_
 refine AllReadyH.cons (o:=⟨some 38,.call { callee:=.value (.func 125),args:=#[.tmp 37,.func 135],argTypes:=#[48,192] },_,_,_,none⟩) rfl (fun K hK=>?_) AllReadyH.nil
 go_simp
 refine (eachS_mk at2 ns cs 135 #[] _).mono ?_
 rintro e w9 ⟨b8,f8,rfl,hb9,q1,q2⟩
 refine hK.out _ _ (keepP hb9 ⟨hH.1,R.out.1⟩) (fun hH2=>?_)
 clear hK K
 have A2:=acc_add (A) hb9 q1 q2
 clear q1 q2 hb9 hH A
 have hH:=hH2
 have A:=A2
 clear hH2 A2
 (try simp only [Act.put,zA,zB,zC])
 refine wpAnyH_take (i:=32) (oi:=⟨some 39,.build 150 #[(0,.const (.bool false)),(1,.tmp 38)],_,_,_,none⟩) (v:=.agg #[.bool false,.func (.func 155) #[] #[.pointer (some ⟨b8,0,none⟩),.pointer (some ⟨f8,0,none⟩)]]) rfl (by kernel_rfl) (by kernel_rfl) (by kernel_rfl) (fun _ _ _ h=>h) (Or.inl ⟨by rfl,fun wS hS=>(by have d0:=hS.2.1;have d1:=hS.2.2;go_simp)⟩) hH ?_
 simp only [Act.put,zA,zB,zC]
 refine wpAnyH_ready (rs:=[36]) (by kernel_rfl) (by simp) ?_
 refine AllReadyH.cons (o:=⟨some 43,.call { callee:=.value (.func 125),args:=#[.tmp 41,.tmp 42],argTypes:=#[48,192] },_,_,_,none⟩) rfl (fun K hK=>?_) AllReadyH.nil
 go_simp
 refine (eachS_mk at2 ns cs 137 #[.pointer (some ⟨k1,0,none⟩)] _).mono ?_
 rintro e w9 ⟨b9,f9,rfl,hb9,q1,q2⟩
 refine hK.out _ _ (keepP hb9 ⟨hH.1,R.out.1⟩) (fun hH2=>?_)
 clear hK K
 have A2:=acc_add (A) hb9 q1 q2
 clear q1 q2 hb9 hH A
 have hH:=hH2
 have A:=A2
 clear hH2 A2
 (try simp only [Act.put,zA,zB,zC])
 refine wpAnyH_take (i:=37) (oi:=⟨some 44,.build 150 #[(0,.const (.bool false)),(1,.tmp 43)],_,_,_,none⟩) (v:=.agg #[.bool false,.func (.func 155) #[] #[.pointer (some ⟨b9,0,none⟩),.pointer (some ⟨f9,0,none⟩)]]) rfl (by kernel_rfl) (by kernel_rfl) (by kernel_rfl) (fun _ _ _ h=>h) (Or.inl ⟨by rfl,fun wS hS=>(by have d0:=hS.2.1;have d1:=hS.2.2;go_simp)⟩) hH ?_
 simp only [Act.put,zA,zB,zC]
 refine wpAnyH_ready (rs:=[38]) (by kernel_rfl) (by simp) ?_
 refine AllReadyH.cons (o:=⟨some 45,.buildSlice 147 9 #[(0,.tmp 10),(1,.tmp 14),(2,.tmp 18),(3,.tmp 23),(4,.tmp 28),(5,.tmp 30),(6,.tmp 35),(7,.tmp 39),(8,.tmp 44)],_,_,_,none⟩) rfl (fun K hK=>?_) AllReadyH.nil
 go_simp
 refine hK.out _ _ (keepP (L8.bnew w9 _) ⟨hH.1,R.out.1⟩) (fun hH2=>?_)
 clear hK K
 have hL:=heap_alloc_last w9 (.cells #[.bool true,.func (.func 152) #[] #[.pointer (some ⟨b1,0,none⟩),.pointer (some ⟨f1,0,none⟩)],.bool false,.func (.func 155) #[] #[.pointer (some ⟨b2,0,none⟩),.pointer (some ⟨f2,0,none⟩)],.bool true,.func (.func 152) #[] #[.pointer (some ⟨b3,0,none⟩),.pointer (some ⟨f3,0,none⟩)],.bool true,.func (.func 152) #[] #[.pointer (some ⟨b4,0,none⟩),.pointer (some ⟨f4,0,none⟩)],.bool false,.func (.func 155) #[] #[.pointer (some ⟨b5,0,none⟩),.pointer (some ⟨f5,0,none⟩)],.bool false,.func (.func 133) #[] #[.pointer (some ⟨k1,0,none⟩)],.bool false,.func (.func 155) #[] #[.pointer (some ⟨b7,0,none⟩),.pointer (some ⟨f7,0,none⟩)],.bool false,.func (.func 155) #[] #[.pointer (some ⟨b8,0,none⟩),.pointer (some ⟨f8,0,none⟩)],.bool false,.func (.func 155) #[] #[.pointer (some ⟨b9,0,none⟩),.pointer (some ⟨f9,0,none⟩)]] 150)
 have A2:=A.below (L8.bnew w9 (.cells #[.bool true,.func (.func 152) #[] #[.pointer (some ⟨b1,0,none⟩),.pointer (some ⟨f1,0,none⟩)],.bool false,.func (.func 155) #[] #[.pointer (some ⟨b2,0,none⟩),.pointer (some ⟨f2,0,none⟩)],.bool true,.func (.func 152) #[] #[.pointer (some ⟨b3,0,none⟩),.pointer (some ⟨f3,0,none⟩)],.bool true,.func (.func 152) #[] #[.pointer (some ⟨b4,0,none⟩),.pointer (some ⟨f4,0,none⟩)],.bool false,.func (.func 155) #[] #[.pointer (some ⟨b5,0,none⟩),.pointer (some ⟨f5,0,none⟩)],.bool false,.func (.func 133) #[] #[.pointer (some ⟨k1,0,none⟩)],.bool false,.func (.func 155) #[] #[.pointer (some ⟨b7,0,none⟩),.pointer (some ⟨f7,0,none⟩)],.bool false,.func (.func 155) #[] #[.pointer (some ⟨b8,0,none⟩),.pointer (some ⟨f8,0,none⟩)],.bool false,.func (.func 155) #[] #[.pointer (some ⟨b9,0,none⟩),.pointer (some ⟨f9,0,none⟩)]] 150))
 clear hH A
 have hH:=hH2
 clear hH2
 (try simp only [Act.put,zA,zB,zC])
 refine wpAnyH_take (i:=39) (oi:=⟨some 2,.assign (.tmp 45),_,_,_,none⟩) (v:=.slice (some ⟨w9.heap.size,0,none⟩) 9 9) rfl (by kernel_rfl) (by kernel_rfl) (by kernel_rfl) (fun _ _ _ h=>h) (Or.inl ⟨by rfl,fun wS hS=>(by have d0:=hS.2.1;have d1:=hS.2.2;go_simp)⟩) hH ?_
 simp only [Act.put,zA,zB,zC]
 refine wpAnyH_done (by kernel_rfl) ?_ _
 refine NoPanic.normal ?_
 go_wp2
 go_ret
 have hB:=hH.1
 exact⟨_,k1,k3,k4,g3,g4,_,_,_,_,_,_,_,_,rfl,L2.bch HB.out hB,⟨hL,L8.row_up R.out.1 hB,L8.row_up R.out.2.1 hB,L8.row_up R.out.2.2.1 hB,set_below R.out.2.2.2.1 hB,set_below R.out.2.2.2.2.1 hB,R.out.2.2.2.2.2,⟨b1,f1,rfl,acc_at A2 0 rfl,acc_at A2 1 rfl⟩,⟨b2,f2,rfl,acc_at A2 2 rfl,acc_at A2 3 rfl⟩,⟨b3,f3,rfl,acc_at A2 4 rfl,acc_at A2 5 rfl⟩,⟨b4,f4,rfl,acc_at A2 6 rfl,acc_at A2 7 rfl⟩,⟨b5,f5,rfl,acc_at A2 8 rfl,acc_at A2 9 rfl⟩,⟨b7,f7,rfl,acc_at A2 10 rfl,acc_at A2 11 rfl⟩,⟨b8,f8,rfl,acc_at A2 12 rfl,acc_at A2 13 rfl⟩,⟨b9,f9,rfl,acc_at A2 14 rfl,acc_at A2 15 rfl⟩⟩,HL.out⟩
end Go.Proofs.YtohkgdfkklfgmaaGreatDoor.L10
end
section
namespace Go.Proofs.YtohkgdfkklfgmaaGreatDoor.L10
open Go.RowKit Go.Maps
attribute [local go_sem] Oper.semAt_some
structure KC (W1 W:World):Prop where
 size:W1.heap.size≤W.heap.size
 row:∀ (k:Nat) (cs:Array Value) (t:TypeId) (fr:Nat × Nat),W1.heap[k]?=some (.cells cs t fr)→W.heap[k]?=some (.cells cs t fr)
theorem KC.refl (W:World):KC W W:=⟨Nat.le_refl _,fun _ _ _ _ h=>h⟩
theorem KC.cell {W1 W:World} (h:KC W1 W) {p:Addr} {v:Value} (hc:W1.cell? p=some v):W.cell? p=some v:=by
 unfold World.cell? at hc ⊢
 split at hc
 ·rename_i c e f hh
  rw [h.row _ _ _ _ hh]
  exact hc
 ·cases hc
theorem KC.gr {W1 W W':World} {o:Option Nat} (h:KC W1 W) (hg:W.grownBy W' o) (hn:NoC W o):KC W1 W':=⟨Nat.le_trans h.size hg.size,fun k cs t fr hk=>gr_row hg hn (h.row k cs t fr hk)⟩
theorem KC.st {W1 W:World} (h:KC W1 W) {v:Value} {l:List ByteArray} (hv:L8.StAt W1 v l):L8.StAt W v l:=by
 rcases hv with ⟨b,o,cap,rfl,hlt,hc⟩|hv
 ·exact .inl ⟨b,o,cap,rfl,Nat.lt_of_lt_of_le hlt h.size,fun j hj=>h.cell (hc j hj)⟩
 ·exact .inr hv
theorem KC.df {W1 W:World} (h:KC W1 W) {v:Value} {l:List L9.Df} (hv:DfAt W1 v l):DfAt W v l:=by
 rcases hv with ⟨b,o,cap,rfl,hlt,hc⟩|hv
 ·exact .inl ⟨b,o,cap,rfl,Nat.lt_of_lt_of_le hlt h.size,fun j hj i u hu=>h.cell (hc j hj i u hu)⟩
 ·exact .inr hv
theorem KC.sm {W1 W:World} (h:KC W1 W) {v:Value} {l:List Stm} (hv:SmAt W1 v l):SmAt W v l:=by
 rcases hv with ⟨b,o,cap,rfl,hlt,hc⟩|hv
 ·refine .inl ⟨b,o,cap,rfl,Nat.lt_of_lt_of_le hlt h.size,fun j hj=>?_⟩
  obtain⟨lv,h1,h2⟩:=hc j hj
  exact⟨lv,h.st h1,fun i u hu=>h.cell (h2 i u hu)⟩
 ·exact .inr hv
theorem KC.one {W1 W:World} (h:KC W1 W) {k:Nat} {v:Value} {t:TypeId} (hk:W1.heap[k]?=some (.cells #[v] t)):W.cell? ⟨k,0,none⟩=some v:=by
 simp [World.cell?,h.row _ _ _ _ hk]
structure Inv (w W1:World) (g3 g4:Nat) (ms ls:List ByteArray) (W:World):Prop where
 bel:Below w.heap.size w W
 kc:KC W1 W
 tab:L1.Wid W∧L2.Regs W
 s3:SetAt W g3 ms
 s4:SetAt W g4 ls
theorem noC_none (w:World):NoC w none:=fun g h=>by cases h
theorem noC_set {w:World} {g:Nat} {ks:List ByteArray} (h:SetAt w g ks):NoC w (some g):=fun x hx cs t fr e=>by cases hx;exact map_cells h cs t fr e
section
variable {w W1:World} {g3 g4:Nat} {ms ls:List ByteArray} {W W':World}
theorem Inv.below (h:Inv w W1 g3 g4 ms ls W) (hb:Below W.heap.size W W'):Inv w W1 g3 g4 ms ls W' :=
 ⟨L2.bch h.bel hb,h.kc.gr (gr_of hb none) (noC_none _),⟨L4.wid_below h.tab.1 hb,h.tab.2.below hb⟩,set_below h.s3 hb,set_below h.s4 hb⟩
theorem bel_gr (h:Below w.heap.size w W) (hg:W.grownBy W' (some g3)) (lo:w.heap.size≤g3):Below w.heap.size w W':=h.grown hg h.size (fun j hj=>by cases hj;exact lo)
theorem tab_gr (h:L1.Wid W∧L2.Regs W) (hg:W.grownBy W' (some g3)) (hn:NoC W (some g3)):L1.Wid W'∧L2.Regs W':=by
 obtain⟨⟨t,fr,h1⟩,⟨t',fr',h2⟩⟩:=h
 exact⟨⟨t,fr,gr_row hg hn h1⟩,⟨t',fr',gr_row hg hn h2⟩⟩
theorem Inv.gr3 (h:Inv w W1 g3 g4 ms ls W) (hg:W.grownBy W' (some g3)) (lo:w.heap.size≤g3) (hne:g3≠g4) {ms':List ByteArray} (hs:SetAt W' g3 ms'):Inv w W1 g3 g4 ms' ls W' :=
 ⟨bel_gr h.bel hg lo,h.kc.gr hg (noC_set h.s3),tab_gr h.tab hg (noC_set h.s3),hs,set_of h.s4 (hg.block _ (set_lt h.s4) (by simpa using Ne.symm hne))⟩
theorem Inv.gr4 (h:Inv w W1 g3 g4 ms ls W) (hg:W.grownBy W' (some g4)) (lo:w.heap.size≤g4) (hne:g3≠g4) {ls':List ByteArray} (hs:SetAt W' g4 ls'):Inv w W1 g3 g4 ms ls' W' :=
 ⟨bel_gr h.bel hg lo,h.kc.gr hg (noC_set h.s4),tab_gr h.tab hg (noC_set h.s4),set_of h.s3 (hg.block _ (set_lt h.s3) (by simpa using hne)),hs⟩
end
def FnP (w W1:World) (g3 g4:Nat) (ms ls:List ByteArray) (r:Nat × Int) (W:World) (e:Ending) (W':World):Prop :=
 e=.returned (.tuple #[.int .i64 (r.1:Int),.int .i64 r.2])∧Below w.heap.size w W'∧KC W W'∧(r.2=0→Inv w W1 g3 g4 ms ls W')
theorem getD_map {α:Type} (l:List α) (f:α→Int) (j:Nat) (h:j<l.length):(l.map f).getD j 0=f l[j]:=by simp [List.getD,List.getElem?_map,List.getElem?_eq_getElem h]
theorem szE_get (n j:Nat) (h:j<n):(szE n).getD j 0=if j<255 then 0 else 16:=by simp [szE,List.getD,h]
theorem take_snocm (l:List L9.Df) (j:Nat) (h:j<l.length):(l.take (j+1)).map (fun d:L9.Df=>d.nm)=(l.take j).map (fun d:L9.Df=>d.nm)++[l[j].nm]:=by
 rw [List.take_add_one,List.getElem?_eq_getElem h,List.map_append];rfl
theorem take_snocl (l:List Stm) (j:Nat) (h:j<l.length):(l.take (j+1)).flatMap (fun s:Stm=>s.labs)=(l.take j).flatMap (fun s:Stm=>s.labs)++l[j].labs:=by
 rw [List.take_add_one,List.getElem?_eq_getElem h,List.flatMap_append];simp
theorem flat_one (l:List L9.Df):(l.map fun d=>[d.nm]).flatten=l.map (fun d:L9.Df=>d.nm):=by
 induction l with
 | nil=>rfl
 | cons a r ih=>simp [ih]
theorem dp1_get (l:List L9.Df) (j:Nat) (h:j<l.length):(dpE [] (l.map fun d=>[d.nm])).getD j 0=if addB ((l.take j).map (fun d:L9.Df=>d.nm)) [l[j].nm] then 0 else 10:=by
 rw [List.getD,dpE_get _ _ j (by simpa using h),← List.map_take,flat_one]
 simp
theorem dp2_get (l:List Stm) (j:Nat) (h:j<l.length):(dpE [] (l.map (fun s:Stm=>s.labs))).getD j 0=if addB ((l.take j).flatMap (fun s:Stm=>s.labs)) l[j].labs then 0 else 10:=by
 rw [List.getD,dpE_get _ _ j (by simpa using h),← List.map_take,← List.flatMap_def]
 simp
theorem len_flat (l:List Stm) (j:Nat) (h:j<l.length):((l.take j).flatMap (fun s:Stm=>s.labs)).length+l[j].labs.length≤(l.flatMap (fun s:Stm=>s.labs)).length:=by
 have e:l=l.take (j+1)++l.drop (j+1):=(List.take_append_drop _ _).symm
 have h2:(l.flatMap (fun s:Stm=>s.labs)).length=((l.take (j+1)).flatMap (fun s:Stm=>s.labs)).length+((l.drop (j+1)).flatMap (fun s:Stm=>s.labs)).length:=by
  conv=>lhs;rw [e]
  rw [List.flatMap_append,List.length_append]
 rw [h2,take_snocl l j h,List.length_append]
 omega
theorem Fits.lab_sum {p:Pg} (hf:Fits p) (j:Nat) (h:j<p.stmts.length):((p.stmts.take j).flatMap (fun s:Stm=>s.labs)).length+p.stmts[j].labs.length≤100000:=Nat.le_trans (len_flat p.stmts j h) hf.labs
theorem Fits.lab_le {p:Pg} (hf:Fits p) (j:Nat) (h:j<p.stmts.length):p.stmts[j].labs.length≤100000:=by have:=hf.lab_sum j h;omega
section
variable {w W1:World} {vm vs:Value} {g k1 k3 k4 g3 g4:Nat} {v1 v2 v3 v4 v5 v7 v8 v9:Value} {p:Pg}
theorem find1 (hp:PgAt W1 vm vs p) (hf:Fits p) (kb kf:Nat) (hb:W1.heap[kb]?=some (.cells #[vm] 22)) (hk:W1.heap[kf]?=some (.cells #[.func (.func 123) #[] #[]] 189)) (W:World) (hI:Inv w W1 g3 g4 [] [] W) :
  Calls Tryz.prog 152 #[.pointer (some ⟨kb,0,none⟩),.pointer (some ⟨kf,0,none⟩)] W fun e W'=>FnP w W1 g3 g4 [] [] (fe (p.maps.map deE)) W e W' :=
 (each1 none kb kf vm p.maps (p.maps.map deE) (fun _ W=>Inv w W1 g3 g4 [] [] W) W (hI.kc.df hp.1) hf.maps (by simp) (hI.kc.one hb) (hI.kc.one hk) (noC_none _) hI (fun _ _ _ h hb=>h.below hb)
  (fun j h W hI=>(c1_at (j:Int) p.maps[j] _ W hI.tab.2 rfl).mono fun e W' ⟨he,hb⟩=>by
   rw [getD_map _ _ _ h]
   exact⟨he,gr_of hb _,fun _=>hI.below hb⟩)).mono fun e W' ⟨he,hg,hq⟩=>⟨he,L2.bch hI.bel (gr_to hg),(KC.refl W).gr hg (noC_none _),fun h0=>hq h0⟩
theorem find2 (hp:PgAt W1 vm vs p) (hf:Fits p) (kb kf:Nat) (hb:W1.heap[kb]?=some (.cells #[vs] 48)) (hk:W1.heap[kf]?=some (.cells #[.func (.func 126) #[] #[]] 192)) (W:World) (hI:Inv w W1 g3 g4 [] [] W) :
  Calls Tryz.prog 155 #[.pointer (some ⟨kb,0,none⟩),.pointer (some ⟨kf,0,none⟩)] W fun e W'=>FnP w W1 g3 g4 [] [] (fe (p.stmts.map stE)) W e W' :=
 (each2 none kb kf vs p.stmts (p.stmts.map stE) (fun _ W=>Inv w W1 g3 g4 [] [] W) W (hI.kc.sm hp.2) hf.stmts (by simp) (hI.kc.one hb) (hI.kc.one hk) (noC_none _) hI (fun _ _ _ h hb=>h.below hb)
  (fun j h lv W hl hI=>(c2_at (j:Int) lv p.stmts[j] _ W hI.tab hl (hf.lab_le j h) rfl).mono fun e W' ⟨he,hb⟩=>by
   rw [getD_map _ _ _ h]
   exact⟨he,gr_of hb _,fun _=>hI.below hb⟩)).mono fun e W' ⟨he,hg,hq⟩=>⟨he,L2.bch hI.bel (gr_to hg),(KC.refl W).gr hg (noC_none _),fun h0=>hq h0⟩
theorem find3 (hp:PgAt W1 vm vs p) (hf:Fits p) (kb kf:Nat) (hb:W1.heap[kb]?=some (.cells #[vm] 22)) (hk:W1.heap[kf]?=some (.cells #[.func (.func 128) #[] #[]] 189)) (W:World) (hI:Inv w W1 g3 g4 [] [] W) :
  Calls Tryz.prog 152 #[.pointer (some ⟨kb,0,none⟩),.pointer (some ⟨kf,0,none⟩)] W fun e W'=>FnP w W1 g3 g4 [] [] (fe (szE p.maps.length)) W e W' :=
 (each3 none kb kf vm p.maps (szE p.maps.length) (fun _ W=>Inv w W1 g3 g4 [] [] W) W (hI.kc.df hp.1) hf.maps (by simp [szE]) (hI.kc.one hb) (hI.kc.one hk) (noC_none _) hI (fun _ _ _ h hb=>h.below hb)
  (fun j h W hI=>(c3_at j p.maps[j].key p.maps[j].val p.maps[j].ent p.maps[j].nm _ W rfl).mono fun e W' ⟨he,hb⟩=>by
   rw [szE_get _ _ h]
   exact⟨he,gr_of hb _,fun _=>hI.below hb⟩)).mono fun e W' ⟨he,hg,hq⟩=>⟨he,L2.bch hI.bel (gr_to hg),(KC.refl W).gr hg (noC_none _),fun h0=>hq h0⟩
theorem find4 (hC:CnS W1 vm vs g k1 k3 k4 g3 g4 v1 v2 v3 v4 v5 v7 v8 v9) (hp:PgAt W1 vm vs p) (hf:Fits p) (lo3:w.heap.size≤g3) (hne:g3≠g4) (kb kf:Nat) (hb:W1.heap[kb]?=some (.cells #[vm] 22)) (hk:W1.heap[kf]?=some (.cells #[.func (.func 130) #[] #[.pointer (some ⟨k3,0,none⟩)]] 189)) (W:World) (hI:Inv w W1 g3 g4 [] [] W) :
  Calls Tryz.prog 152 #[.pointer (some ⟨kb,0,none⟩),.pointer (some ⟨kf,0,none⟩)] W fun e W'=>FnP w W1 g3 g4 (mpL p) [] (fe (dpE [] (p.maps.map fun d=>[d.nm]))) W e W' :=
 (each4 (some g3) kb kf k3 vm p.maps (dpE [] (p.maps.map fun d=>[d.nm])) (fun j W=>Inv w W1 g3 g4 ((p.maps.take j).map (fun d:L9.Df=>d.nm)) [] W) W (hI.kc.df hp.1) hf.maps (by rw [dpE_len,List.length_map]) (hI.kc.one hb) (hI.kc.one hk) (noC_set hI.s3) (by simpa using hI) (fun _ _ _ h hb=>h.below hb)
  (fun j h W hI=>(c4_at (j:Int) p.maps[j].key p.maps[j].val p.maps[j].ent p.maps[j].nm k3 g3 ((p.maps.take j).map (fun d:L9.Df=>d.nm)) _ W (hI.kc.one hC.box3) hI.s3 (hf.nm _ (List.getElem_mem h)) (by have:=hf.maps;rw [List.length_map,List.length_take];omega) rfl).mono fun e W' ⟨he,hg,hs⟩=>by
   rw [dp1_get p.maps j h]
   exact⟨he,hg,fun h0=>hI.gr3 hg lo3 hne (by rw [take_snocm p.maps j h];exact hs h0)⟩)).mono fun e W' ⟨he,hg,hq⟩=>⟨he,bel_gr hI.bel hg lo3,(KC.refl W).gr hg (noC_set hI.s3),fun h0=>by have h2:=hq h0;dsimp only at h2;rwa [List.take_length] at h2⟩
theorem find5 (hC:CnS W1 vm vs g k1 k3 k4 g3 g4 v1 v2 v3 v4 v5 v7 v8 v9) (hp:PgAt W1 vm vs p) (hf:Fits p) (lo4:w.heap.size≤g4) (hne:g3≠g4) (kb kf:Nat) (hb:W1.heap[kb]?=some (.cells #[vs] 48)) (hk:W1.heap[kf]?=some (.cells #[.func (.func 132) #[] #[.pointer (some ⟨k4,0,none⟩)]] 192)) (W:World) (hI:Inv w W1 g3 g4 (mpL p) [] W) :
  Calls Tryz.prog 155 #[.pointer (some ⟨kb,0,none⟩),.pointer (some ⟨kf,0,none⟩)] W fun e W'=>FnP w W1 g3 g4 (mpL p) (alL p) (fe (dpE [] (p.stmts.map (fun s:Stm=>s.labs)))) W e W' :=
 (each5 (some g4) kb kf k4 vs p.stmts (dpE [] (p.stmts.map (fun s:Stm=>s.labs))) (fun j W=>Inv w W1 g3 g4 (mpL p) ((p.stmts.take j).flatMap (fun s:Stm=>s.labs)) W) W (hI.kc.sm hp.2) hf.stmts (by rw [dpE_len,List.length_map]) (hI.kc.one hb) (hI.kc.one hk) (noC_set hI.s4) (by simpa using hI) (fun _ _ _ h hb=>h.below hb)
  (fun j h lv W hl hI=>(c5_at (j:Int) lv p.stmts[j] k4 g4 ((p.stmts.take j).flatMap (fun s:Stm=>s.labs)) _ W (hI.kc.one hC.box4) hI.s4 (hf.lb _ (List.getElem_mem h)) (hf.lab_sum j h) hl rfl).mono fun e W' ⟨he,hg,hs⟩=>by
   rw [dp2_get p.stmts j h]
   exact⟨he,hg,fun h0=>hI.gr4 hg lo4 hne (by rw [take_snocl p.stmts j h];exact hs h0)⟩)).mono fun e W' ⟨he,hg,hq⟩=>⟨he,bel_gr hI.bel hg lo4,(KC.refl W).gr hg (noC_set hI.s4),fun h0=>by have h2:=hq h0;dsimp only at h2;rwa [List.take_length] at h2⟩
theorem find6 (hC:CnS W1 vm vs g k1 k3 k4 g3 g4 v1 v2 v3 v4 v5 v7 v8 v9) (hp:PgAt W1 vm vs p) (W:World) (hI:Inv w W1 g3 g4 (mpL p) (alL p) W) :
  Calls Tryz.prog 133 #[.pointer (some ⟨k1,0,none⟩)] W fun e W'=>FnP w W1 g3 g4 (mpL p) (alL p) (0,if 0<p.stmts.length then 0 else 15) W e W':=by
 obtain⟨a,cap,rfl,-⟩:=sm_form rfl hp.2
 have hc:=(cells2 (hI.kc.row _ _ _ _ hC.prg)).2
 exact (c6_at k1 _ cap a _ W hc rfl).mono fun e W' ⟨he,hw⟩=>by
  subst hw
  exact⟨he,hI.bel,KC.refl W,fun _=>hI⟩
theorem find7 (hC:CnS W1 vm vs g k1 k3 k4 g3 g4 v1 v2 v3 v4 v5 v7 v8 v9) (hp:PgAt W1 vm vs p) (hf:Fits p) (kb kf:Nat) (hb:W1.heap[kb]?=some (.cells #[vs] 48)) (hk:W1.heap[kf]?=some (.cells #[.func (.func 134) #[] #[.pointer (some ⟨k4,0,none⟩),.pointer (some ⟨k3,0,none⟩)]] 192)) (W:World) (hI:Inv w W1 g3 g4 (mpL p) (alL p) W) :
  Calls Tryz.prog 155 #[.pointer (some ⟨kb,0,none⟩),.pointer (some ⟨kf,0,none⟩)] W fun e W'=>FnP w W1 g3 g4 (mpL p) (alL p) (fe (p.stmts.map (unE p))) W e W' :=
 (each7 none kb kf k4 k3 vs p.stmts (p.stmts.map (unE p)) (fun _ W=>Inv w W1 g3 g4 (mpL p) (alL p) W) W (hI.kc.sm hp.2) hf.stmts (by simp) (hI.kc.one hb) (hI.kc.one hk) (noC_none _) hI (fun _ _ _ h hb=>h.below hb)
  (fun j h lv W hl hI=>by
   obtain⟨la,lc,rfl,-⟩:=st_form rfl hl
   exact (c7_at (j:Int) la _ lc p.stmts[j] k4 k3 g4 g3 (alL p) (mpL p) _ W (hI.kc.one hC.box4) (hI.kc.one hC.box3) hI.s4 hI.s3 (hf.tg _ (List.getElem_mem h)) rfl).mono fun e W' ⟨he,hb⟩=>by
    rw [getD_map _ _ _ h]
    exact⟨he,gr_of hb _,fun _=>hI.below hb⟩)).mono fun e W' ⟨he,hg,hq⟩=>⟨he,L2.bch hI.bel (gr_to hg),(KC.refl W).gr hg (noC_none _),fun h0=>hq h0⟩
theorem find8 (hp:PgAt W1 vm vs p) (hf:Fits p) (kb kf:Nat) (hb:W1.heap[kb]?=some (.cells #[vs] 48)) (hk:W1.heap[kf]?=some (.cells #[.func (.func 135) #[] #[]] 192)) (W:World) (hI:Inv w W1 g3 g4 (mpL p) (alL p) W) :
  Calls Tryz.prog 155 #[.pointer (some ⟨kb,0,none⟩),.pointer (some ⟨kf,0,none⟩)] W fun e W'=>FnP w W1 g3 g4 (mpL p) (alL p) (fe (p.stmts.map wrE)) W e W' :=
 (each8 none kb kf vs p.stmts (p.stmts.map wrE) (fun _ W=>Inv w W1 g3 g4 (mpL p) (alL p) W) W (hI.kc.sm hp.2) hf.stmts (by simp) (hI.kc.one hb) (hI.kc.one hk) (noC_none _) hI (fun _ _ _ h hb=>h.below hb)
  (fun j h lv W hl hI=>by
   obtain⟨la,lc,rfl,-⟩:=st_form rfl hl
   exact (c8_at (j:Int) la _ lc p.stmts[j] _ W rfl).mono fun e W' ⟨he,hb⟩=>by
    rw [getD_map _ _ _ h]
    exact⟨he,gr_of hb _,fun _=>hI.below hb⟩)).mono fun e W' ⟨he,hg,hq⟩=>⟨he,L2.bch hI.bel (gr_to hg),(KC.refl W).gr hg (noC_none _),fun h0=>hq h0⟩
theorem find9 (hC:CnS W1 vm vs g k1 k3 k4 g3 g4 v1 v2 v3 v4 v5 v7 v8 v9) (hp:PgAt W1 vm vs p) (hf:Fits p) (kb kf:Nat) (hb:W1.heap[kb]?=some (.cells #[vs] 48)) (hk:W1.heap[kf]?=some (.cells #[.func (.func 137) #[] #[.pointer (some ⟨k1,0,none⟩)]] 192)) (W:World) (hI:Inv w W1 g3 g4 (mpL p) (alL p) W) :
  Calls Tryz.prog 155 #[.pointer (some ⟨kb,0,none⟩),.pointer (some ⟨kf,0,none⟩)] W fun e W'=>FnP w W1 g3 g4 (mpL p) (alL p) (fe (p.stmts.mapIdx (enE p.stmts.length))) W e W':=by
 obtain⟨a,cap,rfl,-⟩:=sm_form rfl hp.2
 exact (each9 none kb kf k1 _ p.stmts (p.stmts.mapIdx (enE p.stmts.length)) (fun _ W=>Inv w W1 g3 g4 (mpL p) (alL p) W) W (hI.kc.sm hp.2) hf.stmts (by simp) (hI.kc.one hb) (hI.kc.one hk) (noC_none _) hI (fun _ _ _ h hb=>h.below hb)
  (fun j h lv W hl hI=>by
   obtain⟨la,lc,rfl,-⟩:=st_form rfl hl
   exact (c9_at j la _ lc p.stmts[j] k1 _ cap a _ W (cells2 (hI.kc.row _ _ _ _ hC.prg)).2 hf.stmts rfl).mono fun e W' ⟨he,hb⟩=>by
    rw [show (p.stmts.mapIdx (enE p.stmts.length)).getD j 0=enE p.stmts.length j p.stmts[j] by simp [List.getD,List.getElem?_mapIdx,List.getElem?_eq_getElem h]]
    exact⟨he,gr_of hb _,fun _=>hI.below hb⟩)).mono fun e W' ⟨he,hg,hq⟩=>⟨he,L2.bch hI.bel (gr_to hg),(KC.refl W).gr hg (noC_none _),fun h0=>hq h0⟩
end
end Go.Proofs.YtohkgdfkklfgmaaGreatDoor.L10
end
section
set_option maxRecDepth 100000
set_option maxHeartbeats 4000000
section
namespace Go.Proofs.YtohkgdfkklfgmaaGreatDoor.L10
open Go.RowKit Go.Maps
def labsAt (l:List Stm) (k:Nat):List ByteArray:=(l[k]?.map (fun s=>s.labs)).getD []
theorem labsAt_get (l:List Stm) (k:Nat) (h:k<l.length):labsAt l k=l[k].labs:=by simp [labsAt,List.getElem?_eq_getElem h]
def lbK (l:List Stm) (s:ByteArray):Nat→Int
 | 0=>-1
 | k+1=>if L2.on (labsAt l k) s then (k:Int) else lbK l s k
theorem lbK_lt (l:List Stm) (s:ByteArray):∀ k,-1≤lbK l s k∧lbK l s k<k
 | 0=>by simp [lbK]
 | k+1=>by
  have:=lbK_lt l s k
  rw [lbK]
  split <;> omega
theorem lbK_in (l:List Stm) (s:ByteArray):∀ n k,k<n→L2.on (labsAt l k) s=true→∃ m,m<n∧lbK l s n=(m:Int)∧L2.on (labsAt l m) s=true
 | 0,k,h,_=>by omega
 | n+1,k,h,hon=>by
  rw [lbK]
  by_cases hn:L2.on (labsAt l n) s=true
  ·rw [if_pos hn];exact⟨n,by omega,rfl,hn⟩
  ·rw [if_neg hn]
   have:k≠n:=by rintro rfl;exact hn hon
   obtain⟨m,h1,h2,h3⟩:=lbK_in l s n k (by omega) hon
   exact⟨m,by omega,h2,h3⟩
def prs:Nat→List Stm→List (ByteArray × Nat)
 | _,[]=>[]
 | i,s::r=>s.labs.map (fun x=>(x,i))++prs (i+1) r
theorem prs_app:∀ (a b:List Stm) (i:Nat),prs i (a++b)=prs i a++prs (i+a.length) b
 | [],b,i=>by simp [prs]
 | s::r,b,i=>by
  rw [List.cons_append,prs,prs,prs_app r b (i+1),List.append_assoc,List.length_cons,show i+1+r.length=i+(r.length+1) by omega]
theorem prs_snoc (l:List Stm) (k:Nat) (h:k<l.length):prs 0 (l.take (k+1))=prs 0 (l.take k)++(labsAt l k).map (fun x=>(x,k)):=by
 rw [List.take_add_one,List.getElem?_eq_getElem h,Option.toList,prs_app,labsAt_get l k h]
 simp only [prs,List.append_nil,List.length_take,Nat.zero_add]
 rw [Nat.min_eq_left (by omega)]
theorem txk (x:ByteArray):WideAt.IsKeyLit (L2.txt x):=trivial
def mpF (m:DataW Unit) (y:ByteArray × Nat):DataW Unit:=m.put (L2.txt y.1) (.lit (.int .i64 (y.2:Int)))
def Mp (L:List (ByteArray × Nat)):DataW Unit:=L.foldl mpF (.map [])
theorem Mp_snoc (L:List (ByteArray × Nat)) (y:ByteArray × Nat):Mp (L++[y])=(Mp L).put (L2.txt y.1) (.lit (.int .i64 (y.2:Int))):=by simp [Mp,mpF,List.foldl_append]
theorem tidy_mpF:∀ (L:List (ByteArray × Nat)) (m:DataW Unit),Tidy m→Tidy (L.foldl mpF m)
 | [],_,h=>h
 | _::r,_,h=>tidy_mpF r _ (h.put (txk _) _)
theorem on_cons (x s:ByteArray) (r:List ByteArray):L2.on (x::r) s=(decide (x=s) || L2.on r s):=rfl
theorem fold_labs (k:Nat) (s:ByteArray):∀ (labs:List ByteArray) (m:DataW Unit),Tidy m →
  has ((labs.map (fun x=>(x,k))).foldl mpF m) (L2.txt s)=(has m (L2.txt s) || L2.on labs s) ∧
  ∀ z,((labs.map (fun x=>(x,k))).foldl mpF m).atKey (L2.txt s) z=if L2.on labs s then .lit (.int .i64 (k:Int)) else m.atKey (L2.txt s) z
 | [],m,_=>by simp [L2.on]
 | x::r,m,h=>by
  obtain⟨h1,h2⟩:=fold_labs k s r (mpF m (x,k)) (h.put (txk _) _)
  rw [List.map_cons,List.foldl_cons]
  refine⟨?_,fun z=>?_⟩
  ·rw [h1,on_cons]
   by_cases e:x=s
   ·subst e
    rw [mpF,has_put_same h.isMap (txk _)]
    simp
   ·rw [mpF,has_put_other (by intro e';exact e (L2.txt_inj e').symm)]
    simp [e]
  ·rw [h2,on_cons]
   by_cases hr:L2.on r s=true
   ·rw [if_pos hr,hr,Bool.or_true,if_pos rfl]
   ·rw [if_neg hr]
    have hr:L2.on r s=false:=by simpa using hr
    rw [hr,Bool.or_false]
    by_cases e:x=s
    ·subst e
     rw [mpF,atKey_put_same h.isMap (txk _)]
     simp
    ·rw [mpF,atKey_put_other (by intro e';exact e (L2.txt_inj e').symm)]
     simp [e]
theorem Mp_at (l:List Stm) (s:ByteArray):∀ k,k≤l.length→has (Mp (prs 0 (l.take k))) (L2.txt s)=decide (0≤lbK l s k)∧(0≤lbK l s k→∀ z,(Mp (prs 0 (l.take k))).atKey (L2.txt s) z=.lit (.int .i64 (lbK l s k)))
 | 0,_=>by simp [lbK,Mp,prs,has]
 | k+1,hk=>by
  obtain⟨h1,h2⟩:=Mp_at l s k (by omega)
  rw [prs_snoc l k (by omega),Mp,List.foldl_append]
  obtain⟨h3,h4⟩:=fold_labs k s (labsAt l k) (Mp (prs 0 (l.take k))) (tidy_mpF _ _ tidy_empty)
  unfold Mp at h1 h2 h3 h4
  rw [lbK]
  refine⟨?_,fun hp z=>?_⟩
  ·rw [h3,h1]
   by_cases ho:L2.on (labsAt l k) s=true
   ·rw [if_pos ho,ho];simp
   ·rw [if_neg ho]
    have ho:L2.on (labsAt l k) s=false:=by simpa using ho
    rw [ho,Bool.or_false]
  ·rw [h4]
   by_cases ho:L2.on (labsAt l k) s=true
   ·rw [if_pos ho,if_pos ho]
   ·rw [if_neg ho] at hp ⊢
    rw [if_neg ho]
    exact h2 hp z
end Go.Proofs.YtohkgdfkklfgmaaGreatDoor.L10
end
section
namespace Go.Proofs.YtohkgdfkklfgmaaGreatDoor.L10
open Go.RowKit Go.Maps
attribute [local go_sem] Oper.semAt_some
abbrev MapAt (w:World) (g n:Nat) (L:List (ByteArray × Nat)):Prop:=w.ownsMap Tryz.prog 9 (plainElem Tryz.prog 3) g n (Mp L)
theorem zeroI (w:World):(zeroValue 3).run Tryz.prog w=.ok (.int .i64 0) w:=by kernel_rfl
theorem MapAt.below {w w':World} {g n:Nat} {L:List (ByteArray × Nat)} (h:MapAt w g n L) (hb:Below w.heap.size w w'):MapAt w' g n L:=h.kept (gr_of hb none) (by simp)
def LI (w W:World) (m:Nat) (L:List (ByteArray × Nat)):Prop:=∃ n,n≤m∧MapAt W (w.heap.size+1) n L∧Below w.heap.size w W
theorem LI.up {w W W':World} {m:Nat} {L:List (ByteArray × Nat)} (h:LI w W m L) (hb:Below W.heap.size W W'):LI w W' m L:=by
 obtain⟨n,h1,h2,h3⟩:=h
 exact⟨n,h1,h2.below hb,L2.bch h3 hb⟩
theorem LI.le {w W:World} {m m':Nat} {L:List (ByteArray × Nat)} (h:LI w W m L) (hm:m≤m'):LI w W m' L:=by
 obtain⟨n,h1,h2⟩:=h
 exact⟨n,Nat.le_trans h1 hm,h2⟩
theorem pl_snoc (PL:List (ByteArray × Nat)) (l:List ByteArray) (k j:Nat) (h:j<l.length):PL++(l.take (j+1)).map (fun x=>(x,k))=(PL++(l.take j).map (fun x=>(x,k)))++[(l[j],k)]:=by
 rw [List.take_add_one,List.getElem?_eq_getElem h,Option.toList,List.map_append,List.append_assoc]
 rfl
theorem wf_nat {k:Nat} (h:k≤100000):(Lit.int .i64 (k:Int)).wf=true:=by
 simp [Lit.wf,IntKind.min,IntKind.max,IntKind.bits,IntKind.signed]
 omega
theorem labels_at (vm vs:Value) (p:Pg) (w:World) (hp:PgAt w vm vs p) (hs:Sml p) (hz:∀ s∈p.stmts,∀ t∈s.labs,t.size≤maxLen) :
  Calls Tryz.prog 111 #[.agg #[vm,vs]] w fun e w'=>∃ g n,e=.returned (.map (some g))∧MapAt w' g n (prs 0 p.stmts)∧Below w.heap.size w w':=by
 obtain⟨n1,hn1⟩:∃ n,p.maps.length=n:=⟨_,rfl⟩
 obtain⟨n2,hn2⟩:∃ n,p.stmts.length=n:=⟨_,rfl⟩
 obtain⟨a1,c1,rfl,-⟩:=df_form hn1 hp.1
 obtain⟨a2,c2,rfl,hc⟩:=sm_form hn2 hp.2
 have hm2:=hs.stmts
 rw [hn2] at hm2
 have HC:=Lib.hid hc
 have HN:=Lib.hid hn2
 have HZ:=Lib.hid hz
 have HL:=Lib.hid hs.labs
 have hmm:=@run_makeMap Tryz.prog
 have hb0:Below w.heap.size w ((w.alloc (.cells #[.slice a1 n1 c1,.slice a2 n2 c2] 50)).alloc (.map #[] 0)):=L2.bch (L8.bnew w _) (L8.bnew _ _)
 have hown:=World.ownsMap_made (w.alloc (.cells #[.slice a1 n1 c1,.slice a2 n2 c2] 50)) Tryz.prog 9 (plainElem (H:=Unit) Tryz.prog 3)
 have hi:Hid (LI w ((w.alloc (.cells #[.slice a1 n1 c1,.slice a2 n2 c2] 50)).alloc (.map #[] 0)) (0*100000) (prs 0 (p.stmts.take 0))):=Lib.hid ⟨0,by omega,by unfold MapAt;simpa [prs,Mp] using hown,hb0⟩
 have hrow:Hid (((w.alloc (.cells #[.slice a1 n1 c1,.slice a2 n2 c2] 50)).alloc (.map #[] 0)).heap[w.heap.size]?=some (.cells #[.slice a1 n1 c1,.slice a2 n2 c2] 50)):=Lib.hid (L8.row_up (heap_alloc_last w _) (L8.bnew _ _))
 clear hp hs hz hn1 hn2 hc hb0 hown
 go_enter Tryz.func111,Tryz.ntmps111
 go_upto_region 2 with (fail)
 obtain⟨x0,x1⟩:=cells2p hrow.out
 generalize ((w.alloc (.cells #[.slice a1 n1 c1,.slice a2 n2 c2] 50)).alloc (.map #[] 0))=W at hi hrow x0 x1 ⊢
 clear hrow
 go_wp2
 go_loopw [4,5,12] (fun _ _ i wr=>∃ k:Nat,k≤n2∧i=.int .i64 (k:Int)∧Hid (LI w wr (k*100000) (prs 0 (p.stmts.take k)))) (fun _ _ i _=>n2-(intOf i).toNat)
 case atStart=>exact⟨0,Nat.zero_le _,rfl,hi⟩
 case round =>
  obtain⟨k,hk,rfl,hI⟩:=hrel
  clear hi x0 x1
  by_cases hlt:k<n2
  ·have hkl:k<p.stmts.length:=by rw [HN.out];exact hlt
   obtain⟨b,o,rfl,hbl,hc⟩:=HC.out (by omega)
   obtain⟨lv,hst,hx⟩:=hc k hkl
   obtain⟨n0,hn0,hm0,hbw⟩:=hI.out
   have hX:=fun i u hu=>(hbw.cell (by exact hbl)).trans (hx i u hu)
   have x0:=hX 0 _ rfl
   have x1:=hX 1 _ rfl
   have x2:=hX 2 _ rfl
   have x3:=hX 3 _ rfl
   have x4:=hX 4 _ rfl
   have x5:=hX 5 _ rfl
   have x6:=hX 6 _ rfl
   have x7:=hX 7 _ rfl
   have x8:=hX 8 _ rfl
   rw [Nat.add_zero] at x0
   have hw1:=World.block_lt_of_cell? wr _ x0
   simp only at hw1
   have hz:=HZ.out _ (List.getElem_mem hkl)
   have hll:=HL.out _ (List.getElem_mem hkl)
   have hpr:=prs_snoc p.stmts k hkl
   rw [labsAt_get _ _ hkl] at hpr
   have HB:=Lib.hid hbw
   obtain⟨s,hs⟩:∃ s,p.stmts[k]=s:=⟨_,rfl⟩
   rw [hs] at x1 x2 x3 x4 x5 x6 x7 x8 hst hz hll hpr
   obtain⟨ln,hln⟩:∃ ln,s.labs.length=ln:=⟨_,rfl⟩
   obtain⟨la,lc,rfl,hla⟩:=st_form hln hst
   rw [hln] at hll
   obtain⟨PL,hPL⟩:∃ PL,prs 0 (p.stmts.take k)=PL:=⟨_,rfl⟩
   rw [hPL] at hI hpr
   have HI:=Lib.hid (hI.out.up (L8.bnew wr (.cells #[.slice la ln lc,.int .i64 s.x.op,.bool s.x.reg,.int .i64 s.x.dst,.int .i64 s.x.src,.int .i64 s.x.off,.int .i64 s.x.imm,.string s.tg,.string s.mp] 94)))
   have HLA:=Lib.hid hla
   have HPR:=Lib.hid hpr
   have HZ2:=Lib.hid hz
   have HLN:=Lib.hid hln
   have R5:=heap_alloc_last wr (.cells #[.slice la ln lc,.int .i64 s.x.op,.bool s.x.reg,.int .i64 s.x.dst,.int .i64 s.x.src,.int .i64 s.x.off,.int .i64 s.x.imm,.string s.tg,.string s.mp] 94)
   clear hx hX hc hst hs hPL hla hpr hz hln hI hn0 hm0 hbw
   go_upto_region 5 with (fail)
   clear x0 x1 x2 x3 x4 x5 x6 x7 x8 hw1
   obtain⟨y0,-⟩:=cells9 R5
   clear R5
   generalize hWk:(wr.alloc (.cells #[.slice la ln lc,.int .i64 s.x.op,.bool s.x.reg,.int .i64 s.x.dst,.int .i64 s.x.src,.int .i64 s.x.off,.int .i64 s.x.imm,.string s.tg,.string s.mp] 94))=wk at HI y0 ⊢
   clear hWk
   have HJ:Hid (LI w wk (k*100000+0) (PL++(s.labs.take 0).map (fun x=>(x,k)))):=Lib.hid (by rw [List.take_zero,List.map_nil,List.append_nil];exact HI.out.le (Nat.le_add_right _ 0))
   clear HI
   go_wp2
   go_loopw [7,20] (fun _ i wi=>∃ j:Nat,j≤ln∧i=.int .i64 (j:Int)∧Hid (LI w wi (k*100000+j) (PL++(s.labs.take j).map (fun x=>(x,k))))) (fun _ i _=>ln-(intOf i).toNat)
   case atStart=>exact⟨0,Nat.zero_le _,rfl,HJ⟩
   case round =>
    obtain⟨j,hj,rfl,hJ⟩:=hrel
    clear HJ y0
    by_cases hjn:j<ln
    ·have hjl:j<s.labs.length:=by rw [HLN.out];exact hjn
     obtain⟨bb,oo,rfl,hbb,hcc⟩:=HLA.out (by omega)
     obtain⟨n0,hn0,hown,hbw⟩:=hJ.out
     have z0:=(hbw.cell (by exact hbb)).trans (hcc j hjl)
     have hkey:=key_of (HZ2.out s.labs[j] (List.getElem_mem hjl))
     have hsn:PL++(s.labs.take (j+1)).map (fun x=>(x,k))=(PL++(s.labs.take j).map (fun x=>(x,k)))++[(s.labs[j],k)]:=pl_snoc PL s.labs k j hjl
     obtain⟨x,hx⟩:∃ x,s.labs[j]=x:=⟨_,rfl⟩
     obtain⟨Q,hQ⟩:∃ Q,PL++(s.labs.take j).map (fun x=>(x,k))=Q:=⟨_,rfl⟩
     rw [hx] at z0 hkey hsn
     rw [hQ] at hown hsn
     have HS:=Lib.hid hsn
     have HBW:=Lib.hid hbw
     have HN0:=Lib.hid hn0
     have hwf:(Lit.int .i64 (k:Int)).wf=true:=wf_nat (by omega)
     have hn1:n0+1≤maxLen:=by unfold maxLen;omega
     clear hx hQ hsn hbw hn0 hJ hcc
     unfold MapAt at hown
     go_wp2_with (first
      | (at_mapUpdate;refine wpList_mapUpdate_own _ rfl _ _ _ 169 rfl 9 3 L2.law9 Tryz.underlying169 (plainElem (H:=Unit) Tryz.prog 3) (w.heap.size+1) _ _ rfl hown (by omega) _ _ _ rfl rfl hkey _ [] (plainElem_int Tryz.underlying3 hwf) ?_;intro w1 hown1 hgrow1)
      | go_in)
     go_roundw
     case rel =>
      refine⟨j+1,by omega,by go_num,Lib.hid ?_⟩
      rw [HS.out]
      refine⟨n0+1,by have:=HN0.out;omega,?_,bel_gr HBW.out hgrow1 (by omega)⟩
      unfold MapAt
      rw [Mp_snoc]
      exact hown1
     case measure=>simp [intOf];omega
    ·obtain rfl:j=ln:=by omega
     have HJ2:Hid (LI w wr ((k+1)*100000) (prs 0 (p.stmts.take (k+1)))):=Lib.hid (by
      have h:=hJ.out
      rw [List.take_of_length_le (by rw [HLN.out];exact Nat.le_refl _),← HPR.out] at h
      exact h.le (by omega))
     clear hJ
     go_wp2
     go_roundw
     case rel=>exact⟨k+1,by omega,by go_num,HJ2⟩
     case measure=>simp [intOf];omega
  ·obtain rfl:k=n2:=by omega
   have HI2:=Lib.hid hI.out
   clear hI
   go_wp2
   go_ret
   obtain⟨n,h1,h2,h3⟩:=HI2.out
   rw [List.take_of_length_le (by rw [HN.out];exact Nat.le_refl _)] at h2
   exact⟨_,_,rfl,h2,h3⟩
end Go.Proofs.YtohkgdfkklfgmaaGreatDoor.L10
end
section
namespace Go.Proofs.YtohkgdfkklfgmaaGreatDoor.L10
open Go.RowKit
attribute [local go_sem] Oper.semAt_some
theorem on_snoc (l:List ByteArray) (x:ByteArray) (j:Nat) (h:j<l.length) (hn:L2.on (l.take j) x=false) (hx:l[j]≠x):L2.on (l.take (j+1)) x=false:=by
 rw [List.take_add_one,List.getElem?_eq_getElem h,Option.toList]
 simp only [L2.on,List.any_append,List.any_cons,List.any_nil,Bool.or_false] at hn ⊢
 rw [hn]
 simp [hx]
theorem lbK_hit (l:List Stm) (x:ByteArray) (k:Nat) (h:k<l.length) (hm:x∈l[k].labs):lbK l x (k+1)=(k:Int):=by
 rw [lbK,labsAt_get l k h,if_pos ((L2.on_mem _ _).2 hm)]
theorem lbK_miss (l:List Stm) (x:ByteArray) (k:Nat) (h:k<l.length) (hm:L2.on l[k].labs x=false):lbK l x (k+1)=lbK l x k:=by
 rw [lbK,labsAt_get l k h,if_neg (by simp [hm])]
theorem rlabel_at (vm vs:Value) (p:Pg) (x:ByteArray) (w:World) (hp:PgAt w vm vs p) (hs:Sml p) :
  Calls Tryz.prog 83 #[.agg #[vm,vs],.string x] w fun e w'=>e=.returned (.int .i64 (lbK p.stmts x p.stmts.length))∧Below w.heap.size w w':=by
 obtain⟨n1,hn1⟩:∃ n,p.maps.length=n:=⟨_,rfl⟩
 obtain⟨n2,hn2⟩:∃ n,p.stmts.length=n:=⟨_,rfl⟩
 obtain⟨a1,c1,rfl,-⟩:=df_form hn1 hp.1
 obtain⟨a2,c2,rfl,hc⟩:=sm_form hn2 hp.2
 have hm2:=hs.stmts
 rw [hn2] at hm2
 have HC:=Lib.hid hc
 have HN:=Lib.hid hn2
 have HL:=Lib.hid hs.labs
 obtain⟨R,hR⟩:∃ R,lbK p.stmts x p.stmts.length=R:=⟨_,rfl⟩
 rw [hR]
 have hV:Hid (lbK p.stmts x n2=R):=Lib.hid (by rw [← hn2];exact hR)
 have HB:=Lib.hid (L8.bnew w (.cells #[.slice a1 n1 c1,.slice a2 n2 c2] 50))
 have K0:=Lib.hid (heap_alloc_last w (.cells #[.slice a1 n1 c1,.slice a2 n2 c2] 50))
 have x1:=(cells2p K0.out).2
 have hlt1:=World.block_lt_of_cell? _ _ x1
 simp only at hlt1
 clear hp hs hn1 hn2 hc hR
 go_enter Tryz.func83,Tryz.ntmps83
 go_upto_region 1 with (fail)
 generalize w.alloc (.cells #[.slice a1 n1 c1,.slice a2 n2 c2] 50)=W0 at K0 x1 hlt1 HB ⊢
 have HI:=Lib.hid (Below.refl W0.heap.size W0)
 go_wp2
 go_loopw [5,6] (fun i _ wr=>∃ k:Nat,k≤n2∧i=.int .i64 ((k:Int)-1)∧Hid (Below W0.heap.size W0 wr)∧Hid (lbK p.stmts x k=R)) (fun i _ _=>(intOf i+1).toNat)
 case atStart=>exact⟨n2,Nat.le_refl _,rfl,HI,hV⟩
 case round =>
  obtain⟨k,hk,rfl,hB,hT⟩:=hrel
  clear HI hV x1 hlt1
  have x1:=(cells2p (L8.row_up K0.out hB.out)).2
  have hlt1:=World.block_lt_of_cell? _ _ x1
  simp only at hlt1
  by_cases h0:1≤k
  ·obtain⟨m,rfl⟩:∃ m,k=m+1:=⟨k-1,by omega⟩
   have e1:((m+1:Nat):Int)-1=(m:Int):=by omega
   rw [e1]
   have g2:(0:Int)≤(m:Int):=by omega
   have hkl:m<p.stmts.length:=by rw [HN.out];omega
   obtain⟨b,o,rfl,hbl,hc⟩:=HC.out (by omega)
   obtain⟨lv,hst,hx⟩:=hc m hkl
   have hX0:=hx 0 _ rfl
   rw [Nat.add_zero] at hX0
   have HX0:=Lib.hid hX0
   have hll:=HL.out _ (List.getElem_mem hkl)
   have HH:=Lib.hid (lbK_hit p.stmts x m hkl)
   have HMI:=Lib.hid (lbK_miss p.stmts x m hkl)
   obtain⟨s,hs⟩:∃ s,p.stmts[m]=s:=⟨_,rfl⟩
   rw [hs] at hst hll HH HMI
   obtain⟨ln,hln⟩:∃ ln,s.labs.length=ln:=⟨_,rfl⟩
   obtain⟨la,lc,rfl,hla⟩:=st_form hln hst
   rw [hln] at hll
   have HLA:=Lib.hid hla
   have HLN:=Lib.hid hln
   have hm3:m<n2:=by omega
   have HJ:Hid (L2.on (s.labs.take 0) x=false):=Lib.hid rfl
   clear hx hX0 hc hst hs hla hln e1
   go_wp2
   go_loopw [6] (fun i wi=>∃ j:Nat,j≤ln∧i=.int .i64 (j:Int)∧Hid (Below W0.heap.size W0 wi)∧Hid (L2.on (s.labs.take j) x=false)) (fun i _=>ln-(intOf i).toNat)
   case atStart=>exact⟨0,Nat.zero_le _,rfl,hB,HJ⟩
   case round =>
    obtain⟨j,hj,rfl,hB2,hJ⟩:=hrel
    clear HJ x1 hlt1 hB
    have x1:=(cells2p (L8.row_up K0.out hB2.out)).2
    have hlt1:=World.block_lt_of_cell? _ _ x1
    simp only at hlt1
    have hBw:=L2.bch HB.out hB2.out
    have x0:=(hBw.cell (by exact hbl)).trans HX0.out
    have hw1:=World.block_lt_of_cell? _ _ x0
    simp only at hw1
    by_cases hjn:j<ln
    ·have hjl:j<s.labs.length:=by rw [HLN.out];exact hjn
     obtain⟨bb,oo,rfl,hbb,hcc⟩:=HLA.out (by omega)
     have z0:=(hBw.cell (by exact hbb)).trans (hcc j hjl)
     have hw2:=World.block_lt_of_cell? _ _ z0
     simp only at hw2
     have HSN:=Lib.hid (on_snoc s.labs x j hjl hJ.out)
     have HME:=Lib.hid (List.getElem_mem hjl)
     have HBW:=Lib.hid hBw
     obtain⟨y,hy⟩:∃ y,s.labs[j]=y:=⟨_,rfl⟩
     rw [hy] at z0 HSN HME
     have hjI:(j:Int)<(ln:Int):=by omega
     clear hcc hy hJ hBw
     by_cases he:y=x
     ·subst he
      have ht:(y.toList==y.toList)=true:=by simp
      have HV:Hid (R=(m:Int)):=Lib.hid (by rw [← hT.out];exact HH.out HME.out)
      go_wp2
      go_ret
      rw [HV.out]
      exact⟨rfl,HBW.out⟩
     ·have ht:(y.toList==x.toList)=false:=L2.txt_ne he
      have HS2:=Lib.hid (HSN.out he)
      clear he
      go_wp2
      go_roundw
      case rel=>exact⟨j+1,by omega,by go_num,hB2,HS2⟩
      case measure=>simp [intOf];omega
    ·obtain rfl:j=ln:=by omega
     have HV:Hid (lbK p.stmts x m=R):=Lib.hid (by
      have h:=hJ.out
      rw [List.take_of_length_le (by rw [HLN.out];exact Nat.le_refl _)] at h
      rw [← hT.out];exact (HMI.out h).symm)
     clear hJ hBw
     go_wp2
     go_roundw
     case rel=>exact⟨m,by omega,rfl,hB2,HV⟩
     case measure=>simp [intOf]
  ·obtain rfl:k=0:=by omega
   have HBW:=Lib.hid (L2.bch HB.out hB.out)
   have e1:((0:Nat):Int)-1=-1:=by omega
   rw [e1]
   clear e1
   go_wp2
   go_ret
   rw [← hT.out]
   exact⟨rfl,HBW.out⟩
end Go.Proofs.YtohkgdfkklfgmaaGreatDoor.L10
end
end
section
set_option maxRecDepth 100000
set_option maxHeartbeats 8000000
namespace Go.Proofs.YtohkgdfkklfgmaaGreatDoor.L10
open Go.RowKit Go.Maps
attribute [local go_sem] Oper.semAt_some
theorem frB_drop (l:List (Bool × Nat × Int)) (j:Nat) (c:Bool × Nat × Int) (hc:l[j]?=some c) (r:Bool × Nat × Int) (h:frB (l.drop j)=r):(c.2.2=0→frB (l.drop (j+1))=r)∧(c.2.2≠0→c=r):=by
 obtain⟨hj,rfl⟩:=List.getElem?_eq_some_iff.1 hc
 rw [List.drop_eq_getElem_cons hj,frB] at h
 exact⟨fun h0=>by rw [if_pos h0] at h;exact h,fun h0=>by rw [if_neg h0] at h;exact h⟩
theorem KC.trans {a b c:World} (h:KC a b) (k:KC b c):KC a c:=⟨Nat.le_trans h.size k.size,fun _ _ _ _ hx=>k.row _ _ _ _ (h.row _ _ _ _ hx)⟩
theorem KC.of {a b:World} (h:Below a.heap.size a b):KC a b:=(KC.refl a).gr (gr_of h none) (noC_none _)
theorem cell_row {w:World} {g i:Nat} {cs:Array Value} {t:TypeId} {v:Value} (h:w.heap[g]?=some (.cells cs t)) (hv:cs[i]?=some v):w.cell? ⟨g,i,none⟩=some v:=by
 unfold World.cell?
 rw [h]
 exact hv
def msJ (p:Pg) (j:Nat):List ByteArray:=if j≤3 then [] else mpL p
def lsJ (p:Pg) (j:Nat):List ByteArray:=if j≤4 then [] else alL p
def BrP (r:Bool × Nat × Int) (w:World) (e:Ending) (w':World):Prop:=e=.returned (.tuple #[.agg #[.bool r.1,.int .i64 (r.2.1:Int)],.int .i64 r.2.2])∧Below w.heap.size w w'
theorem breach_at (vm vs:Value) (p:Pg) (w:World) (hp:PgAt w vm vs p) (hf:Fits p) (hT:L1.Wid w∧L2.Regs w) (rr:Bool × Nat × Int) (hr:brV p=rr) :
  Calls Tryz.prog 52 #[.agg #[vm,vs]] w fun e w'=>BrP rr w e w':=by
 obtain⟨nm,hnm⟩:∃ n,p.maps.length=n:=⟨_,rfl⟩
 obtain⟨am,cm,rfl,-⟩:=df_form hnm hp.1
 obtain⟨ns,hns⟩:∃ n,p.stmts.length=n:=⟨_,rfl⟩
 obtain⟨at2,cs,rfl,-⟩:=sm_form hns hp.2
 clear hnm hns
 have HP:=Lib.hid hp
 have HF:=Lib.hid hf
 have HT:=Lib.hid hT
 have HR:=Lib.hid hr
 have HC:=Lib.hid (fun (W:World)=>conds_at am at2 nm cm ns cs W)
 clear hp hf hT hr
 go_enter Tryz.func52,Tryz.ntmps52
 go_wp2_with (go_at_call 92;((with_reducible refine (HC.out _).mono ?_);rintro e W1 ⟨g,k1,k3,k4,g3,g4,v1,v2,v3,v4,v5,v7,v8,v9,rfl,hB,hC,lo3,lo4⟩))
 have hB0:Below w.heap.size w ((w.alloc (.cells #[.slice am nm cm,.slice at2 ns cs] 50)).alloc (.cells #[.bool false,.int .i64 0] 106)):=L2.bch (L8.bnew w _) (L8.bnew _ _)
 have hS0:W1.heap[w.heap.size+1]?=some (.cells #[.bool false,.int .i64 0] 106):=L8.row_up (by have:=heap_alloc_last (w.alloc (.cells #[.slice am nm cm,.slice at2 ns cs] 50)) (.cells #[.bool false,.int .i64 0] 106);simpa using this) hB
 have hBW:=L2.bch hB0 hB
 have hsz:=hB0.size
 have l3:w.heap.size≤g3:=Nat.le_trans hB0.size lo3
 have l4:w.heap.size≤g4:=Nat.le_trans hB0.size lo4
 have HI:Hid (Inv w W1 g3 g4 (msJ p 0) (lsJ p 0) W1):=Lib.hid ⟨hBW,KC.refl _,⟨L4.wid_below HT.out.1 hBW,HT.out.2.below hBW⟩,hC.set3,hC.set4⟩
 have HPW:=Lib.hid (HP.out.below hBW)
 have HS:=Lib.hid hS0
 have HCC:=Lib.hid hC
 have HLO:=Lib.hid (And.intro l3 (And.intro l4 hC.ne))
 have c1:=hC.c1
 have c2:=hC.c2
 have c3:=hC.c3
 have c4:=hC.c4
 have c5:=hC.c5
 have c7:=hC.c7
 have c8:=hC.c8
 have c9:=hC.c9
 clear hC hB hB0 hS0 hBW lo3 lo4 l3 l4 HT HC HP
 obtain⟨b1,f1,rfl,p1,q1⟩:=c1
 obtain⟨b2,f2,rfl,p2,q2⟩:=c2
 obtain⟨b3,f3,rfl,p3,q3⟩:=c3
 obtain⟨b4,f4,rfl,p4,q4⟩:=c4
 obtain⟨b5,f5,rfl,p5,q5⟩:=c5
 obtain⟨b7,f7,rfl,p7,q7⟩:=c7
 obtain⟨b8,f8,rfl,p8,q8⟩:=c8
 obtain⟨b9,f9,rfl,p9,q9⟩:=c9
 have H0:=Lib.hid (fun W (hI:Inv w W1 g3 g4 [] [] W)=>find1 HPW.out HF.out b1 f1 p1 q1 W hI)
 have H1:=Lib.hid (fun W (hI:Inv w W1 g3 g4 [] [] W)=>find2 HPW.out HF.out b2 f2 p2 q2 W hI)
 have H2:=Lib.hid (fun W (hI:Inv w W1 g3 g4 [] [] W)=>find3 HPW.out HF.out b3 f3 p3 q3 W hI)
 have H3:=Lib.hid (fun W (hI:Inv w W1 g3 g4 [] [] W)=>find4 HCC.out HPW.out HF.out HLO.out.1 HLO.out.2.2 b4 f4 p4 q4 W hI)
 have H4:=Lib.hid (fun W (hI:Inv w W1 g3 g4 (mpL p) [] W)=>find5 HCC.out HPW.out HF.out HLO.out.2.1 HLO.out.2.2 b5 f5 p5 q5 W hI)
 have H5:=Lib.hid (fun W (hI:Inv w W1 g3 g4 (mpL p) (alL p) W)=>find6 HCC.out HPW.out W hI)
 have H6:=Lib.hid (fun W (hI:Inv w W1 g3 g4 (mpL p) (alL p) W)=>find7 HCC.out HPW.out HF.out b7 f7 p7 q7 W hI)
 have H7:=Lib.hid (fun W (hI:Inv w W1 g3 g4 (mpL p) (alL p) W)=>find8 HPW.out HF.out b8 f8 p8 q8 W hI)
 have H8:=Lib.hid (fun W (hI:Inv w W1 g3 g4 (mpL p) (alL p) W)=>find9 HCC.out HPW.out HF.out b9 f9 p9 q9 W hI)
 have HLI:=Lib.hid HCC.out.list
 clear p1 p2 p3 p4 p5 p7 p8 p9 q1 q2 q3 q4 q5 q7 q8 q9 HCC HPW HF
 go_loopw [11] (fun i wr=>∃ j:Nat,j≤9∧i=.int .i64 (j:Int)∧Hid (Inv w W1 g3 g4 (msJ p j) (lsJ p j) wr)∧Hid (frB ((cnd p).drop j)=rr)) (fun i _=>9-(intOf i).toNat)
 case atStart=>exact⟨0,Nat.zero_le _,rfl,HI,Lib.hid HR.out⟩
 case round =>
  obtain⟨j,hj,rfl,hI,hL⟩:=hrel
  clear HI HR
  have hg:=hI.out.kc.row _ _ _ _ HLI.out
  have hcs:j=0∨j=1∨j=2∨j=3∨j=4∨j=5∨j=6∨j=7∨j=8∨j=9:=by omega
  rcases hcs with rfl|rfl|rfl|rfl|rfl|rfl|rfl|rfl|rfl|rfl
  ·have a0:=cell_row (i:=0) (v:=.bool true) hg rfl
   have a1:=cell_row (i:=1) (v:=.func (.func 152) #[] #[.pointer (some ⟨b1,0,none⟩),.pointer (some ⟨f1,0,none⟩)]) hg rfl
   have hq:=frB_drop (cnd p) 0 (true,fe (p.maps.map deE)) rfl _ hL.out
   have HK:=Lib.hid (H0.out (wr.alloc (.cells #[.bool true,.func (.func 152) #[] #[.pointer (some ⟨b1,0,none⟩),.pointer (some ⟨f1,0,none⟩)]] 150)) (hI.out.below (L8.bnew wr _)))
   have hkg:=World.block_lt_of_cell? wr _ a0
   clear hg
   generalize fe (p.maps.map deE)=R at hq HK
   obtain⟨kk,ee⟩:=R
   simp only at hq HK
   have HQ:=Lib.hid hq
   clear hq hL
   by_cases h0:ee=0
   ·subst h0
    go_wp2_with (go_at_call 152;((with_reducible refine (HK.out).mono ?_);rintro e w1 ⟨rfl,b1,kc1,q1⟩))
    go_roundw
    case rel=>exact⟨1,by omega,by go_num,Lib.hid (q1 (by trivial)),Lib.hid (HQ.out.1 (by trivial))⟩
    case measure=>simp [intOf]
   ·obtain rfl:=HQ.out.2 h0
    go_wp2_with (first|(go_at_call 152;((with_reducible refine (HK.out).mono ?_);rintro e w1 ⟨rfl,b1,kc1,q1⟩;obtain⟨y0,y1⟩:=cells2 (kc1.row _ _ _ _ (heap_alloc_last wr _));have hS:=((hI.out.kc.trans (KC.of (L8.bnew wr _))).trans kc1).row _ _ _ _ HS.out;clear a0 a1))|(refine wpList_store_row rfl _ _ _ rfl (w.heap.size+1) #[.bool true,.int .i64 (kk:Int)] rfl rfl 106 _ hS (by kernel_rfl) rfl (by simp [Value.oneCell']) ?_))
    obtain⟨z0,z1⟩:=cells2 (setRow_heap _ _ _ #[.bool true,.int .i64 (kk:Int)] _ _ hS)
    exact bodyPost_ret (v:=.tuple #[.agg #[.bool true,.int .i64 (kk:Int)],.int .i64 ee]) (by simp [results,Tryz.results52,go_sem,z0,z1]) rfl ⟨rfl,below_setRow b1 (by omega) _⟩
  ·have a0:=cell_row (i:=2) (v:=.bool false) hg rfl
   have a1:=cell_row (i:=3) (v:=.func (.func 155) #[] #[.pointer (some ⟨b2,0,none⟩),.pointer (some ⟨f2,0,none⟩)]) hg rfl
   have hq:=frB_drop (cnd p) 1 (false,fe (p.stmts.map stE)) rfl _ hL.out
   have HK:=Lib.hid (H1.out (wr.alloc (.cells #[.bool false,.func (.func 155) #[] #[.pointer (some ⟨b2,0,none⟩),.pointer (some ⟨f2,0,none⟩)]] 150)) (hI.out.below (L8.bnew wr _)))
   have hkg:=World.block_lt_of_cell? wr _ a0
   clear hg
   generalize fe (p.stmts.map stE)=R at hq HK
   obtain⟨kk,ee⟩:=R
   simp only at hq HK
   have HQ:=Lib.hid hq
   clear hq hL
   by_cases h0:ee=0
   ·subst h0
    go_wp2_with (go_at_call 155;((with_reducible refine (HK.out).mono ?_);rintro e w1 ⟨rfl,b1,kc1,q1⟩))
    go_roundw
    case rel=>exact⟨2,by omega,by go_num,Lib.hid (q1 (by trivial)),Lib.hid (HQ.out.1 (by trivial))⟩
    case measure=>simp [intOf]
   ·obtain rfl:=HQ.out.2 h0
    go_wp2_with (first|(go_at_call 155;((with_reducible refine (HK.out).mono ?_);rintro e w1 ⟨rfl,b1,kc1,q1⟩;obtain⟨y0,y1⟩:=cells2 (kc1.row _ _ _ _ (heap_alloc_last wr _));have hS:=((hI.out.kc.trans (KC.of (L8.bnew wr _))).trans kc1).row _ _ _ _ HS.out;clear a0 a1))|(refine wpList_store_row rfl _ _ _ rfl (w.heap.size+1) #[.bool false,.int .i64 (kk:Int)] rfl rfl 106 _ hS (by kernel_rfl) rfl (by simp [Value.oneCell']) ?_))
    obtain⟨z0,z1⟩:=cells2 (setRow_heap _ _ _ #[.bool false,.int .i64 (kk:Int)] _ _ hS)
    exact bodyPost_ret (v:=.tuple #[.agg #[.bool false,.int .i64 (kk:Int)],.int .i64 ee]) (by simp [results,Tryz.results52,go_sem,z0,z1]) rfl ⟨rfl,below_setRow b1 (by omega) _⟩
  ·have a0:=cell_row (i:=4) (v:=.bool true) hg rfl
   have a1:=cell_row (i:=5) (v:=.func (.func 152) #[] #[.pointer (some ⟨b3,0,none⟩),.pointer (some ⟨f3,0,none⟩)]) hg rfl
   have hq:=frB_drop (cnd p) 2 (true,fe (szE p.maps.length)) rfl _ hL.out
   have HK:=Lib.hid (H2.out (wr.alloc (.cells #[.bool true,.func (.func 152) #[] #[.pointer (some ⟨b3,0,none⟩),.pointer (some ⟨f3,0,none⟩)]] 150)) (hI.out.below (L8.bnew wr _)))
   have hkg:=World.block_lt_of_cell? wr _ a0
   clear hg
   generalize fe (szE p.maps.length)=R at hq HK
   obtain⟨kk,ee⟩:=R
   simp only at hq HK
   have HQ:=Lib.hid hq
   clear hq hL
   by_cases h0:ee=0
   ·subst h0
    go_wp2_with (go_at_call 152;((with_reducible refine (HK.out).mono ?_);rintro e w1 ⟨rfl,b1,kc1,q1⟩))
    go_roundw
    case rel=>exact⟨3,by omega,by go_num,Lib.hid (q1 (by trivial)),Lib.hid (HQ.out.1 (by trivial))⟩
    case measure=>simp [intOf]
   ·obtain rfl:=HQ.out.2 h0
    go_wp2_with (first|(go_at_call 152;((with_reducible refine (HK.out).mono ?_);rintro e w1 ⟨rfl,b1,kc1,q1⟩;obtain⟨y0,y1⟩:=cells2 (kc1.row _ _ _ _ (heap_alloc_last wr _));have hS:=((hI.out.kc.trans (KC.of (L8.bnew wr _))).trans kc1).row _ _ _ _ HS.out;clear a0 a1))|(refine wpList_store_row rfl _ _ _ rfl (w.heap.size+1) #[.bool true,.int .i64 (kk:Int)] rfl rfl 106 _ hS (by kernel_rfl) rfl (by simp [Value.oneCell']) ?_))
    obtain⟨z0,z1⟩:=cells2 (setRow_heap _ _ _ #[.bool true,.int .i64 (kk:Int)] _ _ hS)
    exact bodyPost_ret (v:=.tuple #[.agg #[.bool true,.int .i64 (kk:Int)],.int .i64 ee]) (by simp [results,Tryz.results52,go_sem,z0,z1]) rfl ⟨rfl,below_setRow b1 (by omega) _⟩
  ·have a0:=cell_row (i:=6) (v:=.bool true) hg rfl
   have a1:=cell_row (i:=7) (v:=.func (.func 152) #[] #[.pointer (some ⟨b4,0,none⟩),.pointer (some ⟨f4,0,none⟩)]) hg rfl
   have hq:=frB_drop (cnd p) 3 (true,fe (dpE [] (p.maps.map fun d=>[d.nm]))) rfl _ hL.out
   have HK:=Lib.hid (H3.out (wr.alloc (.cells #[.bool true,.func (.func 152) #[] #[.pointer (some ⟨b4,0,none⟩),.pointer (some ⟨f4,0,none⟩)]] 150)) (hI.out.below (L8.bnew wr _)))
   have hkg:=World.block_lt_of_cell? wr _ a0
   clear hg
   generalize fe (dpE [] (p.maps.map fun d=>[d.nm]))=R at hq HK
   obtain⟨kk,ee⟩:=R
   simp only at hq HK
   have HQ:=Lib.hid hq
   clear hq hL
   by_cases h0:ee=0
   ·subst h0
    go_wp2_with (go_at_call 152;((with_reducible refine (HK.out).mono ?_);rintro e w1 ⟨rfl,b1,kc1,q1⟩))
    go_roundw
    case rel=>exact⟨4,by omega,by go_num,Lib.hid (q1 (by trivial)),Lib.hid (HQ.out.1 (by trivial))⟩
    case measure=>simp [intOf]
   ·obtain rfl:=HQ.out.2 h0
    go_wp2_with (first|(go_at_call 152;((with_reducible refine (HK.out).mono ?_);rintro e w1 ⟨rfl,b1,kc1,q1⟩;obtain⟨y0,y1⟩:=cells2 (kc1.row _ _ _ _ (heap_alloc_last wr _));have hS:=((hI.out.kc.trans (KC.of (L8.bnew wr _))).trans kc1).row _ _ _ _ HS.out;clear a0 a1))|(refine wpList_store_row rfl _ _ _ rfl (w.heap.size+1) #[.bool true,.int .i64 (kk:Int)] rfl rfl 106 _ hS (by kernel_rfl) rfl (by simp [Value.oneCell']) ?_))
    obtain⟨z0,z1⟩:=cells2 (setRow_heap _ _ _ #[.bool true,.int .i64 (kk:Int)] _ _ hS)
    exact bodyPost_ret (v:=.tuple #[.agg #[.bool true,.int .i64 (kk:Int)],.int .i64 ee]) (by simp [results,Tryz.results52,go_sem,z0,z1]) rfl ⟨rfl,below_setRow b1 (by omega) _⟩
  ·have a0:=cell_row (i:=8) (v:=.bool false) hg rfl
   have a1:=cell_row (i:=9) (v:=.func (.func 155) #[] #[.pointer (some ⟨b5,0,none⟩),.pointer (some ⟨f5,0,none⟩)]) hg rfl
   have hq:=frB_drop (cnd p) 4 (false,fe (dpE [] (p.stmts.map (fun s=>s.labs)))) rfl _ hL.out
   have HK:=Lib.hid (H4.out (wr.alloc (.cells #[.bool false,.func (.func 155) #[] #[.pointer (some ⟨b5,0,none⟩),.pointer (some ⟨f5,0,none⟩)]] 150)) (hI.out.below (L8.bnew wr _)))
   have hkg:=World.block_lt_of_cell? wr _ a0
   clear hg
   generalize fe (dpE [] (p.stmts.map (fun s=>s.labs)))=R at hq HK
   obtain⟨kk,ee⟩:=R
   simp only at hq HK
   have HQ:=Lib.hid hq
   clear hq hL
   by_cases h0:ee=0
   ·subst h0
    go_wp2_with (go_at_call 155;((with_reducible refine (HK.out).mono ?_);rintro e w1 ⟨rfl,b1,kc1,q1⟩))
    go_roundw
    case rel=>exact⟨5,by omega,by go_num,Lib.hid (q1 (by trivial)),Lib.hid (HQ.out.1 (by trivial))⟩
    case measure=>simp [intOf]
   ·obtain rfl:=HQ.out.2 h0
    go_wp2_with (first|(go_at_call 155;((with_reducible refine (HK.out).mono ?_);rintro e w1 ⟨rfl,b1,kc1,q1⟩;obtain⟨y0,y1⟩:=cells2 (kc1.row _ _ _ _ (heap_alloc_last wr _));have hS:=((hI.out.kc.trans (KC.of (L8.bnew wr _))).trans kc1).row _ _ _ _ HS.out;clear a0 a1))|(refine wpList_store_row rfl _ _ _ rfl (w.heap.size+1) #[.bool false,.int .i64 (kk:Int)] rfl rfl 106 _ hS (by kernel_rfl) rfl (by simp [Value.oneCell']) ?_))
    obtain⟨z0,z1⟩:=cells2 (setRow_heap _ _ _ #[.bool false,.int .i64 (kk:Int)] _ _ hS)
    exact bodyPost_ret (v:=.tuple #[.agg #[.bool false,.int .i64 (kk:Int)],.int .i64 ee]) (by simp [results,Tryz.results52,go_sem,z0,z1]) rfl ⟨rfl,below_setRow b1 (by omega) _⟩
  ·have a0:=cell_row (i:=10) (v:=.bool false) hg rfl
   have a1:=cell_row (i:=11) (v:=.func (.func 133) #[] #[.pointer (some ⟨k1,0,none⟩)]) hg rfl
   have hq:=frB_drop (cnd p) 5 (false,(0,if 0<p.stmts.length then 0 else 15)) rfl _ hL.out
   have HK:=Lib.hid (H5.out (wr.alloc (.cells #[.bool false,.func (.func 133) #[] #[.pointer (some ⟨k1,0,none⟩)]] 150)) (hI.out.below (L8.bnew wr _)))
   have hkg:=World.block_lt_of_cell? wr _ a0
   clear hg
   generalize (if 0<p.stmts.length then (0:Int) else 15)=ee at hq HK
   simp only at hq HK
   have HQ:=Lib.hid hq
   clear hq hL
   by_cases h0:ee=0
   ·subst h0
    go_wp2_with (go_at_call 133;((with_reducible refine (HK.out).mono ?_);rintro e w1 ⟨rfl,b1,kc1,q1⟩))
    go_roundw
    case rel=>exact⟨6,by omega,by go_num,Lib.hid (q1 (by trivial)),Lib.hid (HQ.out.1 (by trivial))⟩
    case measure=>simp [intOf]
   ·obtain rfl:=HQ.out.2 h0
    go_wp2_with (first|(go_at_call 133;((with_reducible refine (HK.out).mono ?_);rintro e w1 ⟨rfl,b1,kc1,q1⟩;obtain⟨y0,y1⟩:=cells2 (kc1.row _ _ _ _ (heap_alloc_last wr _));have hS:=((hI.out.kc.trans (KC.of (L8.bnew wr _))).trans kc1).row _ _ _ _ HS.out;clear a0 a1))|(refine wpList_store_row rfl _ _ _ rfl (w.heap.size+1) #[.bool false,.int .i64 0] rfl rfl 106 _ hS (by kernel_rfl) rfl (by simp [Value.oneCell']) ?_))
    obtain⟨z0,z1⟩:=cells2 (setRow_heap _ _ _ #[.bool false,.int .i64 0] _ _ hS)
    exact bodyPost_ret (v:=.tuple #[.agg #[.bool false,.int .i64 0],.int .i64 ee]) (by simp [results,Tryz.results52,go_sem,z0,z1]) rfl ⟨rfl,below_setRow b1 (by omega) _⟩
  ·have a0:=cell_row (i:=12) (v:=.bool false) hg rfl
   have a1:=cell_row (i:=13) (v:=.func (.func 155) #[] #[.pointer (some ⟨b7,0,none⟩),.pointer (some ⟨f7,0,none⟩)]) hg rfl
   have hq:=frB_drop (cnd p) 6 (false,fe (p.stmts.map (unE p))) rfl _ hL.out
   have HK:=Lib.hid (H6.out (wr.alloc (.cells #[.bool false,.func (.func 155) #[] #[.pointer (some ⟨b7,0,none⟩),.pointer (some ⟨f7,0,none⟩)]] 150)) (hI.out.below (L8.bnew wr _)))
   have hkg:=World.block_lt_of_cell? wr _ a0
   clear hg
   generalize fe (p.stmts.map (unE p))=R at hq HK
   obtain⟨kk,ee⟩:=R
   simp only at hq HK
   have HQ:=Lib.hid hq
   clear hq hL
   by_cases h0:ee=0
   ·subst h0
    go_wp2_with (go_at_call 155;((with_reducible refine (HK.out).mono ?_);rintro e w1 ⟨rfl,b1,kc1,q1⟩))
    go_roundw
    case rel=>exact⟨7,by omega,by go_num,Lib.hid (q1 (by trivial)),Lib.hid (HQ.out.1 (by trivial))⟩
    case measure=>simp [intOf]
   ·obtain rfl:=HQ.out.2 h0
    go_wp2_with (first|(go_at_call 155;((with_reducible refine (HK.out).mono ?_);rintro e w1 ⟨rfl,b1,kc1,q1⟩;obtain⟨y0,y1⟩:=cells2 (kc1.row _ _ _ _ (heap_alloc_last wr _));have hS:=((hI.out.kc.trans (KC.of (L8.bnew wr _))).trans kc1).row _ _ _ _ HS.out;clear a0 a1))|(refine wpList_store_row rfl _ _ _ rfl (w.heap.size+1) #[.bool false,.int .i64 (kk:Int)] rfl rfl 106 _ hS (by kernel_rfl) rfl (by simp [Value.oneCell']) ?_))
    obtain⟨z0,z1⟩:=cells2 (setRow_heap _ _ _ #[.bool false,.int .i64 (kk:Int)] _ _ hS)
    exact bodyPost_ret (v:=.tuple #[.agg #[.bool false,.int .i64 (kk:Int)],.int .i64 ee]) (by simp [results,Tryz.results52,go_sem,z0,z1]) rfl ⟨rfl,below_setRow b1 (by omega) _⟩
  ·have a0:=cell_row (i:=14) (v:=.bool false) hg rfl
   have a1:=cell_row (i:=15) (v:=.func (.func 155) #[] #[.pointer (some ⟨b8,0,none⟩),.pointer (some ⟨f8,0,none⟩)]) hg rfl
   have hq:=frB_drop (cnd p) 7 (false,fe (p.stmts.map wrE)) rfl _ hL.out
   have HK:=Lib.hid (H7.out (wr.alloc (.cells #[.bool false,.func (.func 155) #[] #[.pointer (some ⟨b8,0,none⟩),.pointer (some ⟨f8,0,none⟩)]] 150)) (hI.out.below (L8.bnew wr _)))
   have hkg:=World.block_lt_of_cell? wr _ a0
   clear hg
   generalize fe (p.stmts.map wrE)=R at hq HK
   obtain⟨kk,ee⟩:=R
   simp only at hq HK
   have HQ:=Lib.hid hq
   clear hq hL
   by_cases h0:ee=0
   ·subst h0
    go_wp2_with (go_at_call 155;((with_reducible refine (HK.out).mono ?_);rintro e w1 ⟨rfl,b1,kc1,q1⟩))
    go_roundw
    case rel=>exact⟨8,by omega,by go_num,Lib.hid (q1 (by trivial)),Lib.hid (HQ.out.1 (by trivial))⟩
    case measure=>simp [intOf]
   ·obtain rfl:=HQ.out.2 h0
    go_wp2_with (first|(go_at_call 155;((with_reducible refine (HK.out).mono ?_);rintro e w1 ⟨rfl,b1,kc1,q1⟩;obtain⟨y0,y1⟩:=cells2 (kc1.row _ _ _ _ (heap_alloc_last wr _));have hS:=((hI.out.kc.trans (KC.of (L8.bnew wr _))).trans kc1).row _ _ _ _ HS.out;clear a0 a1))|(refine wpList_store_row rfl _ _ _ rfl (w.heap.size+1) #[.bool false,.int .i64 (kk:Int)] rfl rfl 106 _ hS (by kernel_rfl) rfl (by simp [Value.oneCell']) ?_))
    obtain⟨z0,z1⟩:=cells2 (setRow_heap _ _ _ #[.bool false,.int .i64 (kk:Int)] _ _ hS)
    exact bodyPost_ret (v:=.tuple #[.agg #[.bool false,.int .i64 (kk:Int)],.int .i64 ee]) (by simp [results,Tryz.results52,go_sem,z0,z1]) rfl ⟨rfl,below_setRow b1 (by omega) _⟩
  ·have a0:=cell_row (i:=16) (v:=.bool false) hg rfl
   have a1:=cell_row (i:=17) (v:=.func (.func 155) #[] #[.pointer (some ⟨b9,0,none⟩),.pointer (some ⟨f9,0,none⟩)]) hg rfl
   have hq:=frB_drop (cnd p) 8 (false,fe (p.stmts.mapIdx (enE p.stmts.length))) rfl _ hL.out
   have HK:=Lib.hid (H8.out (wr.alloc (.cells #[.bool false,.func (.func 155) #[] #[.pointer (some ⟨b9,0,none⟩),.pointer (some ⟨f9,0,none⟩)]] 150)) (hI.out.below (L8.bnew wr _)))
   have hkg:=World.block_lt_of_cell? wr _ a0
   clear hg
   generalize fe (p.stmts.mapIdx (enE p.stmts.length))=R at hq HK
   obtain⟨kk,ee⟩:=R
   simp only at hq HK
   have HQ:=Lib.hid hq
   clear hq hL
   by_cases h0:ee=0
   ·subst h0
    go_wp2_with (go_at_call 155;((with_reducible refine (HK.out).mono ?_);rintro e w1 ⟨rfl,b1,kc1,q1⟩))
    go_roundw
    case rel=>exact⟨9,by omega,by go_num,Lib.hid (q1 (by trivial)),Lib.hid (HQ.out.1 (by trivial))⟩
    case measure=>simp [intOf]
   ·obtain rfl:=HQ.out.2 h0
    go_wp2_with (first|(go_at_call 155;((with_reducible refine (HK.out).mono ?_);rintro e w1 ⟨rfl,b1,kc1,q1⟩;obtain⟨y0,y1⟩:=cells2 (kc1.row _ _ _ _ (heap_alloc_last wr _));have hS:=((hI.out.kc.trans (KC.of (L8.bnew wr _))).trans kc1).row _ _ _ _ HS.out;clear a0 a1))|(refine wpList_store_row rfl _ _ _ rfl (w.heap.size+1) #[.bool false,.int .i64 (kk:Int)] rfl rfl 106 _ hS (by kernel_rfl) rfl (by simp [Value.oneCell']) ?_))
    obtain⟨z0,z1⟩:=cells2 (setRow_heap _ _ _ #[.bool false,.int .i64 (kk:Int)] _ _ hS)
    exact bodyPost_ret (v:=.tuple #[.agg #[.bool false,.int .i64 (kk:Int)],.int .i64 ee]) (by simp [results,Tryz.results52,go_sem,z0,z1]) rfl ⟨rfl,below_setRow b1 (by omega) _⟩
  ·have hr:rr=(false,0,0):=by rw [← hL.out];rfl
   subst hr
   have hS:=hI.out.kc.row _ _ _ _ HS.out
   have hb:=hI.out.bel
   clear hg hL
   go_wp2_with (refine wpList_store_row rfl _ _ _ rfl (w.heap.size+1) #[.bool false,.int .i64 0] rfl rfl 106 _ hS (by kernel_rfl) rfl (by simp [Value.oneCell']) ?_)
   obtain⟨z0,z1⟩:=cells2 (setRow_heap _ _ _ #[.bool false,.int .i64 0] _ _ hS)
   exact bodyPost_ret (v:=.tuple #[.agg #[.bool false,.int .i64 0],.int .i64 0]) (by simp [results,Tryz.results52,go_sem,z0,z1]) rfl ⟨rfl,below_setRow hb (by omega) _⟩
theorem check_at (vm vs:Value) (p:Pg) (w:World) (hp:PgAt w vm vs p) (hf:Fits p) (hT:L1.Wid w∧L2.Regs w) (b:Bool) (k:Nat) (er:Int) (hr:brV p=(b,k,er)) :
  Calls Tryz.prog 24 #[.agg #[vm,vs]] w fun e w'=>e=.returned (.tuple #[.int .i64 (k:Int),.int .i64 er])∧Below w.heap.size w w':=by
 have HB:=Lib.hid (fun (W:World) (hb:Below w.heap.size w W)=>breach_at vm vs p W (hp.below hb) hf ⟨L4.wid_below hT.1 hb,hT.2.below hb⟩ _ hr)
 obtain⟨nm,hnm⟩:∃ n,p.maps.length=n:=⟨_,rfl⟩
 obtain⟨am,cm,rfl,-⟩:=df_form hnm hp.1
 obtain⟨ns,hns⟩:∃ n,p.stmts.length=n:=⟨_,rfl⟩
 obtain⟨at2,cs,rfl,-⟩:=sm_form hns hp.2
 clear hp hf hT hr hnm hns
 go_enter Tryz.func24,Tryz.ntmps24
 go_wp2_with (go_at_call 52;((with_reducible refine (HB.out _ (L8.bnew w _)).mono ?_);rintro e w1 ⟨rfl,b1⟩))
 go_ret2
 exact⟨rfl,L2.bch (L2.bch (L8.bnew w _) b1) (L8.bnew _ _)⟩
end Go.Proofs.YtohkgdfkklfgmaaGreatDoor.L10
end
