/- Lemmas and walks of L15Sm, L16Sm, L14Mm, L14Rb, L14It, L10Opn, L9Rsm, L8Small, L9Rmem, L10Opw, L0Tab, L8Rlin: what each theorem states; conditions stand in each theorem. -/
import Derived.Test.YtdgnjhhieemcaaaGreatDoorM3
import Derived.WalkSpells
import Derived.Deep.Slices
import Derived.Lib.BytesEntry
import Derived.RangeFuncNested
import Derived.RangeFuncBound
import Derived.Shelf.RegionOpen
import Derived.OwnWalkIn
import Derived.LoopNIn
import Derived.LoopIn
import Derived.StillTail
set_option maxHeartbeats 1000000
set_option maxRecDepth 100000
section
namespace Go.Proofs.YtdgnjhhieemcaaaGreatDoor.L15
abbrev Sc:=Int × List UInt8
def up (n:Nat):Nat:=(n+7) / 8*8
def tot:List Sc→Nat
 | []=>0
 | s::r=>up s.2.length+tot r
def hd (n:Nat):Nat:=up (16+12*n)
def szL (l:List Sc):Nat:=hd l.length+tot l
def asc:Int→List Sc→Bool
 | _,[]=>true
 | k,s::r=>decide (k<s.1) && decide (s.1≤65535) && asc s.1 r
def zs (n:Nat):List UInt8:=List.replicate (up n-n) 0
def le:Nat→Nat→List UInt8
 | 0,_=>[]
 | n+1,z=>UInt8.ofNat (z % 256)::le n (z / 256)
def va:List UInt8→Nat
 | []=>0
 | c::l=>c.toNat+256*va l
def row (s:Sc) (a:Nat):List UInt8:=le 4 s.1.toNat++le 4 a++le 4 s.2.length
def rows:Nat→List Sc→List UInt8
 | _,[]=>[]
 | a,s::r=>row s a++rows (a+up s.2.length) r
def body:List Sc→List UInt8
 | []=>[]
 | s::r=>s.2++zs s.2.length++body r
def hea (l:List Sc):List UInt8:=[83,76,67,49]++le 2 1++le 2 l.length++le 4 (szL l)++le 4 0
def tab (l:List Sc):List UInt8:=hea l++rows (hd l.length) l
def frt (l:List Sc):List UInt8:=tab l++zs (16+12*l.length)
def wr (l:List Sc):List UInt8:=frt l++body l
def sub (b:List UInt8) (i n:Nat):List UInt8:=(b.drop i).take n
def atN (b:List UInt8) (i:Nat):Nat:=va (sub b (20+12*i) 4)
def lnN (b:List UInt8) (i:Nat):Nat:=va (sub b (24+12*i) 4)
def okR (b:List UInt8) (i:Nat):Prop:=16+12*i+12≤b.length∧atN b i+lnN b i≤b.length
instance (b:List UInt8) (i:Nat):Decidable (okR b i):=by unfold okR;infer_instance
end Go.Proofs.YtdgnjhhieemcaaaGreatDoor.L15
end
section
namespace Go.Proofs.YtdgnjhhieemcaaaGreatDoor.L16
open L15
def e4 (z:Int):List UInt8:=le 4 z.toNat
end Go.Proofs.YtdgnjhhieemcaaaGreatDoor.L16
end
section
namespace Go.Proofs.YtdgnjhhieemcaaaGreatDoor.L14
open Go.RowKit
attribute [local go_sem] Oper.semAt_some
theorem bch {w a b:World} (h:Below w.heap.size w a) (k:Below a.heap.size a b):Below w.heap.size w b:=h.trans (k.mono h.size)
theorem bnew (w:World) (o:Obj):Below w.heap.size w (w.alloc o):=(Below.refl _ _).alloc (Nat.le_refl _) _
theorem bdN {B:Nat} {w w':World} (h:Below B w w') (m:Nat):Below B w (w'.drewN m):=⟨h.1,h.2,h.3,h.4,h.5⟩
theorem cell_new (w:World) (v:Value) (t:TypeId):(w.alloc (.cells #[v] t)).cell? ⟨w.heap.size,0,none⟩=some v:=by
 have h:=heap_alloc_new w (.cells #[v] t)
 unfold World.cell?
 simp only [h];rfl
abbrev eB (c:UInt8):Value:=.int .u8 (c.toNat:Int)
def Rw {α:Type} (enc:α→Value) (w:World) (v:Value) (l:List α):Prop :=
 ∃ a c,v=.slice a l.length c∧l.length≤c∧(a=none→c=0)∧(0<l.length→∃ b o,a=some ⟨b,o,none⟩∧b<w.heap.size∧∀ j,(h:j<l.length)→w.cell? ⟨b,o+j,none⟩=some (enc l[j]))
theorem Rw.below {α:Type} {enc:α→Value} {w w':World} {v:Value} {l:List α} (h:Rw enc w v l) (hb:Below w.heap.size w w'):Rw enc w' v l:=by
 obtain⟨a,c,hv,h1,h2,h3⟩:=h
 refine⟨a,c,hv,h1,h2,fun hp=>?_⟩
 obtain⟨b,o,e,hlt,hc⟩:=h3 hp
 exact⟨b,o,e,Nat.lt_of_lt_of_le hlt hb.size,fun j hj=>(hb.cell (by exact hlt)).trans (hc j hj)⟩
theorem Rw.form {α:Type} {enc:α→Value} {w:World} {v:Value} {l:List α} {n:Nat} (hn:l.length=n) (h:Rw enc w v l):∃ a c,v=.slice a n c∧n≤c∧(a=none→c=0)∧(0<n→∃ b o,a=some ⟨b,o,none⟩∧b<w.heap.size∧∀ j,(h:j<l.length)→w.cell? ⟨b,o+j,none⟩=some (enc l[j])):=by
 subst hn;exact h
theorem Rw.nil {α:Type} (enc:α→Value) (w:World):Rw enc w (.slice none 0 0) ([]:List α):=⟨none,0,rfl,Nat.le_refl _,fun _=>rfl,fun h=>absurd h (by simp)⟩
theorem Rw.own {α:Type} {enc:α→Value} {w:World} {B e:TypeId} {v:Value} {l:List α} (h:w.ownsRow B e 1 v l.length (l.map enc)):Rw enc w v l:=by
 rcases h.2 with ⟨rfl,hn⟩|⟨g,cap,cur,rfl,hb,hg,hnc,hcm,hcs,htk⟩
 ·have h0:l=[]:=List.eq_nil_of_length_eq_zero hn
  subst h0
  exact Rw.nil _ _
 ·refine⟨_,_,rfl,by omega,fun h=>(by cases h),fun _=>⟨g,0,rfl,lt_of_block hg,fun j hj=>?_⟩⟩
  have h1:(cur.toList.take (l.length*1))[j]?=some (enc l[j]):=by
   rw [htk];simp [hj]
  rw [List.getElem?_take] at h1
  split at h1
  ·rw [Nat.zero_add]
   simpa [World.cell?,hg] using h1
  ·cases h1
theorem owns_slice {w:World} {base e:TypeId} {size:Nat} {v:Value} {n:Nat} {xs:List Value} (h:w.ownsRow base e size v n xs):∃ a c,v=.slice a n c:=by
 rcases h.2 with ⟨rfl,rfl⟩|⟨g,cap,cur,rfl,_⟩
 ·exact⟨_,_,rfl⟩
 ·exact⟨_,_,rfl⟩
theorem infoInt:(Tryz.prog.info? 3).map (fun i=>(i.zero,i.size,i.bytes))=some (some (.int .i64 0),1,8):=by kernel_rfl
end Go.Proofs.YtdgnjhhieemcaaaGreatDoor.L14
end
section
namespace Go.Proofs.YtdgnjhhieemcaaaGreatDoor.L14
open Go.RowKit Go.Shelf
attribute [local go_sem] Oper.semAt_some
theorem Boxed.below {W W':World} {B:Nat} {t:TypeId} {v:Value} (h:Boxed W B t v) (hb:Below W.heap.size W W'):Boxed W' B t v:=(hb.block B h.lt).trans h
end Go.Proofs.YtdgnjhhieemcaaaGreatDoor.L14
end
section
namespace Go.Proofs.YtdgnjhhieemcaaaGreatDoor.L10
open Go.ChangeShapes Go.WideShapes Go.ChangeAt Go.RowKit Go.Deep
structure DfFit (d:L9.Df):Prop where
 nm:d.nm.size≤maxLen
 key:(Lit.int .i64 d.key).wf=true
 val:(Lit.int .i64 d.val).wf=true
 ent:(Lit.int .i64 d.ent).wf=true
theorem list_of {α:Type} {P:Nat→α→Prop}:∀ n:Nat,(∀ i,i<n→∃ x,P i x)→∃ l:List α,l.length=n∧∀ i,(hi:i<l.length)→P i l[i]
 | 0,_=>⟨[],rfl,fun i hi=>absurd hi (by simp)⟩
 | n+1,h=>by
  obtain⟨l,hl,hp⟩:=list_of n (fun i hi=>h i (by omega))
  obtain⟨x,hx⟩:=h n (by omega)
  refine⟨l++[x],by simp [hl],fun i hi=>?_⟩
  by_cases hlt:i<l.length
  ·rw [List.getElem_append_left hlt];exact hp i hlt
  ·have:i=n:=by simp at hi;omega
   subst this
   rw [List.getElem_append_right (by omega)]
   simpa [hl] using hx
theorem cD:Tryz.prog.cellsOf 83=4:=by kernel_rfl
theorem cT:Tryz.prog.cellsOf 9=1:=by kernel_rfl
theorem cN:Tryz.prog.cellsOf 3=1:=by kernel_rfl
def InAt (w:World) (v:Value) (l:List Int):Prop :=
 (∃ b o cap,v=.slice (some ⟨b,o,none⟩) l.length cap∧b<w.heap.size∧∀ j,(h:j<l.length)→w.cell? ⟨b,o+j,none⟩=some (.int .i64 l[j]))∨(l=[]∧∃ a cap,v=.slice a 0 cap)
theorem cells2p {w:World} {k:Nat} {a b:Value} {t:TypeId} (h:w.heap[k]?=some (.cells #[a,b] t)):w.cell? ⟨k,0,none⟩=some a∧w.cell? ⟨k,1,none⟩=some b:=by
 simp [World.cell?,h]
theorem InAt.below {w w':World} {v:Value} {l:List Int} (h:InAt w v l) (hb:Below w.heap.size w w'):InAt w' v l:=by
 rcases h with ⟨b,o,cap,rfl,hlt,hc⟩|h
 ·exact .inl ⟨b,o,cap,rfl,Nat.lt_of_lt_of_le hlt hb.size,fun j hj=>(hb.cell (by exact hlt)).trans (hc j hj)⟩
 ·exact .inr h
theorem in_form {w:World} {v:Value} {l:List Int} {n:Nat} (hn:l.length=n) (h:InAt w v l):∃ a c,v=.slice a n c∧(0<n→∃ b o,a=some ⟨b,o,none⟩∧b<w.heap.size∧∀ j,(h:j<l.length)→w.cell? ⟨b,o+j,none⟩=some (.int .i64 l[j])):=by
 subst hn
 rcases h with ⟨b,o,cap,rfl,hb,hc⟩|⟨rfl,a,cap,rfl⟩
 ·exact⟨_,_,rfl,fun _=>⟨b,o,rfl,hb,hc⟩⟩
 ·exact⟨a,cap,rfl,fun h=>absurd h (by simp)⟩
section
variable {H:Type} {enc:TypeId × Value→H} {W:World} {base:Nat} {sp:Nat→Bool} {held:Bool}
theorem open_def {fuel:Nat} {cs:List Value} {x:DataW H × List MemPlace} (h:DataW.trod enc Tryz.prog W base sp held fuel 83 cs=some x) :
  ∃ d:L9.Df,cs=dfL d∧DfFit d:=by
 obtain⟨xs,n,_,_,hcl,hlen,hg⟩:=DataW.trod_struct Tryz.underlying83 h
 rw [cD] at hcl
 match cs,hcl,xs,hlen with
 | [c0,c1,c2,c3],_,[y0,y1,y2,y3],_ =>
  have g0:DataW.trod enc Tryz.prog W base sp held n 9 [c0]=some y0:=by simpa [cT] using hg 0 _ rfl
  have g1:DataW.trod enc Tryz.prog W base sp held n 3 [c1]=some y1:=by simpa [cN] using hg 1 _ rfl
  have g2:DataW.trod enc Tryz.prog W base sp held n 3 [c2]=some y2:=by simpa [cN] using hg 2 _ rfl
  have g3:DataW.trod enc Tryz.prog W base sp held n 3 [c3]=some y3:=by simpa [cN] using hg 3 _ rfl
  obtain⟨s0,e0,-,k0⟩:=DataW.trod_string Tryz.underlying9 g0
  obtain⟨n1,e1,-,k1⟩:=DataW.trod_int Tryz.underlying3 g1
  obtain⟨n2,e2,-,k2⟩:=DataW.trod_int Tryz.underlying3 g2
  obtain⟨n3,e3,-,k3⟩:=DataW.trod_int Tryz.underlying3 g3
  simp only [List.cons.injEq,and_true] at e0 e1 e2 e3
  subst e0 e1 e2 e3
  exact⟨⟨s0,n1,n2,n3⟩,rfl,k0,k1,k2,k3⟩
theorem open_defs {fuel:Nat} {cs:List Value} {x:DataW H × List MemPlace} (h:DataW.trod enc Tryz.prog W base sp held fuel 22 cs=some x) :
  ∃ v l,cs=[v]∧DfAt W v l∧∀ d∈l,DfFit d:=by
 rcases open_slice Tryz.underlying22 h with ⟨hcs,-⟩|⟨a,len,cap,m,n,D,Pl,hcs,-,hl,-,hmm,-,hi⟩
 ·exact⟨_,[],hcs,.inr ⟨rfl,none,0,rfl⟩,by simp⟩
 ·rw [cD] at hi
  have each:∀ i,i<len→∃ d:L9.Df,DfFit d∧∀ k u,(dfL d)[k]?=some u→W.cell? (a.add (i*4+k))=some u:=by
   intro i hil
   obtain⟨cs',hc,ht⟩:=hi i (by split at hmm <;> omega)
   obtain⟨d,hd,hfit⟩:=open_def ht
   obtain⟨_,hcl,hat⟩:=World.cells?_some hc
   refine⟨d,hfit,fun k u hu=>?_⟩
   have hk:k<4:=by
    have:=(List.getElem?_eq_some_iff.1 hu).1
    simpa using this
   rw [← Go.Deep.add_add,hat k hk,hd];exact hu
  obtain⟨l,hll,hp⟩:=list_of len each
  subst hll
  refine⟨_,l,hcs,?_,fun d hd=>?_⟩
  ·by_cases h0:l=[]
   ·exact .inr ⟨h0,some a,cap,by rw [h0];rfl⟩
   ·have hpos:0<l.length:=List.length_pos_iff.2 h0
    have hc0:=(hp 0 hpos).2 0 _ rfl
    obtain⟨b,off,spot⟩:=a
    have hspot:spot=none:=by simpa [Addr.add] using World.cell?_spot hc0
    subst hspot
    have hb:=World.block_lt_of_cell? W _ hc0
    refine .inl ⟨b,off,cap,rfl,hb,fun j hj i u hu=>?_⟩
    rw [Nat.add_assoc,← add_plain]
    exact (hp j hj).2 i u hu
  ·obtain⟨i,hi,rfl⟩:=List.mem_iff_getElem.1 hd
   exact (hp i hi).1
end
end Go.Proofs.YtdgnjhhieemcaaaGreatDoor.L10
end
section
namespace Go.Proofs.YtdgnjhhieemcaaaGreatDoor.L9
open Go.RowKit
attribute [local go_sem] Oper.semAt_some
theorem beqt_ne {s:ByteArray} {l:List UInt8} (h:¬ s=⟨l.toArray⟩):(s.toList==l)=false:=by
 have:=L2.txt_ne h
 rwa [Lib.toList_data ⟨l.toArray⟩,List.toList_toArray] at this
theorem st_cells {w:World} {k:Nat} {l:List ByteArray} {t:TypeId} (h:w.heap[k]?=some (.cells (L8.stC l).toArray t)):L8.StAt w (.slice (some ⟨k,0,none⟩) l.length l.length) l:=by
 refine .inl ⟨k,0,_,rfl,lt_of_block h,fun j hj=>?_⟩
 simp [World.cell?,h,L8.stC,List.getD,List.getElem?_eq_getElem hj]
theorem st_new (w:World) (l:List ByteArray) (t:TypeId):L8.StAt (w.alloc (.cells (L8.stC l).toArray t)) (.slice (some ⟨w.heap.size,0,none⟩) l.length l.length) l:=st_cells (heap_alloc_last w _)
end Go.Proofs.YtdgnjhhieemcaaaGreatDoor.L9
end
section
namespace Go.Proofs.YtdgnjhhieemcaaaGreatDoor.L8
open Go.RowKit L2
attribute [local go_sem] Oper.semAt_some
def spI (r:Int):Bool:=r==32 || r==9 || r==13
def cmI (r:Int):Bool:=r==59 || r==35
theorem cl_high {r:Int} (h:128≤r):spI r=false∧cmI r=false∧puI r=false:=by
 refine⟨?_,?_,?_⟩
 ·have h1:¬ r=32:=by omega
  have h2:¬ r=9:=by omega
  have h3:¬ r=13:=by omega
  simp [spI,h1,h2,h3]
 ·have h1:¬ r=59:=by omega
  have h2:¬ r=35:=by omega
  simp [cmI,h1,h2]
 ·have h1:¬ r=44:=by omega
  have h2:¬ r=91:=by omega
  have h3:¬ r=93:=by omega
  have h4:¬ r=43:=by omega
  have h5:¬ r=45:=by omega
  have h6:¬ r=58:=by omega
  simp [puI,h1,h2,h3,h4,h5,h6]
theorem cl_byte (c:UInt8):spI (c.toNat:Int)=spc c∧cmI (c.toNat:Int)=cmt c∧puI (c.toNat:Int)=pun c:=by
 have h:∀ n,n<256→(fun c:UInt8=>spI (c.toNat:Int)=spc c∧cmI (c.toNat:Int)=cmt c∧puI (c.toNat:Int)=pun c) (UInt8.ofNat n):=by decide +kernel
 have:=h c.toNat c.toNat_lt
 simpa using this
theorem cl_decode (t:ByteArray) (pos:Nat) (h:pos<t.size):spI (Utf8.decode t pos).1=spc (t[pos]'h)∧cmI (Utf8.decode t pos).1=cmt (t[pos]'h)∧puI (Utf8.decode t pos).1=pun (t[pos]'h):=by
 by_cases ha:(t[pos]'h).toNat<128
 ·rw [decode_ascii t pos h ha]
  exact cl_byte _
 ·have h1:=decode_high t pos h (by omega)
  obtain⟨a1,a2,a3⟩:=cl_high (r:=(Utf8.decode t pos).1) (by omega)
  obtain⟨b1,b2,b3⟩:=cl_byte (t[pos]'h)
  obtain⟨c1,c2,c3⟩:=cl_high (r:=((t[pos]'h).toNat:Int)) (by omega)
  exact⟨by rw [a1,← b1,c1],by rw [a2,← b2,c2],by rw [a3,← b3,c3]⟩
theorem decode_cl (t:ByteArray) (pos:Nat) (h:pos<t.size) (hd:spc (t[pos]'h)=true∨pun (t[pos]'h)=true∨wb (t[pos]'h)=true):(Utf8.decode t pos).2=1:=by
 by_cases ha:(t[pos]'h).toNat<128
 ·rw [decode_ascii t pos h ha]
 ·obtain⟨b1,b2,b3⟩:=cl_byte (t[pos]'h)
  obtain⟨c1,c2,c3⟩:=cl_high (r:=((t[pos]'h).toNat:Int)) (by omega)
  have hw:wb (t[pos]'h)=false:=wch_high (by omega)
  rw [← b1,← b3,c1,c3,hw] at hd
  simp at hd
theorem isSpace_any (r:Int) (w:World):Calls Tryz.prog 222 #[.int .i32 r] w fun e w'=>e=.returned (.bool (spI r))∧w=w':=by
 go_enter Tryz.func222,Tryz.ntmps222
 go_wp2
 all_goals
  go_ret
  exact⟨ret_bool (by rw [Bool.eq_iff_iff];simp [spI];try omega),rfl⟩
theorem isSpace_at (r:Int) (b:Bool) (w:World) (h:spI r=b):Calls Tryz.prog 222 #[.int .i32 r] w fun e w'=>e=.returned (.bool b)∧w=w':=by
 subst h;exact isSpace_any r w
theorem isCmt_any (r:Int) (w:World):Calls Tryz.prog 223 #[.int .i32 r] w fun e w'=>e=.returned (.bool (cmI r))∧w=w':=by
 go_enter Tryz.func223,Tryz.ntmps223
 go_wp2
 all_goals
  go_ret
  exact⟨ret_bool (by rw [Bool.eq_iff_iff];simp [cmI];try omega),rfl⟩
theorem isCmt_at (r:Int) (b:Bool) (w:World) (h:cmI r=b):Calls Tryz.prog 223 #[.int .i32 r] w fun e w'=>e=.returned (.bool b)∧w=w':=by
 subst h;exact isCmt_any r w
theorem isMark_any (r:Int) (w:World):Calls Tryz.prog 225 #[.int .i32 r] w fun e w'=>e=.returned (.bool (puI r))∧w=w':=by
 go_enter Tryz.func225,Tryz.ntmps225
 go_wp2
 all_goals
  go_ret
  exact⟨ret_bool (by simp only [puI];simp only [*];rfl),rfl⟩
theorem isMark_at (r:Int) (b:Bool) (w:World) (h:puI r=b):Calls Tryz.prog 225 #[.int .i32 r] w fun e w'=>e=.returned (.bool b)∧w=w':=by
 subst h;exact isMark_any r w
end Go.Proofs.YtdgnjhhieemcaaaGreatDoor.L8
end
section
namespace Go.Proofs.YtdgnjhhieemcaaaGreatDoor.L9
open Go.RowKit
attribute [local go_sem] Oper.semAt_some
abbrev c6 (op:Int) (reg:Bool) (dst src off imm:Int):Array Value:=#[.int .i64 op,.bool reg,.int .i64 dst,.int .i64 src,.int .i64 off,.int .i64 imm]
theorem st_from (k o n cap a:Nat) (h:a≤n) (hc:n≤cap) (w:World) :
  (Instr.slice 63 (.slice (some ⟨k,o,none⟩) n cap) (some (.int .i64 (a:Int))) none none).run Tryz.prog w=.ok (.slice (some ⟨k,if cap=a then o else o+a,none⟩) (n-a) (cap-a)) w:=by
 have h2:a≤cap:=by omega
 by_cases hq:cap=a <;> simp [go_sem,Tryz.underlying63,h,hq]
end Go.Proofs.YtdgnjhhieemcaaaGreatDoor.L9
end
section
namespace Go.Proofs.YtdgnjhhieemcaaaGreatDoor.L10
open Go.ChangeShapes Go.WideShapes Go.ChangeAt Go.RowKit Go.Deep
def Wt {H:Type} (t:TypeId) (d:DataW H):Prop:=∀ n∈d.weights Tryz.prog t,n≤reachBytes
section
variable {H:Type} {enc:TypeId × Value→H} {W:World} {base:Nat} {sp:Nat→Bool} {held:Bool}
end
end Go.Proofs.YtdgnjhhieemcaaaGreatDoor.L10
end
section
namespace Go.Proofs.YtdgnjhhieemcaaaGreatDoor.Tab
open Go
section
variable {P:Program} {md:Region.Mode} {ops:Array Oper} {Q:Exit→Act→World→Prop} {S:World→Prop}
def NoQ:Exit→Act→World→Prop:=fun _ _ _=>False
theorem put_at {aF a:Act} {d:Option Tmp} {u v:Value} (hv:∀ t,d=some t→aF.tmps[t]?=some v) (h:aF.put d u=aF):a.put d u=a.put d v:=by
 cases d with
 | none=>rfl
 | some t =>
  have h1:=hv t rfl
  have h2:=congrArg (fun b:Act=>b.tmps[t]?) h
  simp only [Act.put] at h2
  have hlt:t<aF.tmps.size:=(Array.getElem?_eq_some_iff.1 h1).1
  rw [h1] at h2
  simp [hlt] at h2
  rw [h2]
def tabOk (md:Region.Mode) (ops:Array Oper) (n:Nat):Bool :=
 Region.noSelect ops && (List.range ops.size).all fun i=>match ops[i]? with
  | none=>true
  | some x=>(x.after.all fun e=>!Region.binds md e || decide (e.on<i)) && match x.dst with
   | none=>true
   | some d=>decide (d<n) && (List.range ops.size).all fun j=>match ops[j]? with
    | none=>true
    | some y=>(i==j || y.dst != some d) && (!(y.looksAt ops).contains d || y.after.any fun e=>Region.binds md e && e.on==i)
structure Tk (md:Region.Mode) (ops:Array Oper) (n:Nat):Prop where
 sel:∀ (i:Nat) (o:Oper),ops[i]?=some o→∀ cs b,o.op≠.select cs b
 lt:∀ (i:Nat) (o:Oper),ops[i]?=some o→∀ e∈o.after,Region.binds md e=true→e.on<i
 dst:∀ (i:Nat) (o:Oper) (d:Nat),ops[i]?=some o→o.dst=some d→d<n
 one:∀ (i:Nat) (o:Oper) (d:Nat),ops[i]?=some o→o.dst=some d→∀ (j:Nat) (y:Oper),ops[j]?=some y→y.dst=some d→i=j
 look:∀ (i:Nat) (o:Oper) (d:Nat),ops[i]?=some o→o.dst=some d→∀ (j:Nat) (y:Oper),ops[j]?=some y→d∈y.looksAt ops→∃ e∈y.after,Region.binds md e=true∧e.on=i
theorem tk_of {n:Nat} (h:tabOk md ops n=true):Tk md ops n:=by
 unfold tabOk at h
 rw [Bool.and_eq_true,List.all_eq_true] at h
 obtain⟨h1,h2⟩:=h
 have key:∀ (i:Nat) (o:Oper),ops[i]?=some o→(∀ e∈o.after,Region.binds md e=true→e.on<i)∧∀ d,o.dst=some d→d<n∧∀ (j:Nat) (y:Oper),ops[j]?=some y→(i=j∨y.dst≠some d)∧(d∈y.looksAt ops→∃ e∈y.after,Region.binds md e=true∧e.on=i):=by
  intro i o ho
  have:=h2 i (List.mem_range.2 (Array.getElem?_eq_some_iff.1 ho).1)
  simp only [ho,Bool.and_eq_true,Array.all_eq_true_iff_forall_mem,Bool.or_eq_true,Bool.not_eq_true',decide_eq_true_eq] at this
  refine⟨fun e he hb=>(this.1 e he).resolve_left (by rw [hb];simp),fun d hd=>?_⟩
  have t2:=this.2
  rw [hd] at t2
  simp only [Bool.and_eq_true,decide_eq_true_eq,List.all_eq_true] at t2
  refine⟨t2.1,fun j y hj=>?_⟩
  have t3:=t2.2 j (List.mem_range.2 (Array.getElem?_eq_some_iff.1 hj).1)
  simp only [hj,Bool.and_eq_true,Bool.or_eq_true,beq_iff_eq,bne_iff_ne,ne_eq,Bool.not_eq_true'] at t3
  refine⟨t3.1,fun hm=>?_⟩
  have t4:=t3.2.resolve_left (by simpa using hm)
  rw [Array.any_eq_true] at t4
  obtain⟨q,hq,hb⟩:=t4
  obtain⟨e,he'⟩:∃ e,y.after[q]=e:=⟨_,rfl⟩
  rw [he'] at hb
  have he:e∈y.after:=he' ▸ Array.getElem_mem _
  simp only [Bool.and_eq_true,beq_iff_eq] at hb
  exact⟨e,he,hb⟩
 exact⟨fun i o ho cs b=>Region.noSelect_spec h1 i o cs b ho,fun i o ho=>(key i o ho).1,fun i o d ho hd=>((key i o ho).2 d hd).1,fun i o d ho hd j y hj hy=>(((key i o ho).2 d hd).2 j y hj).1.resolve_right (fun h=>h hy),fun i o d ho hd j y hj=>(((key i o ho).2 d hd).2 j y hj).2⟩
def left (ops:Array Oper) (listed:Array Bool):List Nat:=(List.range ops.size).filter fun i=>!listed.getD i true
theorem left_set {listed:Array Bool} {i:Nat} (hl:listed.size=ops.size) (hi:i<ops.size) (h:listed.getD i true=false):(left ops (listed.setIfInBounds i true)).length<(left ops listed).length:=by
 have e:left ops (listed.setIfInBounds i true)=(left ops listed).filter fun j=>!(listed.setIfInBounds i true).getD j true:=by
  unfold left
  rw [List.filter_filter]
  refine List.filter_congr fun j hj=>?_
  by_cases hij:i=j
  ·subst hij
   simp [hl,hi]
  ·rw [getD_set_ne true hij];simp
 rw [e]
 refine List.length_filter_lt_length_iff_exists.2 ⟨i,?_,?_⟩
 ·unfold left
  exact List.mem_filter.2 ⟨List.mem_range.2 hi,by rw [h];rfl⟩
 ·simp [hl,hi]
def AtV (P:Program) (ops:Array Oper) (S:World→Prop) (a:Act) (v:Value) (o:Oper) (w:World):Prop :=
 if Region.wanted o (yielded ops a.tmps) then o.wp P a w (fun a' w'=>a'=a.put o.dst v∧S w') NoQ else v=undef
def T (P:Program) (ops:Array Oper) (S:World→Prop) (Q:Exit→Act→World→Prop):List Oper→Act→Prop
 | [],a=>∀ w,S w→Q .normal a w
 | o::r,a=>∃ v,(∀ w,S w→AtV P ops S a v o w)∧T P ops S Q r (a.put o.dst v)
theorem wpOp_at {i:Nat} {o:Oper} {a:Act} {v:Value} {w:World} (ho:ops[i]?=some o) (hS:S w) (h:AtV P ops S a v o w):wpOp P ops Q i (fun a' w'=>a'=a.put o.dst v∧S w') a w:=by
 unfold wpOp
 simp only [ho]
 unfold AtV at h
 split
 ·rename_i hc
  rw [if_pos hc] at h
  refine .inl ?_
  unfold Oper.wp at *
  generalize (execOp a.eval o).run P w=r at *
  cases r with
  | ok n w' =>
   cases n <;> simp only [Oper.upon] at h ⊢
   case value u=>exact h
   case skip=>exact h
   case defer d=>exact h
   case enter f args =>
    refine Calls.mono h fun e w'' he=>?_
    cases e with
    | returned u=>exact he
    | panicked c=>exact absurd he (fun h=>h)
    | outgrown=>obtain⟨_,_,h⟩:=he;exact absurd h (fun h=>h)
   case row row args=>exact Rows.mono h fun u w'' he=>he
  | halt x w' =>
   cases x <;> simp only [Oper.upon] at h ⊢
   case panic u=>exact absurd h (fun h=>h)
 ·rename_i hc
  rw [if_neg hc] at h
  rw [h]
  exact⟨rfl,hS⟩
theorem t_ops:∀ (n k:Nat) (a:Act) (w:World),n+k=ops.size→T P ops S Q (ops.toList.drop k) a→S w→wpOps P ops Q ((List.range ops.size).drop k) a w
 | 0,k,a,w,hn,h,hS=>by
  rw [List.drop_of_length_le (by simp;omega)] at h ⊢
  exact h w hS
 | n+1,k,a,w,hn,h,hS=>by
  have hk:k<ops.toList.length:=by simp;omega
  rw [List.drop_eq_getElem_cons hk] at h
  rw [List.drop_eq_getElem_cons (by simp;omega),wpOps_cons]
  obtain⟨v,h1,h2⟩:=h
  have e:(List.range ops.size)[k]'(by simp;omega)=k:=by simp
  rw [e]
  refine wpOp_mono (fun a' w' h3=>?_) (wpOp_at (o:=ops.toList[k]) (by simp at hk;simp [hk]) hS (h1 w hS))
  obtain⟨rfl,hS'⟩:=h3
  exact t_ops n (k+1) _ w' (by omega) h2 hS'
theorem regionS {id:Nat} {a:Act} {w:World} (S:World→Prop) (hS:S w) (h:T P ops S Q ops.toList a):(Code.region id ops false).wp P Q a w :=
 wp_region (by have:=t_ops (P:=P) (ops:=ops) (Q:=Q) (S:=S) ops.size 0 a w rfl h hS;exact this)
abbrev Kl:=List (Nat × Value)
def kf (K:Kl) (t:Nat):Option Value:=match K with
 | []=>none
 | p::r=>if p.1=t then some p.2 else kf r t
structure Kn (K:Kl) (n:Nat) (a:Act):Prop where
 s:a.tmps.size=n
 k:∀ t v,kf K t=some v→a.tmps[t]?=some v
def kv (K:Kl):Operand→Value
 | .tmp t=>(kf K t).getD undef
 | .const v=>v
 | .global g=>.pointer (some ⟨g,0,none⟩)
 | .func f=>.func (.func f) #[] #[]
def ky (ops:Array Oper) (K:Kl) (j:Nat):Option Bool:=match ((ops[j]?).bind (·.dst)).bind (kf K) with
 | some (.bool b)=>some b
 | _=>none
def kok (ops:Array Oper) (K:Kl) (n:Nat) (o:Oper):Bool:=(o.looksAt ops).all (fun t=>(kf K t).isSome) && (match o.op with | .select ..=>false|_=>true) && match o.dst with
 | some d=>decide (d<n)
 | none=>true
def kput (K:Kl):Option Tmp→Value→Kl
 | some d,v=>(d,v)::K
 | none,_=>K
def TK (P:Program) (ops:Array Oper) (S:World→Prop) (Q:Exit→Act→World→Prop) (n:Nat) (df:List Deferred) (l:List Oper) (K:Kl):Prop:=∀ a,Kn K n a→a.defers=df→T P ops S Q l a
theorem kn_put {K:Kl} {n:Nat} {a:Act} {d:Option Tmp} {v:Value} (h:Kn K n a) (hd:∀ t,d=some t→t<n):Kn (kput K d v) n (a.put d v):=by
 cases d with
 | none=>exact h
 | some t =>
  have ht:=hd t rfl
  refine⟨by simp [Act.put,h.s],fun u x hu=>?_⟩
  simp only [kput,kf] at hu
  by_cases e:t=u
  ·rw [if_pos e] at hu
   subst e
   cases hu
   simp [Act.put,h.s,ht]
  ·rw [if_neg e] at hu
   simp only [Act.put,Array.getElem?_setIfInBounds_ne e]
   exact h.k u x hu
theorem reg {id n:Nat} {a:Act} {w:World} {df:List Deferred} (S:World→Prop) (K:Kl) (hS:S w) (ha:Kn K n a) (hd:a.defers=df) (h:TK P ops S Q n df ops.toList K):(Code.region id ops false).wp P Q a w:=regionS S hS (h a ha hd)
end
end Go.Proofs.YtdgnjhhieemcaaaGreatDoor.Tab
end
section
namespace Go.Proofs.YtdgnjhhieemcaaaGreatDoor.L8
open Go.RowKit L2
attribute [local go_sem] Oper.semAt_some
def exX (s:ByteArray) (l:List (Nat × Nat)):List ByteArray:=l.map fun p=>s.extract p.1 p.2
def lns (s:ByteArray):List ByteArray:=exX s (ln 0 0 s.data.toList)
end Go.Proofs.YtdgnjhhieemcaaaGreatDoor.L8
end
