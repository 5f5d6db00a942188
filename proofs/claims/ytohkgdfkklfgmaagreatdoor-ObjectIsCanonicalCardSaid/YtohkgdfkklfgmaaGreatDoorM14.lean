/- Lemmas and walks of L10Rd, L10Ad, L10Am, L10Ln: what each theorem states; conditions stand in each theorem. -/
import Derived.Test.YtohkgdfkklfgmaaGreatDoorM13
import Derived.Test.YtohkgdfkklfgmaaGreatDoorM12
import Derived.Deep.AppendLies
import Derived.Laws.Tables
import Derived.Deep.RegionHeld3
section
namespace Go.Proofs.YtohkgdfkklfgmaaGreatDoor.L10
open Go.RowKit Go.Maps
attribute [local go_sem] Oper.semAt_some
structure Rd where
 maps:List L9.Df
 stmts:List Stm
 ml:List Int
 sl:List Int
 labs:List ByteArray
 lbl:Int
 line:Int
def Rd.z:Rd:=⟨[],[],[],[],[],0,0⟩
def Rd.lab (s:Rd) (t:ByteArray):Rd:={ s with lbl:=if s.labs=[] then s.line else s.lbl,labs:=s.labs++[t] }
def Rd.map (s:Rd) (d:L9.Df):Rd:={ s with maps:=s.maps++[d],ml:=s.ml++[s.line] }
abbrev inI (l:List Int):List Value:=l.map (Value.int .i64)
abbrev smC (l:List (Value × Stm)):List Value:=l.flatMap fun x=>smL x.1 x.2
def LbAt (W:World) (v:Value) (l:List ByteArray):Prop:=L8.StAt W v l∧∀ b,v.ownBlock=some b→∃ cs fr,W.heap[b]?=some (.cells cs 9 fr)
structure RdR (B:Nat) (W:World) (vm vs mv sv lv:Value) (l:List (Value × Stm)) (s:Rd):Prop where
 om:W.ownsRow B 62 4 vm s.maps.length (s.maps.flatMap dfL)
 os:W.ownsRow B 94 9 vs l.length (smC l)
 oml:W.ownsRow B 3 1 mv s.ml.length (inI s.ml)
 osl:W.ownsRow B 3 1 sv s.sl.length (inI s.sl)
 ol:W.ownsRow B 9 1 lv s.labs.length (L8.stC s.labs)
 lb:∀ x∈l,LbAt W x.1 x.2.labs
 nl:∀ x∈l,∀ g,x.1.ownBlock=some g→lv.ownBlock≠some g
 ne:∀ g,mv.ownBlock=some g→sv.ownBlock≠some g
 st:l.map (·.2)=s.stmts
theorem own_ty {w:World} {base e:TypeId} {size:Nat} {v:Value} {n:Nat} {xs:List Value} {g:Nat} (h:w.ownsRow base e size v n xs) (hg:v.ownBlock=some g):∃ cur,w.heap[g]?=some (.cells cur e (0,0)):=by
 rcases h.2 with ⟨rfl,_⟩|⟨g',cap,cur,rfl,_,hh,_⟩
 ·cases hg
 ·obtain rfl:g'=g:=by simpa [Value.ownBlock] using hg
  exact⟨cur,hh⟩
theorem own_kept {w w':World} {base e:TypeId} {size:Nat} {v:Value} {n:Nat} {xs:List Value} {o:Option Nat} (h:w.ownsRow base e size v n xs) (hg:w.grownBy w' o) (hne:∀ g,v.ownBlock=some g→o≠some g):w'.ownsRow base e size v n xs:=by
 refine h.kept hg ?_
 cases hv:v.ownBlock with
 | none=>exact .inl rfl
 | some g=>exact .inr fun e=>hne g hv e.symm
theorem LbAt.kept {W W':World} {v:Value} {l:List ByteArray} {o:Option Nat} (h:LbAt W v l) (hg:W.grownBy W' o) (hne:∀ g,v.ownBlock=some g→o≠some g):LbAt W' v l:=by
 refine⟨?_,fun b hb=>?_⟩
 ·rcases h.1 with ⟨b,i,cap,rfl,hlt,hc⟩|h1
  ·exact .inl ⟨b,i,cap,rfl,Nat.lt_of_lt_of_le hlt hg.size,fun j hj=>hg.cell (hc j hj) (fun e=>hne b rfl e.symm)⟩
  ·exact .inr h1
 ·obtain⟨cs,fr,hh⟩:=h.2 b hb
  exact⟨cs,fr,(hg.block b (Array.getElem?_eq_some_iff.1 hh).1 (fun e=>hne b hb e.symm)).trans hh⟩
theorem ty_ne {w:World} {a b:Nat} {c1 c2:Array Value} {t1 t2:TypeId} {f1 f2:Nat × Nat} (h1:w.heap[a]?=some (.cells c1 t1 f1)) (h2:w.heap[b]?=some (.cells c2 t2 f2)) (h:t1≠t2):(some a:Option Nat)≠some b:=by
 intro e
 cases e
 rw [h1] at h2
 cases h2
 exact h rfl
section
variable {B:Nat} {W W':World} {vm vs mv sv lv:Value} {l:List (Value × Stm)} {s:Rd}
theorem RdR.other (h:RdR B W vm vs mv sv lv l s) {o:Option Nat} (hg:W.grownBy W' o) (ho:∀ k,o=some k→∃ cs t fr,W.heap[k]?=some (.cells cs t fr)∧t≠62∧t≠94∧t≠3∧t≠9):RdR B W' vm vs mv sv lv l s:=by
 have key:∀ {e:TypeId} {g:Nat} {cur:Array Value} {fr:Nat × Nat},W.heap[g]?=some (.cells cur e fr)→(e=62∨e=94∨e=3∨e=9)→o≠some g:=by
  intro e g cur fr hh he ho'
  obtain⟨cs,t,fr',hk,h1,h2,h3,h4⟩:=ho g ho'
  rw [hh] at hk
  cases hk
  rcases he with he|he|he|he
  ·exact h1 he
  ·exact h2 he
  ·exact h3 he
  ·exact h4 he
 refine⟨own_kept h.om hg fun g hv=>?_,own_kept h.os hg fun g hv=>?_,own_kept h.oml hg fun g hv=>?_,own_kept h.osl hg fun g hv=>?_,own_kept h.ol hg fun g hv=>?_,fun x hx=>(h.lb x hx).kept hg fun g hv=>?_,h.nl,h.ne,h.st⟩
 ·obtain⟨c,hc⟩:=own_ty h.om hv;exact key hc (.inl rfl)
 ·obtain⟨c,hc⟩:=own_ty h.os hv;exact key hc (.inr (.inl rfl))
 ·obtain⟨c,hc⟩:=own_ty h.oml hv;exact key hc (.inr (.inr (.inl rfl)))
 ·obtain⟨c,hc⟩:=own_ty h.osl hv;exact key hc (.inr (.inr (.inl rfl)))
 ·obtain⟨c,hc⟩:=own_ty h.ol hv;exact key hc (.inr (.inr (.inr rfl)))
 ·obtain⟨c,fr,hc⟩:=(h.lb x hx).2 g hv;exact key hc (.inr (.inr (.inr rfl)))
theorem RdR.below (h:RdR B W vm vs mv sv lv l s) (hb:Below W.heap.size W W'):RdR B W' vm vs mv sv lv l s:=h.other (gr_of hb none) (fun k hk=>by cases hk)
end
end Go.Proofs.YtohkgdfkklfgmaaGreatDoor.L10
end
section
namespace Go.Proofs.YtohkgdfkklfgmaaGreatDoor.L10
open Go.RowKit Go.Maps
attribute [local go_sem] Oper.semAt_some
theorem frozen_all {w:World} {k:Nat} {cs:Array Value} {t:TypeId} (h:w.heap[k]?=some (.cells cs t)) (i:Nat):w.frozen? ⟨k,i,none⟩=false:=by simp [World.frozen?,h]
theorem gr_setCell (w:World) (k i:Nat) (v:Value):w.grownBy (w.setCell ⟨k,i,none⟩ v) (some k):=⟨rfl,rfl,rfl,by simp [World.setCell],fun x _ hne=>Below.heap_setCell _ _ _ _ (fun e=>hne (by rw [e]))⟩
structure Fk (kr B:Nat) (w w':World):Prop where
 os:w'.os=w.os
 tape:w'.tape=w.tape
 output:w'.output=w.output
 size:w.heap.size≤w'.heap.size
 block:∀ k,k<B→k≠kr→w'.heap[k]?=w.heap[k]?
theorem Fk.refl (kr B:Nat) (w:World):Fk kr B w w:=⟨rfl,rfl,rfl,Nat.le_refl _,fun _ _ _=>rfl⟩
theorem Fk.trans {kr B:Nat} {a b c:World} (h:Fk kr B a b) (k:Fk kr B b c):Fk kr B a c:=⟨k.os.trans h.os,k.tape.trans h.tape,k.output.trans h.output,Nat.le_trans h.size k.size,fun x hx hn=>(k.block x hx hn).trans (h.block x hx hn)⟩
theorem Fk.of {kr B:Nat} {a b:World} (h:Below a.heap.size a b) (hB:B≤a.heap.size):Fk kr B a b:=⟨h.os,h.tape,h.output,h.size,fun k hk _=>h.block k (Nat.lt_of_lt_of_le hk hB)⟩
theorem Fk.drew {kr B:Nat} {a b:World} (h:Fk kr B a b):Fk kr B a b.drew:=⟨h.os,h.tape,h.output,h.size,h.block⟩
theorem Fk.alloc {kr B:Nat} {a b:World} (h:Fk kr B a b) (hB:B≤b.heap.size) (o:Obj):Fk kr B a (b.alloc o):=h.trans (Fk.of (L8.bnew b o) hB)
theorem Fk.grown {kr B:Nat} {a b c:World} {o:Option Nat} (h:Fk kr B a b) (hg:b.grownBy c o) (hB:B≤b.heap.size) (hr:∀ k,o=some k→B≤k):Fk kr B a c :=
 h.trans ⟨hg.os,hg.tape,hg.output,hg.size,fun k hk _=>hg.block k (Nat.lt_of_lt_of_le hk hB) (fun e=>by have:=hr k e.symm;omega)⟩
theorem Fk.set {kr B:Nat} {a b:World} (h:Fk kr B a b) (i:Nat) (v:Value):Fk kr B a (b.setCell ⟨kr,i,none⟩ v) :=
 h.trans ⟨rfl,rfl,rfl,by simp [World.setCell],fun k _ hn=>Below.heap_setCell _ _ _ _ hn⟩
theorem Fk.setRow {kr B:Nat} {a b:World} (h:Fk kr B a b) {k:Nat} (hk:B≤k) (cs:Array Value):Fk kr B a (b.setRow k cs) :=
 h.trans ⟨rfl,rfl,rfl,by simp [World.setRow],fun x hx _=>setRow_other b k x cs (by omega)⟩
theorem Fk.bel {kr B C:Nat} {a b:World} (h:Fk kr B a b) (hB:C≤B) (hk:C≤kr):Below C a b:=⟨h.os,h.tape,h.output,h.size,fun k hk'=>h.block k (by omega) (by omega)⟩
theorem Fk.st {kr B:Nat} {a b:World} (h:Fk kr B a b) {v:Value} {l:List ByteArray} (hv:L8.StAt a v l) (hb:∀ k,v.ownBlock=some k→k<B∧k≠kr):L8.StAt b v l:=by
 rcases hv with ⟨x,o,cap,rfl,hlt,hc⟩|hv
 ·obtain⟨h1,h2⟩:=hb x rfl
  exact .inl ⟨x,o,cap,rfl,Nat.lt_of_lt_of_le hlt h.size,fun j hj=>(World.cell?_of_block (h.block x h1 h2)).trans (hc j hj)⟩
 ·exact .inr hv
theorem bel_set {B:Nat} {w W:World} (h:Below B w W) {k:Nat} (hk:B≤k) (i:Nat) (v:Value):Below B w (W.setCell ⟨k,i,none⟩ v):=h.setCell (p:=⟨k,i,none⟩) hk v
theorem RdR.lbl {B:Nat} {W:World} {vm vs mv sv lv:Value} {l:List (Value × Stm)} {s:Rd} (h:RdR B W vm vs mv sv lv l s) (i j:Int):RdR B W vm vs mv sv lv l { s with lbl:=i,line:=j }:=⟨h.om,h.os,h.oml,h.osl,h.ol,h.lb,h.nl,h.ne,h.st⟩
theorem infoD:(Tryz.prog.info? 62).map (fun i=>(i.zero,i.size,i.bytes))=some (some (.agg #[.string ⟨#[]⟩,.int .i64 0,.int .i64 0,.int .i64 0]),4,40):=by kernel_rfl
end Go.Proofs.YtohkgdfkklfgmaaGreatDoor.L10
end
section
namespace Go.Proofs.YtohkgdfkklfgmaaGreatDoor.L10
open Go.RowKit Go.Maps
attribute [local go_sem] Oper.semAt_some
theorem own_far {w w':World} {B e:TypeId} {size:Nat} {v:Value} {n:Nat} {xs:List Value} {k:Nat} {cs:Array Value} {t:TypeId} {H:Nat} (_:w.ownsRow B e size v n xs) (hl:∀ g,v.ownBlock=some g→g<H) (hk:w.heap[k]?=some (.cells cs t)) (hH:H≤k) (hg:w.grownBy w' v.ownBlock):w'.heap[k]?=some (.cells cs t):=by
 refine (hg.block k (lt_of_block hk) fun h=>?_).trans hk
 have:=hl k h.symm
 omega
end Go.Proofs.YtohkgdfkklfgmaaGreatDoor.L10
end
