/- Lemmas and walks of L10Rd, L10Ad, L10Am, L10Ln, L10Ac, L10It, L10Rl: what each theorem states; conditions stand in each theorem. -/
import Derived.Test.YtgljoilddjmohaaGreatDoorM13
import Derived.Test.YtgljoilddjmohaaGreatDoorM12
import Derived.Deep.AppendLies
import Derived.Laws.Tables
import Derived.Deep.RegionHeld3
section
namespace Go.Proofs.YtgljoilddjmohaaGreatDoor.L10
open Go.RowKit Go.Maps
attribute [local go_sem] Oper.semAt_some
inductive It where
 | lb (t:ByteArray)
 | mp (d:L9.Df)
 | cd (x:L9.Ins) (tg m:ByteArray)
def It.toV:It→Value
 | .lb t=>.iface 179 (.agg #[.string t])
 | .mp d=>.iface 182 (.agg (L9.dfA d))
 | .cd x tg m=>.iface 185 (.agg (L9.codA x tg m))
structure Rd where
 maps:List L9.Df
 stmts:List Stm
 ml:List Int
 sl:List Int
 labs:List ByteArray
 lbl:Int
 line:Int
def Rd.z:Rd:=⟨[],[],[],[],[],0,0⟩
def Rd.lab (s:Rd) (t:ByteArray):Rd:={ s with lbl:=if s.labs=[] then s.line else s.lbl,labs:=s.labs++[t] }
def Rd.map (s:Rd) (d:L9.Df):Rd:={ s with maps:=s.maps++[d],ml:=s.ml++[s.line] }
def Rd.cod (s:Rd) (x:L9.Ins) (tg mp:ByteArray):Rd:={ s with stmts:=s.stmts++[⟨s.labs,x,tg,mp⟩],sl:=s.sl++[s.line],labs:=[] }
abbrev inI (l:List Int):List Value:=l.map (Value.int .i64)
abbrev smC (l:List (Value × Stm)):List Value:=l.flatMap fun x=>smL x.1 x.2
def LbAt (W:World) (v:Value) (l:List ByteArray):Prop:=L8.StAt W v l∧∀ b,v.ownBlock=some b→∃ cs fr,W.heap[b]?=some (.cells cs 9 fr)
structure RdR (B:Nat) (W:World) (vm vs mv sv lv:Value) (l:List (Value × Stm)) (s:Rd):Prop where
 om:W.ownsRow B 70 4 vm s.maps.length (s.maps.flatMap dfL)
 os:W.ownsRow B 52 9 vs l.length (smC l)
 oml:W.ownsRow B 3 1 mv s.ml.length (inI s.ml)
 osl:W.ownsRow B 3 1 sv s.sl.length (inI s.sl)
 ol:W.ownsRow B 9 1 lv s.labs.length (L8.stC s.labs)
 lb:∀ x∈l,LbAt W x.1 x.2.labs
 nl:∀ x∈l,∀ g,x.1.ownBlock=some g→lv.ownBlock≠some g
 ne:∀ g,mv.ownBlock=some g→sv.ownBlock≠some g
 st:l.map (·.2)=s.stmts
theorem own_ty {w:World} {base e:TypeId} {size:Nat} {v:Value} {n:Nat} {xs:List Value} {g:Nat} (h:w.ownsRow base e size v n xs) (hg:v.ownBlock=some g):∃ cur,w.heap[g]?=some (.cells cur e (0,0)):=by
 rcases h.2 with ⟨rfl,_⟩|⟨g',cap,cur,rfl,_,hh,_⟩
 ·cases hg
 ·obtain rfl:g'=g:=by simpa [Value.ownBlock] using hg
  exact⟨cur,hh⟩
theorem own_kept {w w':World} {base e:TypeId} {size:Nat} {v:Value} {n:Nat} {xs:List Value} {o:Option Nat} (h:w.ownsRow base e size v n xs) (hg:w.grownBy w' o) (hne:∀ g,v.ownBlock=some g→o≠some g):w'.ownsRow base e size v n xs:=by
 refine h.kept hg ?_
 cases hv:v.ownBlock with
 | none=>exact .inl rfl
 | some g=>exact .inr fun e=>hne g hv e.symm
theorem LbAt.kept {W W':World} {v:Value} {l:List ByteArray} {o:Option Nat} (h:LbAt W v l) (hg:W.grownBy W' o) (hne:∀ g,v.ownBlock=some g→o≠some g):LbAt W' v l:=by
 refine⟨?_,fun b hb=>?_⟩
 ·rcases h.1 with ⟨b,i,cap,rfl,hlt,hc⟩|h1
  ·exact .inl ⟨b,i,cap,rfl,Nat.lt_of_lt_of_le hlt hg.size,fun j hj=>hg.cell (hc j hj) (fun e=>hne b rfl e.symm)⟩
  ·exact .inr h1
 ·obtain⟨cs,fr,hh⟩:=h.2 b hb
  exact⟨cs,fr,(hg.block b (Array.getElem?_eq_some_iff.1 hh).1 (fun e=>hne b hb e.symm)).trans hh⟩
theorem ty_ne {w:World} {a b:Nat} {c1 c2:Array Value} {t1 t2:TypeId} {f1 f2:Nat × Nat} (h1:w.heap[a]?=some (.cells c1 t1 f1)) (h2:w.heap[b]?=some (.cells c2 t2 f2)) (h:t1≠t2):(some a:Option Nat)≠some b:=by
 intro e
 cases e
 rw [h1] at h2
 cases h2
 exact h rfl
section
variable {B:Nat} {W W':World} {vm vs mv sv lv:Value} {l:List (Value × Stm)} {s:Rd}
theorem RdR.other (h:RdR B W vm vs mv sv lv l s) {o:Option Nat} (hg:W.grownBy W' o) (ho:∀ k,o=some k→∃ cs t fr,W.heap[k]?=some (.cells cs t fr)∧t≠70∧t≠52∧t≠3∧t≠9):RdR B W' vm vs mv sv lv l s:=by
 have key:∀ {e:TypeId} {g:Nat} {cur:Array Value} {fr:Nat × Nat},W.heap[g]?=some (.cells cur e fr)→(e=70∨e=52∨e=3∨e=9)→o≠some g:=by
  intro e g cur fr hh he ho'
  obtain⟨cs,t,fr',hk,h1,h2,h3,h4⟩:=ho g ho'
  rw [hh] at hk
  cases hk
  rcases he with he|he|he|he
  ·exact h1 he
  ·exact h2 he
  ·exact h3 he
  ·exact h4 he
 refine⟨own_kept h.om hg fun g hv=>?_,own_kept h.os hg fun g hv=>?_,own_kept h.oml hg fun g hv=>?_,own_kept h.osl hg fun g hv=>?_,own_kept h.ol hg fun g hv=>?_,fun x hx=>(h.lb x hx).kept hg fun g hv=>?_,h.nl,h.ne,h.st⟩
 ·obtain⟨c,hc⟩:=own_ty h.om hv;exact key hc (.inl rfl)
 ·obtain⟨c,hc⟩:=own_ty h.os hv;exact key hc (.inr (.inl rfl))
 ·obtain⟨c,hc⟩:=own_ty h.oml hv;exact key hc (.inr (.inr (.inl rfl)))
 ·obtain⟨c,hc⟩:=own_ty h.osl hv;exact key hc (.inr (.inr (.inl rfl)))
 ·obtain⟨c,hc⟩:=own_ty h.ol hv;exact key hc (.inr (.inr (.inr rfl)))
 ·obtain⟨c,fr,hc⟩:=(h.lb x hx).2 g hv;exact key hc (.inr (.inr (.inr rfl)))
theorem RdR.below (h:RdR B W vm vs mv sv lv l s) (hb:Below W.heap.size W W'):RdR B W' vm vs mv sv lv l s:=h.other (gr_of hb none) (fun k hk=>by cases hk)
theorem RdR.addLab (h:RdR B W vm vs mv sv lv l s) (t:ByteArray) {g cap:Nat} (ho:W'.ownsRow B 9 1 (.slice (some ⟨g,0,none⟩) (s.labs.length+1) cap) (s.labs.length+1) (L8.stC s.labs++[.string t])) (hg:W.grownBy W' lv.ownBlock) (hat:lv.ownBlock=some g∨g=W.heap.size) :
  RdR B W' vm vs mv sv (.slice (some ⟨g,0,none⟩) (s.labs.length+1) cap) l (s.lab t):=by
 have key:∀ {e:TypeId} {k:Nat} {cur:Array Value} {fr:Nat × Nat},W.heap[k]?=some (.cells cur e fr)→e≠9→lv.ownBlock≠some k:=by
  intro e k cur fr hh he hl
  obtain⟨c,hc⟩:=own_ty h.ol hl
  rw [hh] at hc
  cases hc
  exact he rfl
 refine⟨own_kept h.om hg fun k hv=>?_,own_kept h.os hg fun k hv=>?_,own_kept h.oml hg fun k hv=>?_,own_kept h.osl hg fun k hv=>?_,?_,fun x hx=>(h.lb x hx).kept hg fun k hv=>h.nl x hx k hv,fun x hx k hv=>?_,h.ne,h.st⟩
 ·obtain⟨c,hc⟩:=own_ty h.om hv;exact key hc (by decide)
 ·obtain⟨c,hc⟩:=own_ty h.os hv;exact key hc (by decide)
 ·obtain⟨c,hc⟩:=own_ty h.oml hv;exact key hc (by decide)
 ·obtain⟨c,hc⟩:=own_ty h.osl hv;exact key hc (by decide)
 ·show W'.ownsRow B _ 1 _ (s.labs++[t]).length (L8.stC (s.labs++[t]))
  rw [L8.stC_snoc,List.length_append]
  exact ho
 ·show (some g:Option Nat)≠some k
  rintro e
  cases e
  rcases hat with hat|rfl
  ·exact h.nl x hx g hv hat
  ·obtain⟨c,fr,hc⟩:=(h.lb x hx).2 _ hv
   exact absurd (Array.getElem?_eq_some_iff.1 hc).1 (Nat.lt_irrefl _)
theorem RdR.addDef (h:RdR B W vm vs mv sv lv l s) (d:L9.Df) {g cap:Nat} (ho:W'.ownsRow B 70 4 (.slice (some ⟨g,0,none⟩) (s.maps.length+1) cap) (s.maps.length+1) (s.maps.flatMap dfL++dfL d)) (hg:W.grownBy W' vm.ownBlock) :
  RdR B W' (.slice (some ⟨g,0,none⟩) (s.maps.length+1) cap) vs mv sv lv l { s with maps:=s.maps++[d] }:=by
 have key:∀ {e:TypeId} {k:Nat} {cur:Array Value} {fr:Nat × Nat},W.heap[k]?=some (.cells cur e fr)→e≠70→vm.ownBlock≠some k:=by
  intro e k cur fr hh he hl
  obtain⟨c,hc⟩:=own_ty h.om hl
  rw [hh] at hc
  cases hc
  exact he rfl
 refine⟨?_,own_kept h.os hg fun k hv=>?_,own_kept h.oml hg fun k hv=>?_,own_kept h.osl hg fun k hv=>?_,own_kept h.ol hg fun k hv=>?_,fun x hx=>(h.lb x hx).kept hg fun k hv=>?_,h.nl,h.ne,h.st⟩
 ·show W'.ownsRow B _ 4 _ (s.maps++[d]).length ((s.maps++[d]).flatMap dfL)
  rw [List.flatMap_append,List.length_append]
  simpa using ho
 ·obtain⟨c,hc⟩:=own_ty h.os hv;exact key hc (by decide)
 ·obtain⟨c,hc⟩:=own_ty h.oml hv;exact key hc (by decide)
 ·obtain⟨c,hc⟩:=own_ty h.osl hv;exact key hc (by decide)
 ·obtain⟨c,hc⟩:=own_ty h.ol hv;exact key hc (by decide)
 ·obtain⟨c,fr,hc⟩:=(h.lb x hx).2 k hv;exact key hc (by decide)
theorem RdR.addMl (h:RdR B W vm vs mv sv lv l s) (i:Int) {g cap:Nat} (ho:W'.ownsRow B 3 1 (.slice (some ⟨g,0,none⟩) (s.ml.length+1) cap) (s.ml.length+1) (inI s.ml++[.int .i64 i])) (hg:W.grownBy W' mv.ownBlock) (hat:mv.ownBlock=some g∨g=W.heap.size) :
  RdR B W' vm vs (.slice (some ⟨g,0,none⟩) (s.ml.length+1) cap) sv lv l { s with ml:=s.ml++[i] }:=by
 have key:∀ {e:TypeId} {k:Nat} {cur:Array Value} {fr:Nat × Nat},W.heap[k]?=some (.cells cur e fr)→e≠3→mv.ownBlock≠some k:=by
  intro e k cur fr hh he hl
  obtain⟨c,hc⟩:=own_ty h.oml hl
  rw [hh] at hc
  cases hc
  exact he rfl
 refine⟨own_kept h.om hg fun k hv=>?_,own_kept h.os hg fun k hv=>?_,?_,own_kept h.osl hg fun k hv hm=>h.ne k hm hv,own_kept h.ol hg fun k hv=>?_,fun x hx=>(h.lb x hx).kept hg fun k hv=>?_,h.nl,fun k hk hv=>?_,h.st⟩
 ·obtain⟨c,hc⟩:=own_ty h.om hv;exact key hc (by decide)
 ·obtain⟨c,hc⟩:=own_ty h.os hv;exact key hc (by decide)
 ·show W'.ownsRow B _ 1 _ (s.ml++[i]).length (inI (s.ml++[i]))
  unfold inI
  rw [List.map_append,List.length_append]
  exact ho
 ·obtain⟨c,hc⟩:=own_ty h.ol hv;exact key hc (by decide)
 ·obtain⟨c,fr,hc⟩:=(h.lb x hx).2 k hv;exact key hc (by decide)
 ·cases hk
  rcases hat with hat|rfl
  ·exact h.ne g hat hv
  ·obtain⟨c,hc⟩:=own_ty h.osl hv
   exact absurd (Array.getElem?_eq_some_iff.1 hc).1 (Nat.lt_irrefl _)
theorem RdR.addSl (h:RdR B W vm vs mv sv lv l s) (i:Int) {g cap:Nat} (ho:W'.ownsRow B 3 1 (.slice (some ⟨g,0,none⟩) (s.sl.length+1) cap) (s.sl.length+1) (inI s.sl++[.int .i64 i])) (hg:W.grownBy W' sv.ownBlock) (hat:sv.ownBlock=some g∨g=W.heap.size) :
  RdR B W' vm vs mv (.slice (some ⟨g,0,none⟩) (s.sl.length+1) cap) lv l { s with sl:=s.sl++[i] }:=by
 have key:∀ {e:TypeId} {k:Nat} {cur:Array Value} {fr:Nat × Nat},W.heap[k]?=some (.cells cur e fr)→e≠3→sv.ownBlock≠some k:=by
  intro e k cur fr hh he hl
  obtain⟨c,hc⟩:=own_ty h.osl hl
  rw [hh] at hc
  cases hc
  exact he rfl
 refine⟨own_kept h.om hg fun k hv=>?_,own_kept h.os hg fun k hv=>?_,own_kept h.oml hg fun k hv hm=>h.ne k hv hm,?_,own_kept h.ol hg fun k hv=>?_,fun x hx=>(h.lb x hx).kept hg fun k hv=>?_,h.nl,fun k hk hv=>?_,h.st⟩
 ·obtain⟨c,hc⟩:=own_ty h.om hv;exact key hc (by decide)
 ·obtain⟨c,hc⟩:=own_ty h.os hv;exact key hc (by decide)
 ·show W'.ownsRow B _ 1 _ (s.sl++[i]).length (inI (s.sl++[i]))
  unfold inI
  rw [List.map_append,List.length_append]
  exact ho
 ·obtain⟨c,hc⟩:=own_ty h.ol hv;exact key hc (by decide)
 ·obtain⟨c,fr,hc⟩:=(h.lb x hx).2 k hv;exact key hc (by decide)
 ·cases hv
  rcases hat with hat|rfl
  ·exact h.ne g hk hat
  ·obtain⟨c,hc⟩:=own_ty h.oml hk
   exact absurd (Array.getElem?_eq_some_iff.1 hc).1 (Nat.lt_irrefl _)
theorem RdR.addStm (h:RdR B W vm vs mv sv lv l s) (x:L9.Ins) (tg mp:ByteArray) {g cap:Nat} (ho:W'.ownsRow B 52 9 (.slice (some ⟨g,0,none⟩) (l.length+1) cap) (l.length+1) (smC l++smL lv ⟨s.labs,x,tg,mp⟩)) (hg:W.grownBy W' vs.ownBlock) :
  RdR B W' vm (.slice (some ⟨g,0,none⟩) (l.length+1) cap) mv sv (.slice none 0 0) (l++[(lv,⟨s.labs,x,tg,mp⟩)]) { s with stmts:=s.stmts++[⟨s.labs,x,tg,mp⟩],labs:=[] }:=by
 have key:∀ {e:TypeId} {k:Nat} {cur:Array Value} {fr:Nat × Nat},W.heap[k]?=some (.cells cur e fr)→e≠52→vs.ownBlock≠some k:=by
  intro e k cur fr hh he hl
  obtain⟨c,hc⟩:=own_ty h.os hl
  rw [hh] at hc
  cases hc
  exact he rfl
 refine⟨own_kept h.om hg fun k hv=>?_,?_,own_kept h.oml hg fun k hv=>?_,own_kept h.osl hg fun k hv=>?_,World.ownsRow_nil _ _ _ _,fun y hy=>?_,fun y hy k hv e=>(by cases e),h.ne,?_⟩
 ·obtain⟨c,hc⟩:=own_ty h.om hv;exact key hc (by decide)
 ·rw [List.length_append]
  show W'.ownsRow B _ 9 _ (l.length+1) (smC (l++[(lv,⟨s.labs,x,tg,mp⟩)]))
  unfold smC
  rw [List.flatMap_append]
  simpa using ho
 ·obtain⟨c,hc⟩:=own_ty h.oml hv;exact key hc (by decide)
 ·obtain⟨c,hc⟩:=own_ty h.osl hv;exact key hc (by decide)
 ·rcases List.mem_append.1 hy with hy|hy
  ·refine (h.lb y hy).kept hg fun k hv=>?_
   obtain⟨c,fr,hc⟩:=(h.lb y hy).2 k hv
   exact key hc (by decide)
  ·obtain rfl:y=(lv,⟨s.labs,x,tg,mp⟩):=by simpa using hy
   have hl:LbAt W lv s.labs:=⟨L8.own_st h.ol,fun b hb=>by obtain⟨c,hc⟩:=own_ty h.ol hb;exact⟨c,_,hc⟩⟩
   refine hl.kept hg fun k hv=>?_
   obtain⟨c,hc⟩:=own_ty h.ol hv
   exact key hc (by decide)
 ·rw [List.map_append,h.st]
  rfl
end
end Go.Proofs.YtgljoilddjmohaaGreatDoor.L10
end
section
set_option maxRecDepth 100000
set_option maxHeartbeats 2000000
namespace Go.Proofs.YtgljoilddjmohaaGreatDoor.L10
open Go.RowKit Go.Maps
attribute [local go_sem] Oper.semAt_some
abbrev rdA (vm vs mv sv lv:Value) (lbl line:Int):Array Value:=#[vm,vs,mv,sv,lv,.int .i64 lbl,.int .i64 line]
def RdM (B kr:Nat) (W:World) (l:List (Value × Stm)) (s:Rd):Prop:=∃ vm vs mv sv lv,W.heap[kr]?=some (.cells (rdA vm vs mv sv lv s.lbl s.line) 129)∧RdR B W vm vs mv sv lv l s
theorem cells7 {w:World} {k:Nat} {a b c d e f g:Value} {t:TypeId} (h:w.heap[k]?=some (.cells #[a,b,c,d,e,f,g] t)):w.cell? ⟨k,0,none⟩=some a∧w.cell? ⟨k,1,none⟩=some b∧w.cell? ⟨k,2,none⟩=some c∧w.cell? ⟨k,3,none⟩=some d∧w.cell? ⟨k,4,none⟩=some e∧w.cell? ⟨k,5,none⟩=some f∧w.cell? ⟨k,6,none⟩=some g:=by
 simp [World.cell?,h]
theorem frozen_all {w:World} {k:Nat} {cs:Array Value} {t:TypeId} (h:w.heap[k]?=some (.cells cs t)) (i:Nat):w.frozen? ⟨k,i,none⟩=false:=by simp [World.frozen?,h]
theorem row_set {w:World} {k:Nat} {cs:Array Value} {t:TypeId} (h:w.heap[k]?=some (.cells cs t)) (i:Nat) (v:Value):(w.setCell ⟨k,i,none⟩ v).heap[k]?=some (.cells (cs.setIfInBounds i v) t):=L4.heap_setCell_same h v
theorem gr_setCell (w:World) (k i:Nat) (v:Value):w.grownBy (w.setCell ⟨k,i,none⟩ v) (some k):=⟨rfl,rfl,rfl,by simp [World.setCell],fun x _ hne=>Below.heap_setCell _ _ _ _ (fun e=>hne (by rw [e]))⟩
structure Fk (kr B:Nat) (w w':World):Prop where
 os:w'.os=w.os
 tape:w'.tape=w.tape
 output:w'.output=w.output
 size:w.heap.size≤w'.heap.size
 block:∀ k,k<B→k≠kr→w'.heap[k]?=w.heap[k]?
theorem Fk.refl (kr B:Nat) (w:World):Fk kr B w w:=⟨rfl,rfl,rfl,Nat.le_refl _,fun _ _ _=>rfl⟩
theorem Fk.trans {kr B:Nat} {a b c:World} (h:Fk kr B a b) (k:Fk kr B b c):Fk kr B a c:=⟨k.os.trans h.os,k.tape.trans h.tape,k.output.trans h.output,Nat.le_trans h.size k.size,fun x hx hn=>(k.block x hx hn).trans (h.block x hx hn)⟩
theorem Fk.of {kr B:Nat} {a b:World} (h:Below a.heap.size a b) (hB:B≤a.heap.size):Fk kr B a b:=⟨h.os,h.tape,h.output,h.size,fun k hk _=>h.block k (Nat.lt_of_lt_of_le hk hB)⟩
theorem Fk.drew {kr B:Nat} {a b:World} (h:Fk kr B a b):Fk kr B a b.drew:=⟨h.os,h.tape,h.output,h.size,h.block⟩
theorem Fk.alloc {kr B:Nat} {a b:World} (h:Fk kr B a b) (hB:B≤b.heap.size) (o:Obj):Fk kr B a (b.alloc o):=h.trans (Fk.of (L8.bnew b o) hB)
theorem Fk.grown {kr B:Nat} {a b c:World} {o:Option Nat} (h:Fk kr B a b) (hg:b.grownBy c o) (hB:B≤b.heap.size) (hr:∀ k,o=some k→B≤k):Fk kr B a c :=
 h.trans ⟨hg.os,hg.tape,hg.output,hg.size,fun k hk _=>hg.block k (Nat.lt_of_lt_of_le hk hB) (fun e=>by have:=hr k e.symm;omega)⟩
theorem Fk.set {kr B:Nat} {a b:World} (h:Fk kr B a b) (i:Nat) (v:Value):Fk kr B a (b.setCell ⟨kr,i,none⟩ v) :=
 h.trans ⟨rfl,rfl,rfl,by simp [World.setCell],fun k _ hn=>Below.heap_setCell _ _ _ _ hn⟩
theorem Fk.setRow {kr B:Nat} {a b:World} (h:Fk kr B a b) {k:Nat} (hk:B≤k) (cs:Array Value):Fk kr B a (b.setRow k cs) :=
 h.trans ⟨rfl,rfl,rfl,by simp [World.setRow],fun x hx _=>setRow_other b k x cs (by omega)⟩
theorem Fk.bel {kr B C:Nat} {a b:World} (h:Fk kr B a b) (hB:C≤B) (hk:C≤kr):Below C a b:=⟨h.os,h.tape,h.output,h.size,fun k hk'=>h.block k (by omega) (by omega)⟩
theorem bel_set {B:Nat} {w W:World} (h:Below B w W) {k:Nat} (hk:B≤k) (i:Nat) (v:Value):Below B w (W.setCell ⟨k,i,none⟩ v):=h.setCell (p:=⟨k,i,none⟩) hk v
theorem RdR.rd {B:Nat} {W W':World} {vm vs mv sv lv:Value} {l:List (Value × Stm)} {s:Rd} {kr:Nat} {cs:Array Value} (h:RdR B W vm vs mv sv lv l s) (hg:W.grownBy W' (some kr)) (hk:W.heap[kr]?=some (.cells cs 129)):RdR B W' vm vs mv sv lv l s :=
 h.other hg fun k e=>by cases e;exact⟨_,_,_,hk,by decide,by decide,by decide,by decide⟩
theorem RdR.lbl {B:Nat} {W:World} {vm vs mv sv lv:Value} {l:List (Value × Stm)} {s:Rd} (h:RdR B W vm vs mv sv lv l s) (i j:Int):RdR B W vm vs mv sv lv l { s with lbl:=i,line:=j }:=⟨h.om,h.os,h.oml,h.osl,h.ol,h.lb,h.nl,h.ne,h.st⟩
theorem infoT:(Tryz.prog.info? 9).map (fun i=>(i.zero,i.size,i.bytes))=some (some (.string ⟨#[]⟩),1,16):=by kernel_rfl
theorem infoI:(Tryz.prog.info? 3).map (fun i=>(i.zero,i.size,i.bytes))=some (some (.int .i64 0),1,8):=by kernel_rfl
theorem infoD:(Tryz.prog.info? 70).map (fun i=>(i.zero,i.size,i.bytes))=some (some (.agg #[.string ⟨#[]⟩,.int .i64 0,.int .i64 0,.int .i64 0]),4,40):=by kernel_rfl
theorem infoS:(Tryz.prog.info? 52).map (fun i=>(i.zero,i.size,i.bytes))=some (some (.agg #[.slice none 0 0,.int .i64 0,.bool false,.int .i64 0,.int .i64 0,.int .i64 0,.int .i64 0,.string ⟨#[]⟩,.string ⟨#[]⟩]),9,104):=by kernel_rfl
theorem row_own {W W':World} {kr:Nat} {cs:Array Value} {B e:TypeId} {size:Nat} {v:Value} {n:Nat} {xs:List Value} (hk:W.heap[kr]?=some (.cells cs 129)) (ho:W.ownsRow B e size v n xs) (hg:W.grownBy W' v.ownBlock) (he:e≠129):W'.heap[kr]?=some (.cells cs 129):=by
 refine (hg.block kr (lt_of_block hk) fun h=>?_).trans hk
 obtain⟨c,hc⟩:=own_ty ho h.symm
 rw [hk] at hc
 cases hc
 exact he rfl
def KT (w w':World):Prop:=∀ (k:Nat) (cs:Array Value) (fr:Nat × Nat),w.heap[k]?=some (.cells cs 177 fr)→w'.heap[k]?=some (.cells cs 177 fr)
theorem KT.trans {a b c:World} (h:KT a b) (k:KT b c):KT a c:=fun _ _ _ hx=>k _ _ _ (h _ _ _ hx)
theorem KT.below {a b:World} (h:Below a.heap.size a b):KT a b:=fun k _ _ hx=>(h.block k (Array.getElem?_eq_some_iff.1 hx).1).trans hx
theorem KT.gr {a b:World} {k:Nat} {cs:Array Value} {t:TypeId} {fr:Nat × Nat} (hg:a.grownBy b (some k)) (hk:a.heap[k]?=some (.cells cs t fr)) (ht:t≠177):KT a b:=fun _ _ _ hx=>(hg.block _ (Array.getElem?_eq_some_iff.1 hx).1 (ty_ne hx hk (Ne.symm ht))).trans hx
theorem KT.own {a b:World} {B e:TypeId} {size:Nat} {v:Value} {n:Nat} {xs:List Value} (ho:a.ownsRow B e size v n xs) (hg:a.grownBy b v.ownBlock) (he:e≠177):KT a b:=fun k cs fr hx=>(hg.block k (Array.getElem?_eq_some_iff.1 hx).1 (fun h=>by
 obtain⟨c,hc⟩:=own_ty ho h.symm
 rw [hx] at hc
 cases hc
 exact he rfl)).trans hx
theorem own_base2 {w:World} {base e:TypeId} {size:Nat} {v:Value} {n:Nat} {xs:List Value} (h:w.ownsRow base e size v n xs):∀ j,v.ownBlock=some j→base≤j:=fun j hj=>(h.lt j hj).1
theorem lab_first {vm vs mv sv v v':Value} {s:Rd} {t:ByteArray} (h0:s.labs=[]):((rdA vm vs mv sv v s.lbl s.line).setIfInBounds 5 (.int .i64 s.line)).setIfInBounds 4 v'=rdA vm vs mv sv v' (s.lab t).lbl (s.lab t).line:=by
 unfold Rd.lab
 rw [if_pos h0]
 rfl
theorem lab_next {vm vs mv sv v v':Value} {s:Rd} {t:ByteArray} (h0:¬ s.labs=[]):(rdA vm vs mv sv v s.lbl s.line).setIfInBounds 4 v'=rdA vm vs mv sv v' (s.lab t).lbl (s.lab t).line:=by
 unfold Rd.lab
 rw [if_neg h0]
 rfl
theorem addLabel_at (B kr:Nat) (t:ByteArray) (l:List (Value × Stm)) (s:Rd) (w:World) (h:RdM B kr w l s) (hB:B≤w.heap.size) (hm:s.labs.length≤100000) :
  Calls Tryz.prog 119 #[.pointer (some ⟨kr,0,none⟩),.string t] w fun e w'=>e=.returned (.tuple #[])∧RdM B kr w' l (s.lab t)∧Fk kr B w w'∧KT w w':=by
 obtain⟨i0,hi,hz0,hz1,hz2⟩:=info_parts infoT
 obtain⟨vm,vs,mv,sv,lv,hrow,hR⟩:=h
 obtain⟨n,hn⟩:∃ n,s.labs.length=n:=⟨_,rfl⟩
 have hol:=hR.ol
 obtain⟨la,lc,rfl⟩:=L8.owns_slice hol
 have hkl:=lt_of_block hrow
 rw [hn] at hol hrow hR hm
 obtain⟨x0,x1,x2,x3,x4,x5,x6⟩:=cells7 hrow
 by_cases h0:s.labs=[]
 ·have hn0:n=0:=by rw [← hn,h0];rfl
  subst hn0
  have hR1:=hR.rd (gr_setCell w kr 5 (.int .i64 s.line)) hrow
  have hr1:=row_set hrow 5 (.int .i64 s.line)
  have fz:=frozen_all hrow 5
  obtain⟨y0,y1,y2,y3,y4,y5,y6⟩:=cells7 hr1
  have hb1:=Fk.set (Fk.refl kr B w) 5 (.int .i64 s.line)
  have hT1:=KT.gr (gr_setCell w kr 5 (.int .i64 s.line)) hrow (by decide)
  have w1_le:B≤(w.setCell ⟨kr,5,none⟩ (.int .i64 s.line)).heap.size:=by simpa [World.setCell] using hB
  have ho1:=hR1.ol
  rw [hn] at ho1
  obtain⟨w1,hw1⟩:∃ w1,w.setCell ⟨kr,5,none⟩ (.int .i64 s.line)=w1:=⟨_,rfl⟩
  rw [hw1] at hr1 hR1 hb1 hT1 w1_le ho1 y0 y1 y2 y3 y4 y5 y6
  have hkl1:=lt_of_block hr1
  go_enter Tryz.func119,Tryz.ntmps119
  go_wp2_with (at_builtin;refine wpList_append_lies _ rfl _ _ 48 rfl B 9 i0 (.string ⟨#[]⟩) 1 16 Tryz.underlying48 hi hz0 hz1 hz2 rfl (by decide) _ 0 _ rfl (ho1.alloc _) ⟨_,0,none⟩ 1 1 [.string t] rfl rfl (World.news_of_block (cs:=#[.string t]) (t:=9) (fr:=(0,0)) (heap_alloc_last w1 _)) (by simp [Value.oneCell']) (by decide) (by unfold maxLen;omega) (by omega) (by have:=w1_le;simp;omega) _ rfl ?_;intro g cap w2 hown2 hgrow2 hat2 hlt2;have row2:=row_own (L8.row_up hr1 (L8.bnew _ (.cells #[.string t] 9))) (ho1.alloc _) hgrow2 (by decide);obtain⟨-,-,-,-,z4,-,-⟩:=cells7 row2;have fz2:=frozen_all row2 4;clear hr1)
  go_end0
  refine⟨rfl,⟨vm,vs,mv,sv,_,(row_set row2 4 _).trans (by rw [lab_first (t:=t) h0]),?_⟩,Fk.set (((hb1.alloc w1_le _).grown hgrow2 (by simp;omega) (own_base2 ho1))) 4 _,(hT1.trans (KT.below (L8.bnew w1 (.cells #[.string t] 9)))).trans ((KT.own (ho1.alloc _) hgrow2 (by decide)).trans (KT.gr (gr_setCell _ kr 4 _) row2 (by decide)))⟩
  have R2:=(hR1.below (L8.bnew w1 (.cells #[.string t] 9))).addLab t (by rw [hn];exact hown2) hgrow2 hat2
  rw [hn] at R2
  exact R2.rd (gr_setCell _ kr 4 _) row2
 ·have hn0:0<n:=Nat.pos_of_ne_zero (fun h=>absurd (List.eq_nil_of_length_eq_zero (hn.trans h)) h0)
  have w_le:B≤w.heap.size:=hB
  go_enter Tryz.func119,Tryz.ntmps119
  have hn1:¬ n=0:=by omega
  have hn2:¬ (n:Int)=0:=by omega
  go_wp2_with (at_builtin;refine wpList_append_lies _ rfl _ _ 48 rfl B 9 i0 (.string ⟨#[]⟩) 1 16 Tryz.underlying48 hi hz0 hz1 hz2 rfl (by decide) _ n _ rfl (hol.alloc _) ⟨_,0,none⟩ 1 1 [.string t] rfl rfl (World.news_of_block (cs:=#[.string t]) (t:=9) (fr:=(0,0)) (heap_alloc_last w _)) (by simp [Value.oneCell']) (by decide) (by unfold maxLen;omega) (by omega) (by have:=w_le;simp;omega) _ rfl ?_;intro g cap w2 hown2 hgrow2 hat2 hlt2;have row2:=row_own (L8.row_up hrow (L8.bnew _ (.cells #[.string t] 9))) (hol.alloc _) hgrow2 (by decide);obtain⟨-,-,-,-,z4,-,-⟩:=cells7 row2;have fz2:=frozen_all row2 4;clear hrow)
  go_end0
  refine⟨rfl,⟨vm,vs,mv,sv,_,(row_set row2 4 _).trans (by rw [lab_next (t:=t) h0]),?_⟩,Fk.set ((((Fk.refl kr B w).alloc w_le _).grown hgrow2 (by simp;omega) (own_base2 hol))) 4 _,(KT.below (L8.bnew w (.cells #[.string t] 9))).trans ((KT.own (hol.alloc _) hgrow2 (by decide)).trans (KT.gr (gr_setCell _ kr 4 _) row2 (by decide)))⟩
  have R2:=(hR.below (L8.bnew w (.cells #[.string t] 9))).addLab t (by rw [hn];exact hown2) hgrow2 hat2
  rw [hn] at R2
  exact R2.rd (gr_setCell _ kr 4 _) row2
end Go.Proofs.YtgljoilddjmohaaGreatDoor.L10
end
section
set_option maxRecDepth 100000
set_option maxHeartbeats 4000000
namespace Go.Proofs.YtgljoilddjmohaaGreatDoor.L10
open Go.RowKit Go.Maps
attribute [local go_sem] Oper.semAt_some
theorem drew_below (w:World):Below w.heap.size w w.drew:=(Below.refl _ _).drew
theorem drew_bel {B:Nat} {w W:World} (h:Below B w W):Below B w W.drew:=h.drew
theorem own_far {w w':World} {B e:TypeId} {size:Nat} {v:Value} {n:Nat} {xs:List Value} {k:Nat} {cs:Array Value} {t:TypeId} {H:Nat} (_:w.ownsRow B e size v n xs) (hl:∀ g,v.ownBlock=some g→g<H) (hk:w.heap[k]?=some (.cells cs t)) (hH:H≤k) (hg:w.grownBy w' v.ownBlock):w'.heap[k]?=some (.cells cs t):=by
 refine (hg.block k (lt_of_block hk) fun h=>?_).trans hk
 have:=hl k h.symm
 omega
theorem addMap_at (B kr:Nat) (d:L9.Df) (l:List (Value × Stm)) (s:Rd) (w:World) (h:RdM B kr w l s) (hB:B≤w.heap.size) (hm:s.maps.length≤100000) (hml:s.ml.length≤100000) :
  Calls Tryz.prog 120 #[.pointer (some ⟨kr,0,none⟩),.agg #[.string d.nm,.int .i64 d.key,.int .i64 d.val,.int .i64 d.ent]] w fun e w'=>e=.returned (.tuple #[])∧RdM B kr w' l (s.map d)∧Fk kr B w w'∧KT w w':=by
 obtain⟨i0,hi,hz0,hz1,hz2⟩:=info_parts infoD
 obtain⟨j0,hj,hy0,hy1,hy2⟩:=info_parts infoI
 obtain⟨vm,vs,mv,sv,lv,hrow,hR⟩:=h
 obtain⟨n,hn⟩:∃ n,s.maps.length=n:=⟨_,rfl⟩
 obtain⟨m,hmm⟩:∃ m,s.ml.length=m:=⟨_,rfl⟩
 rw [hn] at hm
 rw [hmm] at hml
 have hlt:∀ g,vm.ownBlock=some g→g<w.heap.size:=fun g hg=>(hR.om.lt g hg).2
 obtain⟨ma,mc,rfl⟩:=L8.owns_slice hR.om
 obtain⟨la,lc,rfl⟩:=L8.owns_slice hR.oml
 rw [hn,hmm] at hrow hR
 rw [hn] at hlt
 have hb0:=heap_alloc_last w (.cells #[.string d.nm,.int .i64 d.key,.int .i64 d.val,.int .i64 d.ent] 70)
 have hrow0:=L8.row_up hrow (L8.bnew w (.cells #[.string d.nm,.int .i64 d.key,.int .i64 d.val,.int .i64 d.ent] 70))
 have hR0:=hR.below (L8.bnew w (.cells #[.string d.nm,.int .i64 d.key,.int .i64 d.val,.int .i64 d.ent] 70))
 have hB0:Fk kr B w (w.alloc (.cells #[.string d.nm,.int .i64 d.key,.int .i64 d.val,.int .i64 d.ent] 70)):=(Fk.refl kr B w).alloc hB _
 have hT0:=KT.below (L8.bnew w (.cells #[.string d.nm,.int .i64 d.key,.int .i64 d.val,.int .i64 d.ent] 70))
 obtain⟨kb,hkb⟩:∃ kb,kb=w.heap.size:=⟨_,rfl⟩
 have hkrb:kr<kb:=by rw [hkb];exact lt_of_block hrow
 go_enter Tryz.func120,Tryz.ntmps120
 go_upto_region 1 with (fail)
 rw [← hkb] at hb0 hlt ⊢
 clear hkb hrow hR
 generalize w.alloc (.cells #[.string d.nm,.int .i64 d.key,.int .i64 d.val,.int .i64 d.ent] 70)=W at hb0 hrow0 hR0 hB0 hT0 ⊢
 have hb1:=L8.row_up hb0 (drew_below W)
 have hrow1:=L8.row_up hrow0 (drew_below W)
 have hR1:=hR0.below (drew_below W)
 have hB1:=hB0.drew
 have hT1:=hT0.trans (KT.below (drew_below W))
 clear hb0 hrow0 hR0 hB0 hT0
 refine wp_region_noPanic ?_
 refine wp_region_held_drew (S:=fun W=>W.cell? ⟨kb,0,none⟩=some (.string d.nm)∧W.cell? ⟨kb,1,none⟩=some (.int .i64 d.key)∧W.cell? ⟨kb,2,none⟩=some (.int .i64 d.val)∧W.cell? ⟨kb,3,none⟩=some (.int .i64 d.ent)) (by kernel_rfl) (cells4 hb1) (fun hH=>?_)
 generalize W.drew=Wd at hb1 hrow1 hR1 hB1 hT1 hH ⊢
 refine wpAnyH_take (i:=0) (oi:=⟨some 4,.move (.tmp 0),_,_,_,none⟩) (v:=.pointer (some ⟨kr,0,none⟩)) rfl (by kernel_rfl) (by kernel_rfl) (by kernel_rfl) (fun _ _ _ h=>h) (Or.inl ⟨by rfl,fun wS hS=>(by go_simp)⟩) hH ?_
 simp only [Act.put,zA,zB,zC]
 refine wpAnyH_take (i:=1) (oi:=⟨some 5,.move (.tmp 0),_,_,_,none⟩) (v:=.pointer (some ⟨kr,0,none⟩)) rfl (by kernel_rfl) (by kernel_rfl) (by kernel_rfl) (fun _ _ _ h=>h) (Or.inl ⟨by rfl,fun wS hS=>(by go_simp)⟩) hH ?_
 simp only [Act.put,zA,zB,zC]
 refine wpAnyH_take (i:=2) (oi:=⟨some 6,.nilCheck (.tmp 5),_,_,_,none⟩) (v:=.pointer (some ⟨kr,0,none⟩)) rfl (by kernel_rfl) (by kernel_rfl) (by kernel_rfl) (fun _ _ _ h=>h) (Or.inl ⟨by rfl,fun wS hS=>(by go_simp)⟩) hH ?_
 simp only [Act.put,zA,zB,zC]
 refine wpAnyH_take (i:=3) (oi:=⟨some 7,.fieldAddr 129 (.tmp 6) 0,_,_,_,none⟩) (v:=.pointer (some ⟨kr,0,none⟩)) rfl (by kernel_rfl) (by kernel_rfl) (by kernel_rfl) (fun _ _ _ h=>h) (Or.inl ⟨by rfl,fun wS hS=>(by go_simp)⟩) hH ?_
 simp only [Act.put,zA,zB,zC]
 refine wpAnyH_take (i:=4) (oi:=⟨some 8,.fieldAddr 25 (.tmp 7) 0,_,_,_,none⟩) (v:=.pointer (some ⟨kr,0,none⟩)) rfl (by kernel_rfl) (by kernel_rfl) (by kernel_rfl) (fun _ _ _ h=>h) (Or.inl ⟨by rfl,fun wS hS=>(by go_simp)⟩) hH ?_
 simp only [Act.put,zA,zB,zC]
 refine wpAnyH_take (i:=6) (oi:=⟨some 10,.load 70 (.tmp 3),_,_,_,none⟩) (v:=.agg #[.string d.nm,.int .i64 d.key,.int .i64 d.val,.int .i64 d.ent]) rfl (by kernel_rfl) (by kernel_rfl) (by kernel_rfl) (fun _ _ _ h=>h) (Or.inl ⟨by rfl,fun wS hS=>(by obtain⟨d0,d1,d2,d3⟩:=hS;go_simp)⟩) hH ?_
 simp only [Act.put,zA,zB,zC]
 refine wpAnyH_ready (rs:=[5,7]) (by kernel_rfl) (by simp) ?_
 refine AllReadyH.cons (o:=⟨some 9,.load 22 (.tmp 8),_,_,_,none⟩) rfl (fun K hK=>?_) (AllReadyH.cons (o:=⟨some 11,.buildSlice 22 1 #[(0,.tmp 10)],_,_,_,none⟩) rfl (fun K hK=>?_) AllReadyH.nil)
 focus
  obtain⟨x0,x1,x2,x3,x4,x5,x6⟩:=cells7 hrow1
  go_simp
  refine hK.out _ _ hH (fun _=>?_)
  clear hK K x0 x1 x2 x3 x4 x5 x6
  (try simp only [Act.put,zA,zB,zC])
  refine wpAnyH_ready (rs:=[7]) (by kernel_rfl) (by simp) ?_
  refine AllReadyH.cons (o:=⟨some 11,.buildSlice 22 1 #[(0,.tmp 10)],_,_,_,none⟩) rfl (fun K hK=>?_) AllReadyH.nil
  go_simp
  have hb2:=L8.row_up hb1 (L8.bnew Wd (.cells #[.string d.nm,.int .i64 d.key,.int .i64 d.val,.int .i64 d.ent] 70))
  have hrow2:=L8.row_up hrow1 (L8.bnew Wd (.cells #[.string d.nm,.int .i64 d.key,.int .i64 d.val,.int .i64 d.ent] 70))
  have hR2:=hR1.below (L8.bnew Wd (.cells #[.string d.nm,.int .i64 d.key,.int .i64 d.val,.int .i64 d.ent] 70))
  have hn2:=heap_alloc_last Wd (.cells #[.string d.nm,.int .i64 d.key,.int .i64 d.val,.int .i64 d.ent] 70)
  have hBd:=(hB1.alloc (Nat.le_trans hB hB1.size) (.cells #[.string d.nm,.int .i64 d.key,.int .i64 d.val,.int .i64 d.ent] 70))
  have hTd:=hT1.trans (KT.below (L8.bnew Wd (.cells #[.string d.nm,.int .i64 d.key,.int .i64 d.val,.int .i64 d.ent] 70)))
  refine hK.out _ _ (cells4 hb2) (fun hH2=>?_)
  clear hK K hb1 hrow1 hR1 hB1 hT1 hH
  obtain⟨gn,hgn⟩:∃ gn,Wd.heap.size=gn:=⟨_,rfl⟩
  rw [hgn] at hn2 ⊢
  generalize Wd.alloc (.cells #[.string d.nm,.int .i64 d.key,.int .i64 d.val,.int .i64 d.ent] 70)=W2 at hb2 hrow2 hR2 hn2 hBd hTd hH2 ⊢
  clear hgn
  (try simp only [Act.put,zA,zB,zC])
 rotate_left
 focus
  go_simp
  have hb2:=L8.row_up hb1 (L8.bnew Wd (.cells #[.string d.nm,.int .i64 d.key,.int .i64 d.val,.int .i64 d.ent] 70))
  have hrow2:=L8.row_up hrow1 (L8.bnew Wd (.cells #[.string d.nm,.int .i64 d.key,.int .i64 d.val,.int .i64 d.ent] 70))
  have hR2:=hR1.below (L8.bnew Wd (.cells #[.string d.nm,.int .i64 d.key,.int .i64 d.val,.int .i64 d.ent] 70))
  have hn2:=heap_alloc_last Wd (.cells #[.string d.nm,.int .i64 d.key,.int .i64 d.val,.int .i64 d.ent] 70)
  have hBd:=(hB1.alloc (Nat.le_trans hB hB1.size) (.cells #[.string d.nm,.int .i64 d.key,.int .i64 d.val,.int .i64 d.ent] 70))
  have hTd:=hT1.trans (KT.below (L8.bnew Wd (.cells #[.string d.nm,.int .i64 d.key,.int .i64 d.val,.int .i64 d.ent] 70)))
  refine hK.out _ _ (cells4 hb2) (fun hH2=>?_)
  clear hK K hb1 hrow1 hR1 hB1 hT1 hH
  obtain⟨gn,hgn⟩:∃ gn,Wd.heap.size=gn:=⟨_,rfl⟩
  rw [hgn] at hn2 ⊢
  generalize Wd.alloc (.cells #[.string d.nm,.int .i64 d.key,.int .i64 d.val,.int .i64 d.ent] 70)=W2 at hb2 hrow2 hR2 hn2 hBd hTd hH2 ⊢
  clear hgn
  (try simp only [Act.put,zA,zB,zC])
  obtain⟨x0,x1,x2,x3,x4,x5,x6⟩:=cells7 hrow2
  refine wpAnyH_ready (rs:=[5]) (by kernel_rfl) (by simp) ?_
  refine AllReadyH.cons (o:=⟨some 9,.load 22 (.tmp 8),_,_,_,none⟩) rfl (fun K hK=>?_) AllReadyH.nil
  go_simp
  refine hK.out _ _ hH2 (fun _=>?_)
  clear hK K x0 x1 x2 x3 x4 x5 x6
  (try simp only [Act.put,zA,zB,zC])
 all_goals
  refine wpAnyH_ready (rs:=[8]) (by kernel_rfl) (by simp) ?_
  refine AllReadyH.cons (o:=⟨some 12,.call { callee:=.builtin .append,args:=#[.tmp 9,.tmp 11],argTypes:=#[22,22] },_,_,_,none⟩) rfl (fun K hK=>?_) AllReadyH.nil
  have hom:=hR2.om
  rw [hn] at hom
  refine step_append_lies _ (by rfl) _ _ _ (by rfl) B 70 i0 (.agg #[.string ⟨#[]⟩,.int .i64 0,.int .i64 0,.int .i64 0]) 4 40 Tryz.underlying22 hi hz0 hz1 hz2 rfl (by decide) _ n _ (by rfl) hom ⟨gn,0,none⟩ 1 1 (dfL d) (by rfl) (by rfl) (World.news_of_block (cs:=#[.string d.nm,.int .i64 d.key,.int .i64 d.val,.int .i64 d.ent]) (t:=70) (fr:=(0,0)) hn2) (by simp [Value.oneCell']) (by omega) (by unfold maxLen;omega) (by omega) (Nat.le_trans hB hBd.size) _ rfl ?_
  intro g cap w3 hown3 hgrow3 hat3 hlt3
  have hrow3:=row_own hrow2 hom hgrow3 (by decide)
  have hb3:=own_far hom hlt hb2 (Nat.le_refl _) hgrow3
  have hR3:=hR2.addDef d (by rw [hn];exact hown3) hgrow3
  rw [hn] at hR3
  have hBd3:=hBd.grown hgrow3 (Nat.le_trans hB hBd.size) (own_base2 hom)
  have hTd3:=hTd.trans (KT.own hom hgrow3 (by decide))
  refine hK.out _ _ (cells4 hb3) (fun hH3=>?_)
  clear hK K hb2 hrow2 hR2 hn2 hH2 hown3 hgrow3 hat3 hlt3 hom hBd hTd hlt
  (try simp only [Act.put,zA,zB,zC])
  refine wpAnyH_take (i:=9) (oi:=⟨some 13,.nilCheck (.tmp 4),_,_,_,none⟩) (v:=.pointer (some ⟨kr,0,none⟩)) rfl (by kernel_rfl) (by kernel_rfl) (by kernel_rfl) (fun _ _ _ h=>h) (Or.inl ⟨by rfl,fun wS hS=>(by go_simp)⟩) hH3 ?_
  simp only [Act.put,zA,zB,zC]
  refine wpAnyH_take (i:=10) (oi:=⟨some 14,.fieldAddr 129 (.tmp 13) 0,_,_,_,none⟩) (v:=.pointer (some ⟨kr,0,none⟩)) rfl (by kernel_rfl) (by kernel_rfl) (by kernel_rfl) (fun _ _ _ h=>h) (Or.inl ⟨by rfl,fun wS hS=>(by go_simp)⟩) hH3 ?_
  simp only [Act.put,zA,zB,zC]
  refine wpAnyH_take (i:=11) (oi:=⟨some 15,.fieldAddr 25 (.tmp 14) 0,_,_,_,none⟩) (v:=.pointer (some ⟨kr,0,none⟩)) rfl (by kernel_rfl) (by kernel_rfl) (by kernel_rfl) (fun _ _ _ h=>h) (Or.inl ⟨by rfl,fun wS hS=>(by go_simp)⟩) hH3 ?_
  simp only [Act.put,zA,zB,zC]
  obtain⟨x0,x1,x2,x3,x4,x5,x6⟩:=cells7 hrow3
  have fz:=frozen_all hrow3 0
  have hR4:=hR3.rd (gr_setCell w3 kr 0 (.slice (some ⟨g,0,none⟩) (n+1) cap)) hrow3
  have hrow4:=row_set hrow3 0 (.slice (some ⟨g,0,none⟩) (n+1) cap)
  have hB4:=Fk.set hBd3 0 (.slice (some ⟨g,0,none⟩) (n+1) cap)
  have hT4:=hTd3.trans (KT.gr (gr_setCell w3 kr 0 (.slice (some ⟨g,0,none⟩) (n+1) cap)) hrow3 (by decide))
  have hb4:(w3.setCell ⟨kr,0,none⟩ (.slice (some ⟨g,0,none⟩) (n+1) cap)).heap[kb]?=some (.cells #[.string d.nm,.int .i64 d.key,.int .i64 d.val,.int .i64 d.ent] 70):=(Below.heap_setCell _ _ _ _ (show kb≠kr by omega)).trans hb3
  refine wpAnyH_ready (rs:=[12]) (by kernel_rfl) (by simp) ?_
  refine AllReadyH.cons (o:=⟨none,.store 22 (.tmp 15) (.tmp 12),_,_,_,none⟩) rfl (fun K hK=>?_) AllReadyH.nil
  go_simp
  refine hK.out _ _ (cells4 hb4) (fun hH4=>?_)
  clear hK K hb3 hrow3 hR3 hBd3 hTd3 hH3 x0 x1 x2 x3 x4 x5 x6 fz hb4 hH4
  generalize w3.setCell ⟨kr,0,none⟩ (.slice (some ⟨g,0,none⟩) (n+1) cap)=W5 at hrow4 hR4 hB4 hT4 ⊢
  (try simp only [Act.put,zA,zB,zC])
  refine wpAnyH_done (by kernel_rfl) ?_ _
  refine NoPanic.normal ?_
  go_upto_region 2 with (fail)
  have hrow5:=L8.row_up hrow4 (drew_below W5)
  have hR5:=hR4.below (drew_below W5)
  have hB5:=hB4.drew
  have hT5:=hT4.trans (KT.below (drew_below W5))
  clear hrow4 hR4 hB4 hT4
  refine wp_region_noPanic ?_
  refine wp_region_held_drew (S:=fun W=>W.cell? ⟨kr,6,none⟩=some (.int .i64 s.line)) (by kernel_rfl) ((cells7 hrow5).2.2.2.2.2.2) (fun hH=>?_)
  generalize W5.drew=Wd at hrow5 hR5 hB5 hT5 hH ⊢
  refine wpAnyH_take (i:=0) (oi:=⟨some 16,.move (.tmp 0),_,_,_,none⟩) (v:=.pointer (some ⟨kr,0,none⟩)) rfl (by kernel_rfl) (by kernel_rfl) (by kernel_rfl) (fun _ _ _ h=>h) (Or.inl ⟨by rfl,fun wS hS=>(by go_simp)⟩) hH ?_
  simp only [Act.put,zA,zB,zC]
  refine wpAnyH_take (i:=1) (oi:=⟨some 17,.move (.tmp 0),_,_,_,none⟩) (v:=.pointer (some ⟨kr,0,none⟩)) rfl (by kernel_rfl) (by kernel_rfl) (by kernel_rfl) (fun _ _ _ h=>h) (Or.inl ⟨by rfl,fun wS hS=>(by go_simp)⟩) hH ?_
  simp only [Act.put,zA,zB,zC]
  refine wpAnyH_take (i:=2) (oi:=⟨some 18,.nilCheck (.tmp 17),_,_,_,none⟩) (v:=.pointer (some ⟨kr,0,none⟩)) rfl (by kernel_rfl) (by kernel_rfl) (by kernel_rfl) (fun _ _ _ h=>h) (Or.inl ⟨by rfl,fun wS hS=>(by go_simp)⟩) hH ?_
  simp only [Act.put,zA,zB,zC]
  refine wpAnyH_take (i:=3) (oi:=⟨some 19,.fieldAddr 129 (.tmp 18) 1,_,_,_,none⟩) (v:=.pointer (some ⟨kr,2,none⟩)) rfl (by kernel_rfl) (by kernel_rfl) (by kernel_rfl) (fun _ _ _ h=>h) (Or.inl ⟨by rfl,fun wS hS=>(by go_simp)⟩) hH ?_
  simp only [Act.put,zA,zB,zC]
  refine wpAnyH_take (i:=5) (oi:=⟨some 21,.move (.tmp 0),_,_,_,none⟩) (v:=.pointer (some ⟨kr,0,none⟩)) rfl (by kernel_rfl) (by kernel_rfl) (by kernel_rfl) (fun _ _ _ h=>h) (Or.inl ⟨by rfl,fun wS hS=>(by go_simp)⟩) hH ?_
  simp only [Act.put,zA,zB,zC]
  refine wpAnyH_take (i:=6) (oi:=⟨some 22,.nilCheck (.tmp 21),_,_,_,none⟩) (v:=.pointer (some ⟨kr,0,none⟩)) rfl (by kernel_rfl) (by kernel_rfl) (by kernel_rfl) (fun _ _ _ h=>h) (Or.inl ⟨by rfl,fun wS hS=>(by go_simp)⟩) hH ?_
  simp only [Act.put,zA,zB,zC]
  refine wpAnyH_take (i:=7) (oi:=⟨some 23,.fieldAddr 129 (.tmp 22) 5,_,_,_,none⟩) (v:=.pointer (some ⟨kr,6,none⟩)) rfl (by kernel_rfl) (by kernel_rfl) (by kernel_rfl) (fun _ _ _ h=>h) (Or.inl ⟨by rfl,fun wS hS=>(by go_simp)⟩) hH ?_
  simp only [Act.put,zA,zB,zC]
  refine wpAnyH_take (i:=8) (oi:=⟨some 24,.load 3 (.tmp 23),_,_,_,none⟩) (v:=.int .i64 s.line) rfl (by kernel_rfl) (by kernel_rfl) (by kernel_rfl) (fun _ _ _ h=>h) (Or.inl ⟨by rfl,fun wS hS=>(by have d0:wS.cell? ⟨kr,6,none⟩=some (.int .i64 s.line):=hS;go_simp)⟩) hH ?_
  simp only [Act.put,zA,zB,zC]
  refine wpAnyH_ready (rs:=[4,9]) (by kernel_rfl) (by simp) ?_
  refine AllReadyH.cons (o:=⟨some 20,.load 80 (.tmp 19),_,_,_,none⟩) rfl (fun K hK=>?_) (AllReadyH.cons (o:=⟨some 25,.buildSlice 80 1 #[(0,.tmp 24)],_,_,_,none⟩) rfl (fun K hK=>?_) AllReadyH.nil)
  focus
   obtain⟨x0,x1,x2,x3,x4,x5,x6⟩:=cells7 hrow5
   go_simp
   refine hK.out _ _ hH (fun _=>?_)
   clear hK K x0 x1 x2 x3 x4 x5 x6
   (try simp only [Act.put,zA,zB,zC])
   refine wpAnyH_ready (rs:=[9]) (by kernel_rfl) (by simp) ?_
   refine AllReadyH.cons (o:=⟨some 25,.buildSlice 80 1 #[(0,.tmp 24)],_,_,_,none⟩) rfl (fun K hK=>?_) AllReadyH.nil
   go_simp
   have hrow6:=L8.row_up hrow5 (L8.bnew Wd (.cells #[.int .i64 s.line] 3))
   have hR6:=hR5.below (L8.bnew Wd (.cells #[.int .i64 s.line] 3))
   have hn6:=heap_alloc_last Wd (.cells #[.int .i64 s.line] 3)
   have hB6:=(hB5.alloc (Nat.le_trans hB hB5.size) (.cells #[.int .i64 s.line] 3))
   have hT6:=hT5.trans (KT.below (L8.bnew Wd (.cells #[.int .i64 s.line] 3)))
   refine hK.out _ _ (cells7 hrow6).2.2.2.2.2.2 (fun hH6=>?_)
   clear hK K hrow5 hR5 hB5 hT5 hH
   obtain⟨gn,hgn⟩:∃ gn,Wd.heap.size=gn:=⟨_,rfl⟩
   rw [hgn] at hn6 ⊢
   generalize Wd.alloc (.cells #[.int .i64 s.line] 3)=W6 at hrow6 hR6 hn6 hB6 hT6 hH6 ⊢
   clear hgn
   (try simp only [Act.put,zA,zB,zC])
  rotate_left
  focus
   go_simp
   have hrow6:=L8.row_up hrow5 (L8.bnew Wd (.cells #[.int .i64 s.line] 3))
   have hR6:=hR5.below (L8.bnew Wd (.cells #[.int .i64 s.line] 3))
   have hn6:=heap_alloc_last Wd (.cells #[.int .i64 s.line] 3)
   have hB6:=(hB5.alloc (Nat.le_trans hB hB5.size) (.cells #[.int .i64 s.line] 3))
   have hT6:=hT5.trans (KT.below (L8.bnew Wd (.cells #[.int .i64 s.line] 3)))
   refine hK.out _ _ (cells7 hrow6).2.2.2.2.2.2 (fun hH6=>?_)
   clear hK K hrow5 hR5 hB5 hT5 hH
   obtain⟨gn,hgn⟩:∃ gn,Wd.heap.size=gn:=⟨_,rfl⟩
   rw [hgn] at hn6 ⊢
   generalize Wd.alloc (.cells #[.int .i64 s.line] 3)=W6 at hrow6 hR6 hn6 hB6 hT6 hH6 ⊢
   clear hgn
   (try simp only [Act.put,zA,zB,zC])
   obtain⟨x0,x1,x2,x3,x4,x5,x6⟩:=cells7 hrow6
   refine wpAnyH_ready (rs:=[4]) (by kernel_rfl) (by simp) ?_
   refine AllReadyH.cons (o:=⟨some 20,.load 80 (.tmp 19),_,_,_,none⟩) rfl (fun K hK=>?_) AllReadyH.nil
   go_simp
   refine hK.out _ _ hH6 (fun _=>?_)
   clear hK K x0 x1 x2 x3 x4 x5 x6
   (try simp only [Act.put,zA,zB,zC])
  all_goals
   refine wpAnyH_ready (rs:=[10]) (by kernel_rfl) (by simp) ?_
   refine AllReadyH.cons (o:=⟨some 26,.call { callee:=.builtin .append,args:=#[.tmp 20,.tmp 25],argTypes:=#[80,80] },_,_,_,none⟩) rfl (fun K hK=>?_) AllReadyH.nil
   have hom:=hR6.oml
   have hcn:=hmm
   rw [hcn] at hom
   refine step_append_lies _ (by rfl) _ _ _ (by rfl) B 3 j0 (.int .i64 0) 1 8 Tryz.underlying80 hj hy0 hy1 hy2 rfl (by decide) _ m _ (by rfl) hom ⟨gn,0,none⟩ 1 1 [.int .i64 s.line] (by rfl) (by rfl) (World.news_of_block (cs:=#[.int .i64 s.line]) (t:=3) (fr:=(0,0)) hn6) (by simp [Value.oneCell']) (by omega) (by unfold maxLen;omega) (by omega) (Nat.le_trans hB hB6.size) _ rfl ?_
   intro g7 cap7 w7 hown7 hgrow7 hat7 hlt7
   have hrow7:=row_own hrow6 hom hgrow7 (by decide)
   have hR7:=hR6.addMl s.line (by rw [hcn];exact hown7) hgrow7 hat7
   rw [hcn] at hR7
   have hB7:=hB6.grown hgrow7 (Nat.le_trans hB hB6.size) (own_base2 hom)
   have hT7:=hT6.trans (KT.own hom hgrow7 (by decide))
   refine hK.out _ _ (cells7 hrow7).2.2.2.2.2.2 (fun hH7=>?_)
   clear hK K hrow6 hR6 hn6 hH6 hown7 hgrow7 hat7 hlt7 hom hB6 hT6
   (try simp only [Act.put,zA,zB,zC])
   refine wpAnyH_take (i:=11) (oi:=⟨some 27,.nilCheck (.tmp 16),_,_,_,none⟩) (v:=.pointer (some ⟨kr,0,none⟩)) rfl (by kernel_rfl) (by kernel_rfl) (by kernel_rfl) (fun _ _ _ h=>h) (Or.inl ⟨by rfl,fun wS hS=>(by go_simp)⟩) hH7 ?_
   simp only [Act.put,zA,zB,zC]
   refine wpAnyH_take (i:=12) (oi:=⟨some 28,.fieldAddr 129 (.tmp 27) 1,_,_,_,none⟩) (v:=.pointer (some ⟨kr,2,none⟩)) rfl (by kernel_rfl) (by kernel_rfl) (by kernel_rfl) (fun _ _ _ h=>h) (Or.inl ⟨by rfl,fun wS hS=>(by go_simp)⟩) hH7 ?_
   simp only [Act.put,zA,zB,zC]
   obtain⟨x0,x1,x2,x3,x4,x5,x6⟩:=cells7 hrow7
   have fz:=frozen_all hrow7 2
   have hR8:=hR7.rd (gr_setCell w7 kr 2 (.slice (some ⟨g7,0,none⟩) (m+1) cap7)) hrow7
   have hrow8:=row_set hrow7 2 (.slice (some ⟨g7,0,none⟩) (m+1) cap7)
   have hB8:=Fk.set hB7 2 (.slice (some ⟨g7,0,none⟩) (m+1) cap7)
   have hT8:=hT7.trans (KT.gr (gr_setCell w7 kr 2 (.slice (some ⟨g7,0,none⟩) (m+1) cap7)) hrow7 (by decide))
   refine wpAnyH_ready (rs:=[13]) (by kernel_rfl) (by simp) ?_
   refine AllReadyH.cons (o:=⟨none,.store 80 (.tmp 28) (.tmp 26),_,_,_,none⟩) rfl (fun K hK=>?_) AllReadyH.nil
   go_simp
   refine hK.out _ _ (cells7 hrow8).2.2.2.2.2.2 (fun hH8=>?_)
   clear hK K hrow7 hR7 hB7 hT7 hH7 x0 x1 x2 x3 x4 x5 x6 fz hH8
   generalize w7.setCell ⟨kr,2,none⟩ (.slice (some ⟨g7,0,none⟩) (m+1) cap7)=W9 at hrow8 hR8 hB8 hT8 ⊢
   (try simp only [Act.put,zA,zB,zC])
   refine wpAnyH_done (by kernel_rfl) ?_ _
   refine NoPanic.normal ?_
   go_wp2
   go_end0
   exact⟨rfl,⟨_,_,_,_,_,hrow8,hR8⟩,hB8,hT8⟩
end Go.Proofs.YtgljoilddjmohaaGreatDoor.L10
end
section
set_option maxRecDepth 100000
set_option maxHeartbeats 2000000
namespace Go.Proofs.YtgljoilddjmohaaGreatDoor.L10
open Go.RowKit Go.Maps
attribute [local go_sem] Oper.semAt_some
def lnO (s:Rd) (b:Bool) (k:Nat):Int:=if h:k<(if b then s.ml else s.sl).length then (if b then s.ml else s.sl)[k] else s.line
theorem own_int {W:World} {B e:TypeId} {v:Value} {xs:List Int} (h:W.ownsRow B e 1 v xs.length (inI xs)):∃ a c,v=.slice a xs.length c∧(∀ k,(h:k<xs.length)→∃ b,a=some ⟨b,0,none⟩∧W.cell? ⟨b,k,none⟩=some (.int .i64 xs[k])):=by
 rcases h.2 with ⟨rfl,h0⟩|⟨g,cap,cur,rfl,_,hh,_⟩
 ·exact⟨none,0,by rw [h0],fun k hk=>by omega⟩
 ·refine⟨_,_,rfl,fun k hk=>⟨g,rfl,?_⟩⟩
  have:=h.cells (g:=g) rfl k (.int .i64 xs[k]) (by simp [inI,List.getElem?_eq_getElem hk])
  rwa [L8.add0] at this
theorem lineOf_at (B kr:Nat) (l:List (Value × Stm)) (s:Rd) (b:Bool) (k:Nat) (w:World) (h:RdM B kr w l s) (r:Int) (hr:lnO s b k=r) :
  Calls Tryz.prog 78 #[.pointer (some ⟨kr,0,none⟩),.agg #[.bool b,.int .i64 (k:Int)]] w fun e w'=>e=.returned (.int .i64 r)∧Below w.heap.size w w':=by
 obtain⟨vm,vs,mv,sv,lv,hrow,hR⟩:=h
 obtain⟨ma,mc,rfl,hmc⟩:=own_int hR.oml
 obtain⟨sa,sc,rfl,hsc⟩:=own_int hR.osl
 obtain⟨x0,x1,x2,x3,x4,x5,x6⟩:=cells7 hrow
 have hkl:=lt_of_block hrow
 have hw:w.heap.size≠kr:=by omega
 clear hR hrow
 unfold lnO at hr
 cases b
 ·simp only [Bool.false_eq_true,if_false] at hr
  by_cases hkn:k<s.sl.length
  ·rw [dif_pos hkn] at hr
   obtain⟨bb,rfl,hc⟩:=hsc k hkn
   rw [hr] at hc
   have hbl:=World.block_lt_of_cell? w _ hc
   have hk1:(k:Int)<(s.sl.length:Int):=by omega
   have hk2:¬ (s.sl.length:Int)≤(k:Int):=by omega
   clear hmc hsc hr
   go_enter Tryz.func78,Tryz.ntmps78
   go_wp2
   go_ret
   exact⟨rfl,L8.bnew _ _⟩
  ·rw [dif_neg hkn] at hr
   subst hr
   have hk2:(s.sl.length:Int)≤(k:Int):=by omega
   clear hmc hsc
   go_enter Tryz.func78,Tryz.ntmps78
   go_wp2
   go_ret
   exact⟨rfl,L8.bnew _ _⟩
 ·simp only [if_true] at hr
  by_cases hkn:k<s.ml.length
  ·rw [dif_pos hkn] at hr
   obtain⟨bb,rfl,hc⟩:=hmc k hkn
   rw [hr] at hc
   have hbl:=World.block_lt_of_cell? w _ hc
   have hk1:(k:Int)<(s.ml.length:Int):=by omega
   have hk2:¬ (s.ml.length:Int)≤(k:Int):=by omega
   clear hmc hsc hr
   go_enter Tryz.func78,Tryz.ntmps78
   go_wp2
   go_ret
   exact⟨rfl,L8.bnew _ _⟩
  ·rw [dif_neg hkn] at hr
   subst hr
   have hk2:(s.ml.length:Int)≤(k:Int):=by omega
   clear hmc hsc
   go_enter Tryz.func78,Tryz.ntmps78
   go_wp2
   go_ret
   exact⟨rfl,L8.bnew _ _⟩
end Go.Proofs.YtgljoilddjmohaaGreatDoor.L10
end
section
set_option maxRecDepth 100000
set_option maxHeartbeats 8000000
namespace Go.Proofs.YtgljoilddjmohaaGreatDoor.L10
open Go.RowKit Go.Maps
attribute [local go_sem] Oper.semAt_some
theorem cells8 {w:World} {k:Nat} {a b c d e f g h:Value} {t:TypeId} (hh:w.heap[k]?=some (.cells #[a,b,c,d,e,f,g,h] t)) :
  w.cell? ⟨k,0,none⟩=some a∧w.cell? ⟨k,1,none⟩=some b∧w.cell? ⟨k,2,none⟩=some c∧w.cell? ⟨k,3,none⟩=some d∧w.cell? ⟨k,4,none⟩=some e∧w.cell? ⟨k,5,none⟩=some f∧w.cell? ⟨k,6,none⟩=some g∧w.cell? ⟨k,7,none⟩=some h:=by
 simp [World.cell?,hh]
theorem keep1 {w:World} {kb kr:Nat} {a b c d e f g h i:Value} {cs:Array Value} {t t':TypeId} (hh:w.heap[kb]?=some (.cells #[a,b,c,d,e,f,g,h] t)) (hr:w.heap[kr]?=some (.cells cs t')) (hi:cs[4]?=some i) :
  w.cell? ⟨kb,0,none⟩=some a∧w.cell? ⟨kb,1,none⟩=some b∧w.cell? ⟨kb,2,none⟩=some c∧w.cell? ⟨kb,3,none⟩=some d∧w.cell? ⟨kb,4,none⟩=some e∧w.cell? ⟨kb,5,none⟩=some f∧w.cell? ⟨kb,6,none⟩=some g∧w.cell? ⟨kb,7,none⟩=some h∧w.cell? ⟨kr,4,none⟩=some i:=by
 obtain⟨h0,h1,h2,h3,h4,h5,h6,h7⟩:=cells8 hh
 exact⟨h0,h1,h2,h3,h4,h5,h6,h7,cell_row hr hi⟩
theorem RdR.fresh {B:Nat} {W W':World} {vm vs mv sv lv:Value} {l:List (Value × Stm)} {s:Rd} {k H:Nat} {cs:Array Value} (h:RdR B W vm vs mv sv lv l s) (hg:W.grownBy W' (some k)) (hH:H≤k) (hlt:∀ g,vs.ownBlock=some g→g<H) (hk:W.heap[k]?=some (.cells cs 52)):RdR B W' vm vs mv sv lv l s:=by
 have key:∀ {e:TypeId} {g:Nat} {cur:Array Value} {fr:Nat × Nat},W.heap[g]?=some (.cells cur e fr)→e≠52→some k≠some g:=by
  intro e g cur fr hh he e'
  cases e'
  rw [hk] at hh
  cases hh
  exact he rfl
 refine⟨own_kept h.om hg fun g hv=>?_,own_kept h.os hg fun g hv e=>?_,own_kept h.oml hg fun g hv=>?_,own_kept h.osl hg fun g hv=>?_,own_kept h.ol hg fun g hv=>?_,fun x hx=>(h.lb x hx).kept hg fun g hv=>?_,h.nl,h.ne,h.st⟩
 ·obtain⟨c,hc⟩:=own_ty h.om hv;exact key hc (by decide)
 ·cases e;have:=hlt k hv;omega
 ·obtain⟨c,hc⟩:=own_ty h.oml hv;exact key hc (by decide)
 ·obtain⟨c,hc⟩:=own_ty h.osl hv;exact key hc (by decide)
 ·obtain⟨c,hc⟩:=own_ty h.ol hv;exact key hc (by decide)
 ·obtain⟨c,fr,hc⟩:=(h.lb x hx).2 g hv;exact key hc (by decide)
theorem addCode_at (B kr:Nat) (x:L9.Ins) (tg mp:ByteArray) (l:List (Value × Stm)) (s:Rd) (w:World) (h:RdM B kr w l s) (hB:B≤w.heap.size) (hm:l.length≤100000) (hml:s.sl.length≤100000) :
  Calls Tryz.prog 121 #[.pointer (some ⟨kr,0,none⟩),.agg #[.int .i64 x.op,.bool x.reg,.int .i64 x.dst,.int .i64 x.src,.int .i64 x.off,.int .i64 x.imm,.string tg,.string mp]] w fun e w'=>e=.returned (.tuple #[])∧(∃ lv,RdM B kr w' (l++[(lv,⟨s.labs,x,tg,mp⟩)]) (s.cod x tg mp))∧Fk kr B w w'∧KT w w':=by
 obtain⟨i0,hi,hz0,hz1,hz2⟩:=info_parts infoS
 obtain⟨j0,hj,hy0,hy1,hy2⟩:=info_parts infoI
 obtain⟨vm,vs,mv,sv,lv,hrow,hR⟩:=h
 obtain⟨n,hn⟩:∃ n,s.labs.length=n:=⟨_,rfl⟩
 obtain⟨q,hq⟩:∃ q,l.length=q:=⟨_,rfl⟩
 obtain⟨m,hmm⟩:∃ m,s.sl.length=m:=⟨_,rfl⟩
 rw [hq] at hm
 rw [hmm] at hml
 have hlt:∀ g,vs.ownBlock=some g→g<w.heap.size:=fun g hg=>(hR.os.lt g hg).2
 obtain⟨la,lc,rfl⟩:=L8.owns_slice hR.ol
 obtain⟨sa,sc,rfl⟩:=L8.owns_slice hR.os
 obtain⟨na,nc,rfl⟩:=L8.owns_slice hR.osl
 rw [hn,hq,hmm] at hrow hR
 rw [hq] at hlt
 have hb0:=heap_alloc_last w (.cells #[.int .i64 x.op,.bool x.reg,.int .i64 x.dst,.int .i64 x.src,.int .i64 x.off,.int .i64 x.imm,.string tg,.string mp] 185)
 have hrow0:=L8.row_up hrow (L8.bnew w (.cells #[.int .i64 x.op,.bool x.reg,.int .i64 x.dst,.int .i64 x.src,.int .i64 x.off,.int .i64 x.imm,.string tg,.string mp] 185))
 have hR0:=hR.below (L8.bnew w (.cells #[.int .i64 x.op,.bool x.reg,.int .i64 x.dst,.int .i64 x.src,.int .i64 x.off,.int .i64 x.imm,.string tg,.string mp] 185))
 have hB0:Fk kr B w (w.alloc (.cells #[.int .i64 x.op,.bool x.reg,.int .i64 x.dst,.int .i64 x.src,.int .i64 x.off,.int .i64 x.imm,.string tg,.string mp] 185)):=(Fk.refl kr B w).alloc hB _
 have hT0:=KT.below (L8.bnew w (.cells #[.int .i64 x.op,.bool x.reg,.int .i64 x.dst,.int .i64 x.src,.int .i64 x.off,.int .i64 x.imm,.string tg,.string mp] 185))
 have hsz0:w.heap.size≤(w.alloc (.cells #[.int .i64 x.op,.bool x.reg,.int .i64 x.dst,.int .i64 x.src,.int .i64 x.off,.int .i64 x.imm,.string tg,.string mp] 185)).heap.size:=by simp
 obtain⟨kb,hkb⟩:∃ kb,kb=w.heap.size:=⟨_,rfl⟩
 have hkrb:kr<kb:=by rw [hkb];exact lt_of_block hrow
 go_enter Tryz.func121,Tryz.ntmps121
 go_upto_region 1 with (fail)
 rw [← hkb] at hb0 hlt hsz0 ⊢
 clear hkb hrow hR
 generalize w.alloc (.cells #[.int .i64 x.op,.bool x.reg,.int .i64 x.dst,.int .i64 x.src,.int .i64 x.off,.int .i64 x.imm,.string tg,.string mp] 185)=W at hb0 hrow0 hR0 hB0 hT0 hsz0 ⊢
 have hb1:=L8.row_up hb0 (drew_below W)
 have hrow1:=L8.row_up hrow0 (drew_below W)
 have hR1:=hR0.below (drew_below W)
 have hB1:=hB0.drew
 have hT1:=hT0.trans (KT.below (drew_below W))
 have hsz1:kb≤W.drew.heap.size:=Nat.le_trans hsz0 (drew_below W).size
 clear hb0 hrow0 hR0 hB0 hT0 hsz0
 refine wp_region_noPanic ?_
 refine wp_region_held_drew (S:=fun W=>W.cell? ⟨kb,0,none⟩=some (.int .i64 x.op)∧W.cell? ⟨kb,1,none⟩=some (.bool x.reg)∧W.cell? ⟨kb,2,none⟩=some (.int .i64 x.dst)∧W.cell? ⟨kb,3,none⟩=some (.int .i64 x.src)∧W.cell? ⟨kb,4,none⟩=some (.int .i64 x.off)∧W.cell? ⟨kb,5,none⟩=some (.int .i64 x.imm)∧W.cell? ⟨kb,6,none⟩=some (.string tg)∧W.cell? ⟨kb,7,none⟩=some (.string mp)∧W.cell? ⟨kr,4,none⟩=some (.slice la n lc)) (by kernel_rfl) (keep1 hb1 hrow1 rfl) (fun hH=>?_)
 generalize W.drew=Wd at hb1 hrow1 hR1 hB1 hT1 hH hsz1 ⊢
 refine wpAnyH_take (i:=0) (oi:=⟨some 5,.move (.tmp 0),_,_,_,none⟩) (v:=.pointer (some ⟨kr,0,none⟩)) rfl (by kernel_rfl) (by kernel_rfl) (by kernel_rfl) (fun _ _ _ h=>h) (Or.inl ⟨by rfl,fun wS hS=>(by go_simp)⟩) hH ?_
 simp only [Act.put,zA,zB,zC]
 refine wpAnyH_take (i:=1) (oi:=⟨some 6,.nilCheck (.tmp 5),_,_,_,none⟩) (v:=.pointer (some ⟨kr,0,none⟩)) rfl (by kernel_rfl) (by kernel_rfl) (by kernel_rfl) (fun _ _ _ h=>h) (Or.inl ⟨by rfl,fun wS hS=>(by go_simp)⟩) hH ?_
 simp only [Act.put,zA,zB,zC]
 refine wpAnyH_take (i:=2) (oi:=⟨some 7,.fieldAddr 129 (.tmp 6) 3,_,_,_,none⟩) (v:=.pointer (some ⟨kr,4,none⟩)) rfl (by kernel_rfl) (by kernel_rfl) (by kernel_rfl) (fun _ _ _ h=>h) (Or.inl ⟨by rfl,fun wS hS=>(by go_simp)⟩) hH ?_
 simp only [Act.put,zA,zB,zC]
 refine wpAnyH_take (i:=3) (oi:=⟨some 8,.load 48 (.tmp 7),_,_,_,none⟩) (v:=.slice la n lc) rfl (by kernel_rfl) (by kernel_rfl) (by kernel_rfl) (fun _ _ _ h=>h) (Or.inl ⟨by rfl,fun wS hS=>(by obtain⟨d0,d1,d2,d3,d4,d5,d6,d7,d8⟩:=hS;go_simp)⟩) hH ?_
 simp only [Act.put,zA,zB,zC]
 refine wpAnyH_take (i:=4) (oi:=⟨some 9,.fieldAddr 185 (.tmp 3) 0,_,_,_,none⟩) (v:=.pointer (some ⟨kb,0,none⟩)) rfl (by kernel_rfl) (by kernel_rfl) (by kernel_rfl) (fun _ _ _ h=>h) (Or.inl ⟨by rfl,fun wS hS=>(by go_simp)⟩) hH ?_
 simp only [Act.put,zA,zB,zC]
 refine wpAnyH_take (i:=5) (oi:=⟨some 10,.load 50 (.tmp 9),_,_,_,none⟩) (v:=.agg #[.int .i64 x.op,.bool x.reg,.int .i64 x.dst,.int .i64 x.src,.int .i64 x.off,.int .i64 x.imm]) rfl (by kernel_rfl) (by kernel_rfl) (by kernel_rfl) (fun _ _ _ h=>h) (Or.inl ⟨by rfl,fun wS hS=>(by obtain⟨d0,d1,d2,d3,d4,d5,d6,d7,d8⟩:=hS;go_simp)⟩) hH ?_
 simp only [Act.put,zA,zB,zC]
 refine wpAnyH_take (i:=6) (oi:=⟨some 11,.fieldAddr 185 (.tmp 3) 1,_,_,_,none⟩) (v:=.pointer (some ⟨kb,6,none⟩)) rfl (by kernel_rfl) (by kernel_rfl) (by kernel_rfl) (fun _ _ _ h=>h) (Or.inl ⟨by rfl,fun wS hS=>(by go_simp)⟩) hH ?_
 simp only [Act.put,zA,zB,zC]
 refine wpAnyH_take (i:=7) (oi:=⟨some 12,.load 9 (.tmp 11),_,_,_,none⟩) (v:=.string tg) rfl (by kernel_rfl) (by kernel_rfl) (by kernel_rfl) (fun _ _ _ h=>h) (Or.inl ⟨by rfl,fun wS hS=>(by obtain⟨d0,d1,d2,d3,d4,d5,d6,d7,d8⟩:=hS;go_simp)⟩) hH ?_
 simp only [Act.put,zA,zB,zC]
 refine wpAnyH_take (i:=8) (oi:=⟨some 13,.fieldAddr 185 (.tmp 3) 2,_,_,_,none⟩) (v:=.pointer (some ⟨kb,7,none⟩)) rfl (by kernel_rfl) (by kernel_rfl) (by kernel_rfl) (fun _ _ _ h=>h) (Or.inl ⟨by rfl,fun wS hS=>(by go_simp)⟩) hH ?_
 simp only [Act.put,zA,zB,zC]
 refine wpAnyH_take (i:=9) (oi:=⟨some 14,.load 9 (.tmp 13),_,_,_,none⟩) (v:=.string mp) rfl (by kernel_rfl) (by kernel_rfl) (by kernel_rfl) (fun _ _ _ h=>h) (Or.inl ⟨by rfl,fun wS hS=>(by obtain⟨d0,d1,d2,d3,d4,d5,d6,d7,d8⟩:=hS;go_simp)⟩) hH ?_
 simp only [Act.put,zA,zB,zC]
 refine wpAnyH_take (i:=10) (oi:=⟨some 15,.build 52 #[(0,.tmp 8),(1,.tmp 10),(2,.tmp 12),(3,.tmp 14)],_,_,_,none⟩) (v:=.agg #[.slice la n lc,.int .i64 x.op,.bool x.reg,.int .i64 x.dst,.int .i64 x.src,.int .i64 x.off,.int .i64 x.imm,.string tg,.string mp]) rfl (by kernel_rfl) (by kernel_rfl) (by kernel_rfl) (fun _ _ _ h=>h) (Or.inl ⟨by rfl,fun wS hS=>(by go_simp)⟩) hH ?_
 simp only [Act.put,zA,zB,zC]
 refine wpAnyH_ready (rs:=[11]) (by kernel_rfl) (by simp) ?_
 refine AllReadyH.cons (o:=⟨some 4,.alloc 52,_,_,_,none⟩) rfl (fun K hK=>?_) AllReadyH.nil
 go_simp
 have hrow2:=L8.row_up hrow1 (L8.bnew Wd (.cells #[.slice none 0 0,.int .i64 0,.bool false,.int .i64 0,.int .i64 0,.int .i64 0,.int .i64 0,.string ⟨#[]⟩,.string ⟨#[]⟩] 52))
 have hR2:=hR1.below (L8.bnew Wd (.cells #[.slice none 0 0,.int .i64 0,.bool false,.int .i64 0,.int .i64 0,.int .i64 0,.int .i64 0,.string ⟨#[]⟩,.string ⟨#[]⟩] 52))
 have hb2:=L8.row_up hb1 (L8.bnew Wd (.cells #[.slice none 0 0,.int .i64 0,.bool false,.int .i64 0,.int .i64 0,.int .i64 0,.int .i64 0,.string ⟨#[]⟩,.string ⟨#[]⟩] 52))
 have hn2:=heap_alloc_last Wd (.cells #[.slice none 0 0,.int .i64 0,.bool false,.int .i64 0,.int .i64 0,.int .i64 0,.int .i64 0,.string ⟨#[]⟩,.string ⟨#[]⟩] 52)
 have hB2:=(hB1.alloc (Nat.le_trans hB hB1.size) (.cells #[.slice none 0 0,.int .i64 0,.bool false,.int .i64 0,.int .i64 0,.int .i64 0,.int .i64 0,.string ⟨#[]⟩,.string ⟨#[]⟩] 52))
 have hT2:=hT1.trans (KT.below (L8.bnew Wd (.cells #[.slice none 0 0,.int .i64 0,.bool false,.int .i64 0,.int .i64 0,.int .i64 0,.int .i64 0,.string ⟨#[]⟩,.string ⟨#[]⟩] 52)))
 refine hK.out _ _ (keep1 hb2 hrow2 rfl) (fun hH2=>?_)
 have hkr4:kr<Wd.heap.size:=lt_of_block hrow1
 have hBk4:B≤Wd.heap.size:=Nat.le_trans hB hB1.size
 have hkb4:kb<Wd.heap.size:=lt_of_block hb1
 clear hK K hb1 hrow1 hR1 hB1 hT1 hH
 obtain⟨k4,hk4⟩:∃ k4,Wd.heap.size=k4:=⟨_,rfl⟩
 rw [hk4] at hn2 hsz1 hkr4 hkb4 hBk4 ⊢
 generalize Wd.alloc (.cells #[.slice none 0 0,.int .i64 0,.bool false,.int .i64 0,.int .i64 0,.int .i64 0,.int .i64 0,.string ⟨#[]⟩,.string ⟨#[]⟩] 52)=W2 at hb2 hrow2 hR2 hn2 hB2 hT2 hH2 ⊢
 clear hk4
 (try simp only [Act.put,zA,zB,zC])
 refine wpAnyH_ready (rs:=[12]) (by kernel_rfl) (by simp) ?_
 refine AllReadyH.cons (o:=⟨none,.store 52 (.tmp 4) (.tmp 15),_,_,_,none⟩) rfl (fun K hK=>?_) AllReadyH.nil
 simp only [Region.wanted,if_true]
 refine wp_store_row _ _ _ rfl k4 #[.slice la n lc,.int .i64 x.op,.bool x.reg,.int .i64 x.dst,.int .i64 x.src,.int .i64 x.off,.int .i64 x.imm,.string tg,.string mp] rfl rfl 52 _ hn2 (by kernel_rfl) rfl (by simp [Value.oneCell']) ?_
 have hg3:W2.grownBy (W2.setRow k4 #[.slice la n lc,.int .i64 x.op,.bool x.reg,.int .i64 x.dst,.int .i64 x.src,.int .i64 x.off,.int .i64 x.imm,.string tg,.string mp]) (some k4):=⟨rfl,rfl,rfl,by simp [World.setRow],fun y _ hne=>setRow_other W2 k4 y _ (fun e=>hne (by rw [e]))⟩
 have hn3:=setRow_heap W2 k4 _ #[.slice la n lc,.int .i64 x.op,.bool x.reg,.int .i64 x.dst,.int .i64 x.src,.int .i64 x.off,.int .i64 x.imm,.string tg,.string mp] _ _ hn2
 have hrow3:(W2.setRow k4 #[.slice la n lc,.int .i64 x.op,.bool x.reg,.int .i64 x.dst,.int .i64 x.src,.int .i64 x.off,.int .i64 x.imm,.string tg,.string mp]).heap[kr]?=_:=(setRow_other W2 k4 kr _ (by omega)).trans hrow2
 have hb3:(W2.setRow k4 #[.slice la n lc,.int .i64 x.op,.bool x.reg,.int .i64 x.dst,.int .i64 x.src,.int .i64 x.off,.int .i64 x.imm,.string tg,.string mp]).heap[kb]?=_:=(setRow_other W2 k4 kb _ (by omega)).trans hb2
 have hR3:=hR2.fresh hg3 hsz1 hlt hn2
 have hB3:=Fk.setRow hB2 hBk4 #[.slice la n lc,.int .i64 x.op,.bool x.reg,.int .i64 x.dst,.int .i64 x.src,.int .i64 x.off,.int .i64 x.imm,.string tg,.string mp]
 have hT3:=hT2.trans (KT.gr hg3 hn2 (by decide))
 refine hK.out _ _ (keep1 hb3 hrow3 rfl) (fun hH3=>?_)
 clear hK K hb2 hrow2 hR2 hn2 hB2 hT2 hH2 hb3 hH3 hg3
 generalize W2.setRow k4 #[.slice la n lc,.int .i64 x.op,.bool x.reg,.int .i64 x.dst,.int .i64 x.src,.int .i64 x.off,.int .i64 x.imm,.string tg,.string mp]=W3 at hn3 hrow3 hR3 hB3 hT3 ⊢
 (try simp only [Act.put])
 refine wpAnyH_done (by kernel_rfl) ?_ _
 refine NoPanic.normal ?_
 go_upto_region 2 with (fail)
 have hn4:=L8.row_up hn3 (drew_below W3)
 have hrow4:=L8.row_up hrow3 (drew_below W3)
 have hR4:=hR3.below (drew_below W3)
 have hB4:=hB3.drew
 have hT4:=hT3.trans (KT.below (drew_below W3))
 clear hn3 hrow3 hR3 hB3 hT3
 refine wp_region_noPanic ?_
 refine wp_region_held_drew (S:=fun W=>W.cell? ⟨k4,0,none⟩=some (.slice la n lc)∧W.cell? ⟨k4,1,none⟩=some (.int .i64 x.op)∧W.cell? ⟨k4,2,none⟩=some (.bool x.reg)∧W.cell? ⟨k4,3,none⟩=some (.int .i64 x.dst)∧W.cell? ⟨k4,4,none⟩=some (.int .i64 x.src)∧W.cell? ⟨k4,5,none⟩=some (.int .i64 x.off)∧W.cell? ⟨k4,6,none⟩=some (.int .i64 x.imm)∧W.cell? ⟨k4,7,none⟩=some (.string tg)∧W.cell? ⟨k4,8,none⟩=some (.string mp)) (by kernel_rfl) (cells9 hn4) (fun hH=>?_)
 generalize W3.drew=Wd at hn4 hrow4 hR4 hB4 hT4 hH ⊢
 refine wpAnyH_take (i:=0) (oi:=⟨some 16,.move (.tmp 0),_,_,_,none⟩) (v:=.pointer (some ⟨kr,0,none⟩)) rfl (by kernel_rfl) (by kernel_rfl) (by kernel_rfl) (fun _ _ _ h=>h) (Or.inl ⟨by rfl,fun wS hS=>(by go_simp)⟩) hH ?_
 simp only [Act.put,zA,zB,zC]
 refine wpAnyH_take (i:=1) (oi:=⟨some 17,.move (.tmp 0),_,_,_,none⟩) (v:=.pointer (some ⟨kr,0,none⟩)) rfl (by kernel_rfl) (by kernel_rfl) (by kernel_rfl) (fun _ _ _ h=>h) (Or.inl ⟨by rfl,fun wS hS=>(by go_simp)⟩) hH ?_
 simp only [Act.put,zA,zB,zC]
 refine wpAnyH_take (i:=2) (oi:=⟨some 18,.nilCheck (.tmp 17),_,_,_,none⟩) (v:=.pointer (some ⟨kr,0,none⟩)) rfl (by kernel_rfl) (by kernel_rfl) (by kernel_rfl) (fun _ _ _ h=>h) (Or.inl ⟨by rfl,fun wS hS=>(by go_simp)⟩) hH ?_
 simp only [Act.put,zA,zB,zC]
 refine wpAnyH_take (i:=3) (oi:=⟨some 19,.fieldAddr 129 (.tmp 18) 0,_,_,_,none⟩) (v:=.pointer (some ⟨kr,0,none⟩)) rfl (by kernel_rfl) (by kernel_rfl) (by kernel_rfl) (fun _ _ _ h=>h) (Or.inl ⟨by rfl,fun wS hS=>(by go_simp)⟩) hH ?_
 simp only [Act.put,zA,zB,zC]
 refine wpAnyH_take (i:=4) (oi:=⟨some 20,.fieldAddr 25 (.tmp 19) 1,_,_,_,none⟩) (v:=.pointer (some ⟨kr,1,none⟩)) rfl (by kernel_rfl) (by kernel_rfl) (by kernel_rfl) (fun _ _ _ h=>h) (Or.inl ⟨by rfl,fun wS hS=>(by go_simp)⟩) hH ?_
 simp only [Act.put,zA,zB,zC]
 refine wpAnyH_take (i:=6) (oi:=⟨some 22,.load 52 (.tmp 4),_,_,_,none⟩) (v:=.agg #[.slice la n lc,.int .i64 x.op,.bool x.reg,.int .i64 x.dst,.int .i64 x.src,.int .i64 x.off,.int .i64 x.imm,.string tg,.string mp]) rfl (by kernel_rfl) (by kernel_rfl) (by kernel_rfl) (fun _ _ _ h=>h) (Or.inl ⟨by rfl,fun wS hS=>(by obtain⟨d0,d1,d2,d3,d4,d5,d6,d7,d8⟩:=hS;go_simp)⟩) hH ?_
 simp only [Act.put,zA,zB,zC]
 refine wpAnyH_ready (rs:=[5,7]) (by kernel_rfl) (by simp) ?_
 refine AllReadyH.cons (o:=⟨some 21,.load 23 (.tmp 20),_,_,_,none⟩) rfl (fun K hK=>?_) (AllReadyH.cons (o:=⟨some 23,.buildSlice 23 1 #[(0,.tmp 22)],_,_,_,none⟩) rfl (fun K hK=>?_) AllReadyH.nil)
 focus
  obtain⟨x0,x1,x2,x3,x4,x5,x6⟩:=cells7 hrow4
  go_simp
  refine hK.out _ _ hH (fun _=>?_)
  clear hK K x0 x1 x2 x3 x4 x5 x6
  (try simp only [Act.put,zA,zB,zC])
  refine wpAnyH_ready (rs:=[7]) (by kernel_rfl) (by simp) ?_
  refine AllReadyH.cons (o:=⟨some 23,.buildSlice 23 1 #[(0,.tmp 22)],_,_,_,none⟩) rfl (fun K hK=>?_) AllReadyH.nil
  go_simp
  have hn5:=L8.row_up hn4 (L8.bnew Wd (.cells #[.slice la n lc,.int .i64 x.op,.bool x.reg,.int .i64 x.dst,.int .i64 x.src,.int .i64 x.off,.int .i64 x.imm,.string tg,.string mp] 52))
  have hrow5:=L8.row_up hrow4 (L8.bnew Wd (.cells #[.slice la n lc,.int .i64 x.op,.bool x.reg,.int .i64 x.dst,.int .i64 x.src,.int .i64 x.off,.int .i64 x.imm,.string tg,.string mp] 52))
  have hR5:=hR4.below (L8.bnew Wd (.cells #[.slice la n lc,.int .i64 x.op,.bool x.reg,.int .i64 x.dst,.int .i64 x.src,.int .i64 x.off,.int .i64 x.imm,.string tg,.string mp] 52))
  have hw5:=heap_alloc_last Wd (.cells #[.slice la n lc,.int .i64 x.op,.bool x.reg,.int .i64 x.dst,.int .i64 x.src,.int .i64 x.off,.int .i64 x.imm,.string tg,.string mp] 52)
  have hB5:=(hB4.alloc (Nat.le_trans hB hB4.size) (.cells #[.slice la n lc,.int .i64 x.op,.bool x.reg,.int .i64 x.dst,.int .i64 x.src,.int .i64 x.off,.int .i64 x.imm,.string tg,.string mp] 52))
  have hT5:=hT4.trans (KT.below (L8.bnew Wd (.cells #[.slice la n lc,.int .i64 x.op,.bool x.reg,.int .i64 x.dst,.int .i64 x.src,.int .i64 x.off,.int .i64 x.imm,.string tg,.string mp] 52)))
  refine hK.out _ _ (cells9 hn5) (fun hH5=>?_)
  clear hK K hn4 hrow4 hR4 hB4 hT4 hH
  obtain⟨gn,hgn⟩:∃ gn,Wd.heap.size=gn:=⟨_,rfl⟩
  rw [hgn] at hw5 ⊢
  generalize Wd.alloc (.cells #[.slice la n lc,.int .i64 x.op,.bool x.reg,.int .i64 x.dst,.int .i64 x.src,.int .i64 x.off,.int .i64 x.imm,.string tg,.string mp] 52)=W5 at hn5 hrow5 hR5 hw5 hB5 hT5 hH5 ⊢
  clear hgn
  (try simp only [Act.put,zA,zB,zC])
 rotate_left
 focus
  go_simp
  have hn5:=L8.row_up hn4 (L8.bnew Wd (.cells #[.slice la n lc,.int .i64 x.op,.bool x.reg,.int .i64 x.dst,.int .i64 x.src,.int .i64 x.off,.int .i64 x.imm,.string tg,.string mp] 52))
  have hrow5:=L8.row_up hrow4 (L8.bnew Wd (.cells #[.slice la n lc,.int .i64 x.op,.bool x.reg,.int .i64 x.dst,.int .i64 x.src,.int .i64 x.off,.int .i64 x.imm,.string tg,.string mp] 52))
  have hR5:=hR4.below (L8.bnew Wd (.cells #[.slice la n lc,.int .i64 x.op,.bool x.reg,.int .i64 x.dst,.int .i64 x.src,.int .i64 x.off,.int .i64 x.imm,.string tg,.string mp] 52))
  have hw5:=heap_alloc_last Wd (.cells #[.slice la n lc,.int .i64 x.op,.bool x.reg,.int .i64 x.dst,.int .i64 x.src,.int .i64 x.off,.int .i64 x.imm,.string tg,.string mp] 52)
  have hB5:=(hB4.alloc (Nat.le_trans hB hB4.size) (.cells #[.slice la n lc,.int .i64 x.op,.bool x.reg,.int .i64 x.dst,.int .i64 x.src,.int .i64 x.off,.int .i64 x.imm,.string tg,.string mp] 52))
  have hT5:=hT4.trans (KT.below (L8.bnew Wd (.cells #[.slice la n lc,.int .i64 x.op,.bool x.reg,.int .i64 x.dst,.int .i64 x.src,.int .i64 x.off,.int .i64 x.imm,.string tg,.string mp] 52)))
  refine hK.out _ _ (cells9 hn5) (fun hH5=>?_)
  clear hK K hn4 hrow4 hR4 hB4 hT4 hH
  obtain⟨gn,hgn⟩:∃ gn,Wd.heap.size=gn:=⟨_,rfl⟩
  rw [hgn] at hw5 ⊢
  generalize Wd.alloc (.cells #[.slice la n lc,.int .i64 x.op,.bool x.reg,.int .i64 x.dst,.int .i64 x.src,.int .i64 x.off,.int .i64 x.imm,.string tg,.string mp] 52)=W5 at hn5 hrow5 hR5 hw5 hB5 hT5 hH5 ⊢
  clear hgn
  (try simp only [Act.put,zA,zB,zC])
  obtain⟨x0,x1,x2,x3,x4,x5,x6⟩:=cells7 hrow5
  refine wpAnyH_ready (rs:=[5]) (by kernel_rfl) (by simp) ?_
  refine AllReadyH.cons (o:=⟨some 21,.load 23 (.tmp 20),_,_,_,none⟩) rfl (fun K hK=>?_) AllReadyH.nil
  go_simp
  refine hK.out _ _ hH5 (fun _=>?_)
  clear hK K x0 x1 x2 x3 x4 x5 x6
  (try simp only [Act.put,zA,zB,zC])
 all_goals
  refine wpAnyH_ready (rs:=[8]) (by kernel_rfl) (by simp) ?_
  refine AllReadyH.cons (o:=⟨some 24,.call { callee:=.builtin .append,args:=#[.tmp 21,.tmp 23],argTypes:=#[23,23] },_,_,_,none⟩) rfl (fun K hK=>?_) AllReadyH.nil
  have hom:=hR5.os
  rw [hq] at hom
  refine step_append_lies _ (by rfl) _ _ _ (by rfl) B 52 i0 (.agg #[.slice none 0 0,.int .i64 0,.bool false,.int .i64 0,.int .i64 0,.int .i64 0,.int .i64 0,.string ⟨#[]⟩,.string ⟨#[]⟩]) 9 104 Tryz.underlying23 hi hz0 hz1 hz2 rfl (by decide) _ q _ (by rfl) hom ⟨gn,0,none⟩ 1 1 (smL (.slice la n lc) ⟨s.labs,x,tg,mp⟩) (by rfl) (by rfl) (World.news_of_block (cs:=#[.slice la n lc,.int .i64 x.op,.bool x.reg,.int .i64 x.dst,.int .i64 x.src,.int .i64 x.off,.int .i64 x.imm,.string tg,.string mp]) (t:=52) (fr:=(0,0)) hw5) (by simp [Value.oneCell']) (by omega) (by unfold maxLen;omega) (by omega) (Nat.le_trans hB hB5.size) _ rfl ?_
  intro g cap w6 hown6 hgrow6 hat6 hlt6
  have hrow6:=row_own hrow5 hom hgrow6 (by decide)
  have hn6:=own_far hom hlt hn5 hsz1 hgrow6
  have hR6:=hR5.addStm x tg mp (by rw [hq];exact hown6) hgrow6
  rw [hq] at hR6
  have hB6:=hB5.grown hgrow6 (Nat.le_trans hB hB5.size) (own_base2 hom)
  have hT6:=hT5.trans (KT.own hom hgrow6 (by decide))
  refine hK.out _ _ (cells9 hn6) (fun hH6=>?_)
  clear hK K hn5 hrow5 hR5 hw5 hH5 hown6 hgrow6 hat6 hlt6 hom hB5 hT5 hlt
  (try simp only [Act.put,zA,zB,zC])
  refine wpAnyH_take (i:=9) (oi:=⟨some 25,.nilCheck (.tmp 16),_,_,_,none⟩) (v:=.pointer (some ⟨kr,0,none⟩)) rfl (by kernel_rfl) (by kernel_rfl) (by kernel_rfl) (fun _ _ _ h=>h) (Or.inl ⟨by rfl,fun wS hS=>(by go_simp)⟩) hH6 ?_
  simp only [Act.put,zA,zB,zC]
  refine wpAnyH_take (i:=10) (oi:=⟨some 26,.fieldAddr 129 (.tmp 25) 0,_,_,_,none⟩) (v:=.pointer (some ⟨kr,0,none⟩)) rfl (by kernel_rfl) (by kernel_rfl) (by kernel_rfl) (fun _ _ _ h=>h) (Or.inl ⟨by rfl,fun wS hS=>(by go_simp)⟩) hH6 ?_
  simp only [Act.put,zA,zB,zC]
  refine wpAnyH_take (i:=11) (oi:=⟨some 27,.fieldAddr 25 (.tmp 26) 1,_,_,_,none⟩) (v:=.pointer (some ⟨kr,1,none⟩)) rfl (by kernel_rfl) (by kernel_rfl) (by kernel_rfl) (fun _ _ _ h=>h) (Or.inl ⟨by rfl,fun wS hS=>(by go_simp)⟩) hH6 ?_
  simp only [Act.put,zA,zB,zC]
  obtain⟨x0,x1,x2,x3,x4,x5,x6⟩:=cells7 hrow6
  have fz:=frozen_all hrow6 1
  have hR7:=hR6.rd (gr_setCell w6 kr 1 (.slice (some ⟨g,0,none⟩) (q+1) cap)) hrow6
  have hrow7:=row_set hrow6 1 (.slice (some ⟨g,0,none⟩) (q+1) cap)
  have hB7:=Fk.set hB6 1 (.slice (some ⟨g,0,none⟩) (q+1) cap)
  have hT7:=hT6.trans (KT.gr (gr_setCell w6 kr 1 (.slice (some ⟨g,0,none⟩) (q+1) cap)) hrow6 (by decide))
  have hn7:(w6.setCell ⟨kr,1,none⟩ (.slice (some ⟨g,0,none⟩) (q+1) cap)).heap[k4]?=_:=(Below.heap_setCell _ _ _ _ (show k4≠kr by omega)).trans hn6
  refine wpAnyH_ready (rs:=[12]) (by kernel_rfl) (by simp) ?_
  refine AllReadyH.cons (o:=⟨none,.store 23 (.tmp 27) (.tmp 24),_,_,_,none⟩) rfl (fun K hK=>?_) AllReadyH.nil
  go_simp
  refine hK.out _ _ (cells9 hn7) (fun hH7=>?_)
  clear hK K hn6 hrow6 hR6 hB6 hT6 hH6 x0 x1 x2 x3 x4 x5 x6 fz hn7 hH7
  generalize w6.setCell ⟨kr,1,none⟩ (.slice (some ⟨g,0,none⟩) (q+1) cap)=W5 at hrow7 hR7 hB7 hT7 ⊢
  (try simp only [Act.put,zA,zB,zC])
  refine wpAnyH_done (by kernel_rfl) ?_ _
  refine NoPanic.normal ?_
  go_upto_region 3 with (fail)
  have hrow5:=L8.row_up hrow7 (drew_below W5)
  have hR5:=hR7.below (drew_below W5)
  have hB5:=hB7.drew
  have hT5:=hT7.trans (KT.below (drew_below W5))
  clear hrow7 hR7 hB7 hT7
  refine wp_region_noPanic ?_
  refine wp_region_held_drew (S:=fun W=>W.cell? ⟨kr,6,none⟩=some (.int .i64 s.line)) (by kernel_rfl) ((cells7 hrow5).2.2.2.2.2.2) (fun hH=>?_)
  generalize W5.drew=Wd at hrow5 hR5 hB5 hT5 hH ⊢
  refine wpAnyH_take (i:=0) (oi:=⟨some 28,.move (.tmp 0),_,_,_,none⟩) (v:=.pointer (some ⟨kr,0,none⟩)) rfl (by kernel_rfl) (by kernel_rfl) (by kernel_rfl) (fun _ _ _ h=>h) (Or.inl ⟨by rfl,fun wS hS=>(by go_simp)⟩) hH ?_
  simp only [Act.put,zA,zB,zC]
  refine wpAnyH_take (i:=1) (oi:=⟨some 29,.move (.tmp 0),_,_,_,none⟩) (v:=.pointer (some ⟨kr,0,none⟩)) rfl (by kernel_rfl) (by kernel_rfl) (by kernel_rfl) (fun _ _ _ h=>h) (Or.inl ⟨by rfl,fun wS hS=>(by go_simp)⟩) hH ?_
  simp only [Act.put,zA,zB,zC]
  refine wpAnyH_take (i:=2) (oi:=⟨some 30,.nilCheck (.tmp 29),_,_,_,none⟩) (v:=.pointer (some ⟨kr,0,none⟩)) rfl (by kernel_rfl) (by kernel_rfl) (by kernel_rfl) (fun _ _ _ h=>h) (Or.inl ⟨by rfl,fun wS hS=>(by go_simp)⟩) hH ?_
  simp only [Act.put,zA,zB,zC]
  refine wpAnyH_take (i:=3) (oi:=⟨some 31,.fieldAddr 129 (.tmp 30) 2,_,_,_,none⟩) (v:=.pointer (some ⟨kr,3,none⟩)) rfl (by kernel_rfl) (by kernel_rfl) (by kernel_rfl) (fun _ _ _ h=>h) (Or.inl ⟨by rfl,fun wS hS=>(by go_simp)⟩) hH ?_
  simp only [Act.put,zA,zB,zC]
  refine wpAnyH_take (i:=5) (oi:=⟨some 33,.move (.tmp 0),_,_,_,none⟩) (v:=.pointer (some ⟨kr,0,none⟩)) rfl (by kernel_rfl) (by kernel_rfl) (by kernel_rfl) (fun _ _ _ h=>h) (Or.inl ⟨by rfl,fun wS hS=>(by go_simp)⟩) hH ?_
  simp only [Act.put,zA,zB,zC]
  refine wpAnyH_take (i:=6) (oi:=⟨some 34,.nilCheck (.tmp 33),_,_,_,none⟩) (v:=.pointer (some ⟨kr,0,none⟩)) rfl (by kernel_rfl) (by kernel_rfl) (by kernel_rfl) (fun _ _ _ h=>h) (Or.inl ⟨by rfl,fun wS hS=>(by go_simp)⟩) hH ?_
  simp only [Act.put,zA,zB,zC]
  refine wpAnyH_take (i:=7) (oi:=⟨some 35,.fieldAddr 129 (.tmp 34) 5,_,_,_,none⟩) (v:=.pointer (some ⟨kr,6,none⟩)) rfl (by kernel_rfl) (by kernel_rfl) (by kernel_rfl) (fun _ _ _ h=>h) (Or.inl ⟨by rfl,fun wS hS=>(by go_simp)⟩) hH ?_
  simp only [Act.put,zA,zB,zC]
  refine wpAnyH_take (i:=8) (oi:=⟨some 36,.load 3 (.tmp 35),_,_,_,none⟩) (v:=.int .i64 s.line) rfl (by kernel_rfl) (by kernel_rfl) (by kernel_rfl) (fun _ _ _ h=>h) (Or.inl ⟨by rfl,fun wS hS=>(by have d0:wS.cell? ⟨kr,6,none⟩=some (.int .i64 s.line):=hS;go_simp)⟩) hH ?_
  simp only [Act.put,zA,zB,zC]
  refine wpAnyH_ready (rs:=[4,9]) (by kernel_rfl) (by simp) ?_
  refine AllReadyH.cons (o:=⟨some 32,.load 80 (.tmp 31),_,_,_,none⟩) rfl (fun K hK=>?_) (AllReadyH.cons (o:=⟨some 37,.buildSlice 80 1 #[(0,.tmp 36)],_,_,_,none⟩) rfl (fun K hK=>?_) AllReadyH.nil)
  focus
   obtain⟨x0,x1,x2,x3,x4,x5,x6⟩:=cells7 hrow5
   go_simp
   refine hK.out _ _ hH (fun _=>?_)
   clear hK K x0 x1 x2 x3 x4 x5 x6
   (try simp only [Act.put,zA,zB,zC])
   refine wpAnyH_ready (rs:=[9]) (by kernel_rfl) (by simp) ?_
   refine AllReadyH.cons (o:=⟨some 37,.buildSlice 80 1 #[(0,.tmp 36)],_,_,_,none⟩) rfl (fun K hK=>?_) AllReadyH.nil
   go_simp
   have hrow6:=L8.row_up hrow5 (L8.bnew Wd (.cells #[.int .i64 s.line] 3))
   have hR6:=hR5.below (L8.bnew Wd (.cells #[.int .i64 s.line] 3))
   have hn6:=heap_alloc_last Wd (.cells #[.int .i64 s.line] 3)
   have hB6:=(hB5.alloc (Nat.le_trans hB hB5.size) (.cells #[.int .i64 s.line] 3))
   have hT6:=hT5.trans (KT.below (L8.bnew Wd (.cells #[.int .i64 s.line] 3)))
   refine hK.out _ _ (cells7 hrow6).2.2.2.2.2.2 (fun hH6=>?_)
   clear hK K hrow5 hR5 hB5 hT5 hH
   obtain⟨gn,hgn⟩:∃ gn,Wd.heap.size=gn:=⟨_,rfl⟩
   rw [hgn] at hn6 ⊢
   generalize Wd.alloc (.cells #[.int .i64 s.line] 3)=W6 at hrow6 hR6 hn6 hB6 hT6 hH6 ⊢
   clear hgn
   (try simp only [Act.put,zA,zB,zC])
  rotate_left
  focus
   go_simp
   have hrow6:=L8.row_up hrow5 (L8.bnew Wd (.cells #[.int .i64 s.line] 3))
   have hR6:=hR5.below (L8.bnew Wd (.cells #[.int .i64 s.line] 3))
   have hn6:=heap_alloc_last Wd (.cells #[.int .i64 s.line] 3)
   have hB6:=(hB5.alloc (Nat.le_trans hB hB5.size) (.cells #[.int .i64 s.line] 3))
   have hT6:=hT5.trans (KT.below (L8.bnew Wd (.cells #[.int .i64 s.line] 3)))
   refine hK.out _ _ (cells7 hrow6).2.2.2.2.2.2 (fun hH6=>?_)
   clear hK K hrow5 hR5 hB5 hT5 hH
   obtain⟨gn,hgn⟩:∃ gn,Wd.heap.size=gn:=⟨_,rfl⟩
   rw [hgn] at hn6 ⊢
   generalize Wd.alloc (.cells #[.int .i64 s.line] 3)=W6 at hrow6 hR6 hn6 hB6 hT6 hH6 ⊢
   clear hgn
   (try simp only [Act.put,zA,zB,zC])
   obtain⟨x0,x1,x2,x3,x4,x5,x6⟩:=cells7 hrow6
   refine wpAnyH_ready (rs:=[4]) (by kernel_rfl) (by simp) ?_
   refine AllReadyH.cons (o:=⟨some 32,.load 80 (.tmp 31),_,_,_,none⟩) rfl (fun K hK=>?_) AllReadyH.nil
   go_simp
   refine hK.out _ _ hH6 (fun _=>?_)
   clear hK K x0 x1 x2 x3 x4 x5 x6
   (try simp only [Act.put,zA,zB,zC])
  all_goals
   refine wpAnyH_ready (rs:=[10]) (by kernel_rfl) (by simp) ?_
   refine AllReadyH.cons (o:=⟨some 38,.call { callee:=.builtin .append,args:=#[.tmp 32,.tmp 37],argTypes:=#[80,80] },_,_,_,none⟩) rfl (fun K hK=>?_) AllReadyH.nil
   have hom:=hR6.osl
   have hcn:=hmm
   rw [hcn] at hom
   refine step_append_lies _ (by rfl) _ _ _ (by rfl) B 3 j0 (.int .i64 0) 1 8 Tryz.underlying80 hj hy0 hy1 hy2 rfl (by decide) _ m _ (by rfl) hom ⟨gn,0,none⟩ 1 1 [.int .i64 s.line] (by rfl) (by rfl) (World.news_of_block (cs:=#[.int .i64 s.line]) (t:=3) (fr:=(0,0)) hn6) (by simp [Value.oneCell']) (by omega) (by unfold maxLen;omega) (by omega) (Nat.le_trans hB hB6.size) _ rfl ?_
   intro g7 cap7 w7 hown7 hgrow7 hat7 hlt7
   have hrow7:=row_own hrow6 hom hgrow7 (by decide)
   have hR7:=hR6.addSl s.line (by rw [hcn];exact hown7) hgrow7 hat7
   rw [hcn] at hR7
   have hB7:=hB6.grown hgrow7 (Nat.le_trans hB hB6.size) (own_base2 hom)
   have hT7:=hT6.trans (KT.own hom hgrow7 (by decide))
   refine hK.out _ _ (cells7 hrow7).2.2.2.2.2.2 (fun hH7=>?_)
   clear hK K hrow6 hR6 hn6 hH6 hown7 hgrow7 hat7 hlt7 hom hB6 hT6
   (try simp only [Act.put,zA,zB,zC])
   refine wpAnyH_take (i:=11) (oi:=⟨some 39,.nilCheck (.tmp 28),_,_,_,none⟩) (v:=.pointer (some ⟨kr,0,none⟩)) rfl (by kernel_rfl) (by kernel_rfl) (by kernel_rfl) (fun _ _ _ h=>h) (Or.inl ⟨by rfl,fun wS hS=>(by go_simp)⟩) hH7 ?_
   simp only [Act.put,zA,zB,zC]
   refine wpAnyH_take (i:=12) (oi:=⟨some 40,.fieldAddr 129 (.tmp 39) 2,_,_,_,none⟩) (v:=.pointer (some ⟨kr,3,none⟩)) rfl (by kernel_rfl) (by kernel_rfl) (by kernel_rfl) (fun _ _ _ h=>h) (Or.inl ⟨by rfl,fun wS hS=>(by go_simp)⟩) hH7 ?_
   simp only [Act.put,zA,zB,zC]
   obtain⟨x0,x1,x2,x3,x4,x5,x6⟩:=cells7 hrow7
   have fz:=frozen_all hrow7 3
   have hR8:=hR7.rd (gr_setCell w7 kr 3 (.slice (some ⟨g7,0,none⟩) (m+1) cap7)) hrow7
   have hrow8:=row_set hrow7 3 (.slice (some ⟨g7,0,none⟩) (m+1) cap7)
   have hB8:=Fk.set hB7 3 (.slice (some ⟨g7,0,none⟩) (m+1) cap7)
   have hT8:=hT7.trans (KT.gr (gr_setCell w7 kr 3 (.slice (some ⟨g7,0,none⟩) (m+1) cap7)) hrow7 (by decide))
   refine wpAnyH_ready (rs:=[13]) (by kernel_rfl) (by simp) ?_
   refine AllReadyH.cons (o:=⟨none,.store 80 (.tmp 40) (.tmp 38),_,_,_,none⟩) rfl (fun K hK=>?_) AllReadyH.nil
   go_simp
   refine hK.out _ _ (cells7 hrow8).2.2.2.2.2.2 (fun hH8=>?_)
   clear hK K hrow7 hR7 hB7 hT7 hH7 x0 x1 x2 x3 x4 x5 x6 fz hH8
   generalize w7.setCell ⟨kr,3,none⟩ (.slice (some ⟨g7,0,none⟩) (m+1) cap7)=W9 at hrow8 hR8 hB8 hT8 ⊢
   (try simp only [Act.put,zA,zB,zC])
   refine wpAnyH_done (by kernel_rfl) ?_ _
   refine NoPanic.normal ?_
   obtain⟨x0,x1,x2,x3,x4,x5,x6⟩:=cells7 hrow8
   have fz:=frozen_all hrow8 4
   go_wp2
   go_end0
   exact⟨rfl,⟨_,_,_,_,_,_,row_set hrow8 4 _,hR8.rd (gr_setCell _ kr 4 _) hrow8⟩,Fk.set hB8 4 _,hT8.trans (KT.gr (gr_setCell _ kr 4 _) hrow8 (by decide))⟩
end Go.Proofs.YtgljoilddjmohaaGreatDoor.L10
end
section
namespace Go.Proofs.YtgljoilddjmohaaGreatDoor.L10
open Go.RowKit
def itI (t:ByteArray) (q:List ByteArray):It × Int:=if t=L9.mapT then (.mp (L9.dcV q).1,(L9.dcV q).2) else (.cd (L9.inV t q).1.x (L9.inV t q).1.tg (L9.inV t q).1.mp,(L9.inV t q).2)
theorem itI_itB (t:ByteArray) (q:List ByteArray):L9.itB t q=((itI t q).1.toV,(itI t q).2):=by
 unfold L9.itB itI
 split <;> rfl
def itV (ts:List ByteArray):List It × Int :=
 if (L9.lab [] ts).1≠0 then ([],7) else
 match (L9.lab [] ts).2.2 with
 | []=>((L9.lab [] ts).2.1.map .lb,0)
 | t::q=>if L9.wdB t=false then ([],2) else if (itI t q).2≠0 then ([],(itI t q).2) else ((L9.lab [] ts).2.1.map .lb++[(itI t q).1],0)
def itL (s:ByteArray):List It × Int:=if 0≤L8.bad s then ([],2) else itV (L9.txB s)
theorem map_lb (l:List ByteArray):l.map L9.lbV=(l.map It.lb).map It.toV:=by rw [List.map_map];rfl
theorem prV_itV (ts:List ByteArray):L9.prV ts=((itV ts).1.map It.toV,(itV ts).2):=by
 unfold L9.prV itV
 simp only
 by_cases h1:(L9.lab [] ts).1≠0
 ·rw [if_pos h1,if_pos h1];rfl
 ·rw [if_neg h1,if_neg h1]
  cases h0:(L9.lab [] ts).2.2 with
  | nil=>simp only [map_lb]
  | cons t q =>
   simp only
   rw [itI_itB]
   by_cases h2:L9.wdB t=false
   ·rw [if_pos h2,if_pos h2];rfl
   ·rw [if_neg h2,if_neg h2]
    by_cases h3:(itI t q).2≠0
    ·rw [if_pos h3,if_pos h3];rfl
    ·rw [if_neg h3,if_neg h3,List.map_append,map_lb];rfl
theorem prL_itL (s:ByteArray):L9.prL s=((itL s).1.map It.toV,(itL s).2):=by
 unfold L9.prL itL
 split
 ·rfl
 ·exact prV_itV _
theorem line_it (s:ByteArray) (hs:s.size≤100000) (w:World) (hT:L1.Wid w∧L2.Regs w) (l:List It) (er:Int) (h:itL s=(l,er)):Calls Tryz.prog 118 #[.string s] w fun e w'=>L9.LinP (l.map It.toV) er w e w' :=
 L9.line_at s hs w hT _ _ (by rw [prL_itL,h])
theorem vd_sz {s:ByteArray} (h:L2.vd s=true):s.size≤32:=by
 unfold L2.vd at h
 simp only [Bool.and_eq_true,decide_eq_true_eq] at h
 exact h.1.1.1.2
def It.sz:It→Prop
 | .lb t=>t.size≤32
 | .mp d=>d.nm.size≤32
 | .cd _ tg m=>tg.size≤32∧m.size≤32
theorem vd_or (t:ByteArray):(if L2.vd t then t else L9.eB).size≤32:=by
 split
 ·exact vd_sz ‹_›
 ·decide
theorem stp_sz (k:L9.Rk) (s:L9.St) (h:s.tg.size≤32∧s.mp.size≤32):(L9.stp k s).1.tg.size≤32∧(L9.stp k s).1.mp.size≤32:=by
 cases k <;> unfold L9.stp <;> simp only
 case tgt=>exact⟨vd_or _,h.2⟩
 case mpn=>exact⟨h.1,vd_or _⟩
 case hlp=>split <;> exact h
 case off=>split <;> exact h
 all_goals exact h
theorem runs_sz:∀ (ks:List L9.Rk) (s:L9.St),(s.tg.size≤32∧s.mp.size≤32)→(L9.runs ks s).1.tg.size≤32∧(L9.runs ks s).1.mp.size≤32
 | [],_,h=>h
 | k::r,s,h=>by
  rw [L9.runs]
  split
  ·exact stp_sz k s h
  ·exact runs_sz r _ (stp_sz k s h)
theorem inV_sz (t:ByteArray) (q:List ByteArray):(L9.inV t q).1.tg.size≤32∧(L9.inV t q).1.mp.size≤32:=by
 unfold L9.inV
 split
 ·exact⟨by decide,by decide⟩
 split
 ·exact⟨by decide,by decide⟩
 ·unfold L9.inR
  simp only
  split
  ·exact⟨by show (⟨#[]⟩:ByteArray).size≤32;decide,by show (⟨#[]⟩:ByteArray).size≤32;decide⟩
  ·exact runs_sz _ _ ⟨by show (⟨#[]⟩:ByteArray).size≤32;decide,by show (⟨#[]⟩:ByteArray).size≤32;decide⟩
theorem dcV_sz (ts:List ByteArray):(L9.dcV ts).1.nm.size≤32:=by
 unfold L9.dcV
 split
 ·show (⟨#[]⟩:ByteArray).size≤32;decide
 split
 ·show (⟨#[]⟩:ByteArray).size≤32;decide
 split
 ·show (⟨#[]⟩:ByteArray).size≤32;decide
 split
 ·show (⟨#[]⟩:ByteArray).size≤32;decide
 ·rename_i h _ _
  refine vd_sz ?_
  rcases L9.naV_two (L9.g0 ts 0) with ⟨_,hv⟩|⟨h7,_⟩
  ·exact hv
  ·exact absurd (by rw [h7];decide) h
theorem lab_sz:∀ (ts acc:List ByteArray),(∀ t∈acc,t.size≤32)→∀ t∈(L9.lab acc ts).2.1,t.size≤32
 | [],acc,h=>by rw [L9.lab];exact h
 | [_],acc,h=>by rw [L9.lab];exact h
 | a::b::r,acc,h=>by
  rw [L9.lab]
  split
  ·split
   ·refine lab_sz r (acc++[a]) fun t ht=>?_
    rcases List.mem_append.1 ht with ht|ht
    ·exact h t ht
    ·obtain rfl:t=a:=by simpa using ht
     exact vd_sz ‹_›
   ·exact h
  ·exact h
theorem itI_sz (t:ByteArray) (q:List ByteArray):(itI t q).1.sz:=by
 unfold itI
 split
 ·exact dcV_sz q
 ·exact inV_sz t q
theorem itL_sz (s:ByteArray):(∀ i∈(itL s).1,i.sz)∧(itL s).1.length≤s.size+1:=by
 unfold itL
 split
 ·exact⟨by simp,by simp⟩
 unfold itV
 have hl:∀ i∈(L9.lab [] (L9.txB s)).2.1.map It.lb,i.sz:=fun i hi=>by
  obtain⟨t,ht,rfl⟩:=List.mem_map.1 hi
  exact lab_sz _ [] (by simp) t ht
 have hn:(L9.lab [] (L9.txB s)).2.1.length≤s.size:=by
  have h1:=L9.lab_len (L9.txB s) []
  have h2:=(L9.txB_tok s).1
  simp only [List.length_nil,Nat.zero_add] at h1
  omega
 split
 ·exact⟨by simp,by simp⟩
 split
 ·exact⟨hl,by rw [List.length_map];omega⟩
 ·rename_i t q _
  split
  ·exact⟨by simp,by simp⟩
  split
  ·exact⟨by simp,by simp⟩
  ·refine⟨fun i hi=>?_,by rw [List.length_append,List.length_map];simp;omega⟩
   rcases List.mem_append.1 hi with hi|hi
   ·exact hl i hi
   ·obtain rfl:i=(itI t q).1:=by simpa using hi
    exact itI_sz t q
def foldI:Rd→List It→Rd × Int
 | s,[]=>(s,0)
 | s,.lb t::r=>foldI (s.lab t) r
 | s,.mp d::r=>if s.labs≠[]∨s.stmts≠[] then (s,8) else foldI (s.map d) r
 | s,.cd x tg m::r=>foldI (s.cod x tg m) r
def rdL (s:Rd) (t:ByteArray):Rd × Int:=if (itL t).2≠0 then ({ s with line:=s.line+1 },(itL t).2) else foldI { s with line:=s.line+1 } (itL t).1
structure Rd.Ok (s:Rd) (m:Nat):Prop where
 maps:s.maps.length≤m
 ml:s.ml.length=s.maps.length
 stmts:s.stmts.length≤m
 sl:s.sl.length=s.stmts.length
 labs:(s.stmts.flatMap (fun s=>s.labs)).length+s.labs.length≤m
 nm:∀ d∈s.maps,d.nm.size≤32
 lb:(∀ x∈s.stmts,∀ t∈x.labs,t.size≤32)∧∀ t∈s.labs,t.size≤32
 tg:∀ x∈s.stmts,x.tg.size≤32∧x.mp.size≤32
 asc:s.sl.Pairwise (·≤·)
 le:∀ i∈s.sl,i≤s.line
 line:0≤s.line
theorem Rd.Ok.mono {s:Rd} {m n:Nat} (h:s.Ok m) (hn:m≤n):s.Ok n:=⟨Nat.le_trans h.maps hn,h.ml,Nat.le_trans h.stmts hn,h.sl,Nat.le_trans h.labs hn,h.nm,h.lb,h.tg,h.asc,h.le,h.line⟩
theorem Rd.Ok.z:Rd.z.Ok 0:=⟨Nat.le_refl _,rfl,Nat.le_refl _,rfl,Nat.le_refl _,fun d h=>(by cases h),⟨fun d h=>(by cases h),fun d h=>(by cases h)⟩,fun d h=>(by cases h),List.Pairwise.nil,fun d h=>(by cases h),Int.le_refl _⟩
theorem Rd.Ok.lineUp {s:Rd} {m:Nat} (h:s.Ok m):({ s with line:=s.line+1 }:Rd).Ok m:=⟨h.maps,h.ml,h.stmts,h.sl,h.labs,h.nm,h.lb,h.tg,h.asc,fun i hi=>by have:=h.le i hi;show i≤s.line+1;omega,by have:=h.line;show 0≤s.line+1;omega⟩
theorem Rd.Ok.addLab {s:Rd} {m:Nat} (h:s.Ok m) {t:ByteArray} (ht:t.size≤32):(s.lab t).Ok (m+1) :=
 ⟨Nat.le_succ_of_le h.maps,h.ml,Nat.le_succ_of_le h.stmts,h.sl,by have:=h.labs;show _+(s.labs++[t]).length≤m+1;rw [List.length_append];simp only [List.length_cons,List.length_nil];show (s.stmts.flatMap (fun s=>s.labs)).length+_≤_;omega,h.nm,
  ⟨h.lb.1,fun u hu=>(List.mem_append.1 hu).elim (h.lb.2 u) (fun hu=>by obtain rfl:u=t:=(by simpa using hu);exact ht)⟩,h.tg,h.asc,h.le,h.line⟩
theorem Rd.Ok.addMap {s:Rd} {m:Nat} (h:s.Ok m) {d:L9.Df} (hd:d.nm.size≤32):(s.map d).Ok (m+1) :=
 ⟨by have:=h.maps;show (s.maps++[d]).length≤m+1;simp;omega,by show (s.ml++[s.line]).length=(s.maps++[d]).length;simp [h.ml],Nat.le_succ_of_le h.stmts,h.sl,Nat.le_succ_of_le h.labs,
  fun u hu=>(List.mem_append.1 hu).elim (h.nm u) (fun hu=>by obtain rfl:u=d:=(by simpa using hu);exact hd),h.lb,h.tg,h.asc,h.le,h.line⟩
theorem Rd.Ok.addCod {s:Rd} {m:Nat} (h:s.Ok m) {x:L9.Ins} {tg mp:ByteArray} (ht:tg.size≤32∧mp.size≤32):(s.cod x tg mp).Ok (m+1):=by
 refine⟨Nat.le_succ_of_le h.maps,h.ml,?_,?_,?_,h.nm,⟨fun y hy=>?_,fun t ht=>by cases ht⟩,fun y hy=>?_,?_,?_,h.line⟩
 ·have:=h.stmts;show (s.stmts++[_]).length≤m+1;simp;omega
 ·show (s.sl++[s.line]).length=(s.stmts++[_]).length;simp [h.sl]
 ·have:=h.labs
  show ((s.stmts++[(⟨s.labs,x,tg,mp⟩:Stm)]).flatMap (fun s=>s.labs)).length+0≤m+1
  rw [List.flatMap_append,List.length_append]
  simp only [List.flatMap_cons,List.flatMap_nil,List.append_nil]
  omega
 ·rcases List.mem_append.1 hy with hy|hy
  ·exact h.lb.1 y hy
  ·obtain rfl:y=⟨s.labs,x,tg,mp⟩:=by simpa using hy
   exact h.lb.2
 ·rcases List.mem_append.1 hy with hy|hy
  ·exact h.tg y hy
  ·obtain rfl:y=⟨s.labs,x,tg,mp⟩:=by simpa using hy
   exact ht
 ·show (s.sl++[s.line]).Pairwise (·≤·)
  rw [List.pairwise_append]
  exact⟨h.asc,List.pairwise_singleton _ _,fun a ha b hb=>by obtain rfl:b=s.line:=(by simpa using hb);exact h.le a ha⟩
 ·intro i hi
  rcases List.mem_append.1 hi with hi|hi
  ·exact h.le i hi
  ·obtain rfl:i=s.line:=by simpa using hi
   exact Int.le_refl _
theorem foldI_ok:∀ (l:List It) (s:Rd) (m:Nat),s.Ok m→(∀ i∈l,i.sz)→(foldI s l).1.Ok (m+l.length)
 | [],_,_,h,_=>h
 | .lb t::r,s,m,h,hl=>by
  rw [foldI]
  have:=foldI_ok r _ (m+1) (h.addLab (hl (.lb t) (by simp))) (fun i hi=>hl i (by simp [hi]))
  exact this.mono (by simp only [List.length_cons];omega)
 | .mp d::r,s,m,h,hl=>by
  rw [foldI]
  split
  ·exact h.mono (by simp)
  ·exact (foldI_ok r _ (m+1) (h.addMap (hl (.mp d) (by simp))) (fun i hi=>hl i (by simp [hi]))).mono (by simp only [List.length_cons];omega)
 | .cd x tg m'::r,s,m,h,hl=>by
  rw [foldI]
  exact (foldI_ok r _ (m+1) (h.addCod (hl (.cd x tg m') (by simp))) (fun i hi=>hl i (by simp [hi]))).mono (by simp only [List.length_cons];omega)
theorem rdL_ok (s:Rd) (t:ByteArray) (m:Nat) (h:s.Ok m):(rdL s t).1.Ok (m+(itL t).1.length):=by
 unfold rdL
 have hs:=itL_sz t
 split
 ·exact h.lineUp.mono (by omega)
 ·exact foldI_ok _ _ m h.lineUp hs.1
theorem foldI_line:∀ (l:List It) (s:Rd),(foldI s l).1.line=s.line
 | [],_=>rfl
 | .lb _::r,s=>by rw [foldI];exact foldI_line r _
 | .mp d::r,s=>by
  rw [foldI]
  split
  ·rfl
  ·exact foldI_line r _
 | .cd x tg m::r,s=>by rw [foldI];exact foldI_line r _
theorem rdL_line (s:Rd) (t:ByteArray):(rdL s t).1.line=s.line+1:=by
 unfold rdL
 split
 ·rfl
 ·exact foldI_line _ _
end Go.Proofs.YtgljoilddjmohaaGreatDoor.L10
end
section
set_option maxRecDepth 100000
set_option maxHeartbeats 8000000
namespace Go.Proofs.YtgljoilddjmohaaGreatDoor.L10
open Go.RowKit Go.Maps
attribute [local go_sem] Oper.semAt_some
theorem ta1 (v:Value) (w:World):(Instr.typeAssert (.iface 179 v) 177 179 true).run Tryz.prog w=.ok (.tuple #[v,.bool true]) w:=by
 simp [Instr.typeAssert,go_sem]
theorem ta1m (v:Value) (w:World):(Instr.typeAssert (.iface 182 v) 177 179 true).run Tryz.prog w=.ok (.tuple #[.agg #[.string ⟨#[]⟩],.bool false]) w:=by
 simp [Instr.typeAssert,go_sem,Tryz.zeroValue179]
theorem ta1c (v:Value) (w:World):(Instr.typeAssert (.iface 185 v) 177 179 true).run Tryz.prog w=.ok (.tuple #[.agg #[.string ⟨#[]⟩],.bool false]) w:=by
 simp [Instr.typeAssert,go_sem,Tryz.zeroValue179]
theorem ta2 (v:Value) (w:World):(Instr.typeAssert (.iface 182 v) 177 182 true).run Tryz.prog w=.ok (.tuple #[v,.bool true]) w:=by
 simp [Instr.typeAssert,go_sem]
theorem ta2c (v:Value) (w:World):(Instr.typeAssert (.iface 185 v) 177 182 true).run Tryz.prog w=.ok (.tuple #[.agg L9.dfZ,.bool false]) w:=by
 simp [Instr.typeAssert,go_sem,Tryz.zeroValue182]
theorem ta3 (v:Value) (w:World):(Instr.typeAssert (.iface 185 v) 177 185 true).run Tryz.prog w=.ok (.tuple #[v,.bool true]) w:=by
 simp [Instr.typeAssert,go_sem]
theorem it_form {w:World} {v:Value} {l:List Value} {n:Nat} (hn:l.length=n) (h:L9.ItAt w v l) (ht:∀ b,v.ownBlock=some b→∃ cs,w.heap[b]?=some (.cells cs 177)):∃ a c,v=.slice a n c∧(0<n→∃ b o cs,a=some ⟨b,o,none⟩∧w.heap[b]?=some (.cells cs 177)∧∀ j,(h:j<l.length)→cs[o+j]?=some l[j]):=by
 subst hn
 rcases h with ⟨b,o,cap,rfl,hb,hc⟩|⟨rfl,a,cap,rfl⟩
 ·obtain⟨cs,hh⟩:=ht b rfl
  refine⟨_,_,rfl,fun _=>⟨b,o,cs,rfl,hh,fun j hj=>?_⟩⟩
  have:=hc j hj
  unfold World.cell? at this
  rw [hh] at this
  exact this
 ·exact⟨a,cap,rfl,fun h=>absurd h (by simp)⟩
def RdE (B kr:Nat) (W:World) (s:Rd):Prop:=∃ l,RdM B kr W l s
theorem RdE.below {B kr:Nat} {W W':World} {s:Rd} (h:RdE B kr W s) (hb:Below W.heap.size W W'):RdE B kr W' s:=by
 obtain⟨l,vm,vs,mv,sv,lv,hr,hR⟩:=h
 exact⟨l,vm,vs,mv,sv,lv,L8.row_up hr hb,hR.below hb⟩
theorem addLabel_e (B kr:Nat) (t:ByteArray) (s:Rd) (w:World) (h:RdE B kr w s) (hB:B≤w.heap.size) (m:Nat) (ho:s.Ok m) (hm:m≤100000) :
  Calls Tryz.prog 119 #[.pointer (some ⟨kr,0,none⟩),.string t] w fun e w'=>e=.returned (.tuple #[])∧RdE B kr w' (s.lab t)∧Fk kr B w w'∧KT w w':=by
 obtain⟨l,hl⟩:=h
 exact (addLabel_at B kr t l s w hl hB (by have:=ho.labs;omega)).mono fun e w' ⟨h1,h2,h3⟩=>⟨h1,⟨l,h2⟩,h3⟩
theorem addMap_e (B kr:Nat) (d:L9.Df) (s:Rd) (w:World) (h:RdE B kr w s) (hB:B≤w.heap.size) (m:Nat) (ho:s.Ok m) (hm:m≤100000) :
  Calls Tryz.prog 120 #[.pointer (some ⟨kr,0,none⟩),.agg #[.string d.nm,.int .i64 d.key,.int .i64 d.val,.int .i64 d.ent]] w fun e w'=>e=.returned (.tuple #[])∧RdE B kr w' (s.map d)∧Fk kr B w w'∧KT w w':=by
 obtain⟨l,hl⟩:=h
 exact (addMap_at B kr d l s w hl hB (by have:=ho.maps;omega) (by have:=ho.maps;rw [ho.ml];omega)).mono fun e w' ⟨h1,h2,h3⟩=>⟨h1,⟨l,h2⟩,h3⟩
theorem addCode_e (B kr:Nat) (x:L9.Ins) (tg mp:ByteArray) (s:Rd) (w:World) (h:RdE B kr w s) (hB:B≤w.heap.size) (m:Nat) (ho:s.Ok m) (hm:m≤100000) :
  Calls Tryz.prog 121 #[.pointer (some ⟨kr,0,none⟩),.agg #[.int .i64 x.op,.bool x.reg,.int .i64 x.dst,.int .i64 x.src,.int .i64 x.off,.int .i64 x.imm,.string tg,.string mp]] w fun e w'=>e=.returned (.tuple #[])∧RdE B kr w' (s.cod x tg mp)∧Fk kr B w w'∧KT w w':=by
 obtain⟨l,hl⟩:=h
 have hln:l.length=s.stmts.length:=by
  obtain⟨vm,vs,mv,sv,lv,_,hR⟩:=hl
  rw [← hR.st,List.length_map]
 exact (addCode_at B kr x tg mp l s w hl hB (by have:=ho.stmts;omega) (by have:=ho.stmts;rw [ho.sl];omega)).mono fun e w' ⟨h1,⟨lv,h2⟩,h3⟩=>⟨h1,⟨_,h2⟩,h3⟩
theorem RdE.parts {B kr:Nat} {W:World} {s:Rd} (h:RdE B kr W s):∃ (va:Option Addr) (vc:Nat) (la:Option Addr) (lc:Nat),W.cell? ⟨kr,1,none⟩=some (.slice va s.stmts.length vc)∧W.cell? ⟨kr,4,none⟩=some (.slice la s.labs.length lc)∧W.cell? ⟨kr,6,none⟩=some (.int .i64 s.line)∧W.frozen? ⟨kr,6,none⟩=false∧kr<W.heap.size:=by
 obtain⟨l,vm,vs,mv,sv,lv,hr,hR⟩:=h
 obtain⟨sa,sc,rfl⟩:=L8.owns_slice hR.os
 obtain⟨la,lc,rfl⟩:=L8.owns_slice hR.ol
 obtain⟨x0,x1,x2,x3,x4,x5,x6⟩:=cells7 hr
 have hln:l.length=s.stmts.length:=by rw [← hR.st,List.length_map]
 exact⟨sa,sc,la,lc,by rw [← hln];exact x1,x4,x6,frozen_all hr 6,lt_of_block hr⟩
theorem RdE.setLine {B kr:Nat} {W:World} {s:Rd} (h:RdE B kr W s) (i:Int):RdE B kr (W.setCell ⟨kr,6,none⟩ (.int .i64 i)) { s with line:=i }:=by
 obtain⟨l,vm,vs,mv,sv,lv,hr,hR⟩:=h
 exact⟨l,vm,vs,mv,sv,lv,row_set hr 6 _,(hR.rd (gr_setCell W kr 6 (.int .i64 i)) hr).lbl s.lbl i⟩
def RdP (B kr:Nat) (r:Rd × Int) (w:World) (e:Ending) (w':World):Prop:=e=.returned (.int .i64 r.2)∧RdE B kr w' r.1∧Fk kr B w w'
theorem tab_fk {kr B:Nat} {w W:World} (h:L1.Wid w∧L2.Regs w) (hb:Fk kr B w W) (hB:3≤B) (hk:3≤kr):L1.Wid W∧L2.Regs W:=by
 obtain⟨⟨t,fr,h0⟩,⟨t',fr',h1⟩⟩:=h
 exact⟨⟨t,fr,(hb.block _ (by omega) (by omega)).trans h0⟩,⟨t',fr',(hb.block _ (by omega) (by omega)).trans h1⟩⟩
theorem read_err (B kr:Nat) (t:ByteArray) (s:Rd) (w:World) (h:RdE B kr w s) (hB:B≤w.heap.size) (hB3:3≤B) (hk:3≤kr) (hT:L1.Wid w∧L2.Regs w) (ht:t.size≤100000) (hl:0≤s.line∧s.line≤1000000) (hne:(itL t).2≠0) :
  Calls Tryz.prog 77 #[.pointer (some ⟨kr,0,none⟩),.string t] w fun e w'=>RdP B kr (rdL s t) w e w':=by
 unfold rdL
 rw [if_pos hne]
 obtain⟨items,er,hit⟩:∃ a b,itL t=(a,b):=⟨_,_,rfl⟩
 rw [hit] at hne ⊢
 simp only at hne ⊢
 have hE:=h.setLine (s.line+1)
 obtain⟨va,vc,la,lc,x1,x4,x6,fz,hkl⟩:=h.parts
 have hw6:IntKind.i64.wrap (s.line+1)=s.line+1:=IntWalk.i64_in _ (by omega)
 have hb1:=Fk.set (Fk.refl kr B w) 6 (.int .i64 (s.line+1))
 have HL:=Lib.hid (line_it t ht (w.setCell ⟨kr,6,none⟩ (.int .i64 (s.line+1))) (tab_fk hT hb1 hB3 hk) items er hit)
 have HE:=Lib.hid hE
 have HB:=Lib.hid hb1
 clear h hT hit hE hb1
 go_enter Tryz.func77,Tryz.ntmps77
 go_wp2_with (go_at_call 118;((with_reducible refine (HL.out).mono ?_);rintro e w1 ⟨v,rfl,hv,b1,hty⟩))
 go_ret
 exact⟨rfl,HE.out.below b1,HB.out.trans (Fk.of b1 (by simpa [World.setCell] using hB))⟩
theorem read_ok (B kr:Nat) (t:ByteArray) (s:Rd) (w:World) (h:RdE B kr w s) (hB:B≤w.heap.size) (hB3:3≤B) (hk:3≤kr) (hT:L1.Wid w∧L2.Regs w) (ht:t.size≤100000) (hl:0≤s.line∧s.line≤1000000) (m:Nat) (ho:s.Ok m) (hm:m+(itL t).1.length≤100000) (hz:(itL t).2=0) :
  Calls Tryz.prog 77 #[.pointer (some ⟨kr,0,none⟩),.string t] w fun e w'=>RdP B kr (rdL s t) w e w':=by
 unfold rdL
 rw [if_neg (by rw [hz];simp)]
 have hsz:=itL_sz t
 obtain⟨items,er,hit⟩:∃ a b,itL t=(a,b):=⟨_,_,rfl⟩
 rw [hit] at hz hsz hm ⊢
 simp only at hz hsz hm ⊢
 subst hz
 have hE:=h.setLine (s.line+1)
 obtain⟨va,vc,la,lc,x1,x4,x6,fz,hkl⟩:=h.parts
 have hw6:IntKind.i64.wrap (s.line+1)=s.line+1:=IntWalk.i64_in _ (by omega)
 have hb1:=Fk.set (Fk.refl kr B w) 6 (.int .i64 (s.line+1))
 have hB1:B≤(w.setCell ⟨kr,6,none⟩ (.int .i64 (s.line+1))).heap.size:=by simpa [World.setCell] using hB
 have HL:=Lib.hid (line_it t ht (w.setCell ⟨kr,6,none⟩ (.int .i64 (s.line+1))) (tab_fk hT hb1 hB3 hk) items 0 hit)
 have HE:=Lib.hid hE
 have HB:=Lib.hid hb1
 have HO:=Lib.hid ho.lineUp
 have HZ:=Lib.hid hsz
 obtain⟨n,hn⟩:∃ n,items.length=n:=⟨_,rfl⟩
 have HN:=Lib.hid hn
 have hnm:m+n≤100000:=by omega
 obtain⟨rr,hrr⟩:∃ rr,foldI { s with line:=s.line+1 } items=rr:=⟨_,rfl⟩
 rw [hrr]
 have HRR:=Lib.hid hrr
 clear h hT hit hE hb1 ho hsz hrr hm
 go_enter Tryz.func77,Tryz.ntmps77
 go_wp2_with (go_at_call 118;((with_reducible refine (HL.out).mono ?_);rintro e w1 ⟨v,rfl,hv,b1,hty⟩;obtain⟨ia,ic,rfl,hform⟩:=it_form (n:=n) (by rw [List.length_map];exact HN.out) hv hty))
 have HF:=Lib.hid hform
 have HS1:Hid (∃ sj,RdE B kr w1 sj∧Fk kr B w w1∧KT w1 w1∧sj.Ok (m+0)∧foldI sj (items.drop 0)=rr∧B≤w1.heap.size):=Lib.hid ⟨_,HE.out.below b1,HB.out.trans (Fk.of b1 hB1),fun _ _ _ hx=>hx,HO.out,HRR.out,Nat.le_trans hB1 b1.size⟩
 clear hv hty hform HE HB HO HRR HL x1 x4 x6 fz hw6 b1 hB1
 go_loopw [29] (fun i wr=>∃ j:Nat,j≤n∧i=.int .i64 (j:Int)∧Hid (∃ sj,RdE B kr wr sj∧Fk kr B w wr∧KT w1 wr∧sj.Ok (m+j)∧foldI sj (items.drop j)=rr∧B≤wr.heap.size)) (fun i _=>n-(intOf i).toNat)
 case atStart=>exact⟨0,Nat.zero_le _,rfl,HS1⟩
 case round =>
  obtain⟨j,hj,rfl,hS⟩:=hrel
  clear HS1
  obtain⟨sj,hE,hBj,hKT,hO,hR,hBs⟩:=hS.out
  clear hS
  by_cases hlt:j<n
  ·have hjl:j<items.length:=by rw [HN.out];exact hlt
   obtain⟨b,o,cs,rfl,hh,hcs⟩:=HF.out (by omega)
   have hrow:=hKT b cs _ hh
   have hc:=hcs j (by rw [List.length_map];exact hjl)
   rw [List.getElem_map] at hc
   have hce:=cell_row hrow hc
   have hbl:=lt_of_block hrow
   have hszj:=HZ.out.1 items[j] (List.getElem_mem hjl)
   rw [List.drop_eq_getElem_cons hjl] at hR
   obtain⟨it,hitj⟩:∃ it,items[j]=it:=⟨_,rfl⟩
   rw [hitj] at hce hszj hR
   clear hrow hc hcs hh hitj
   have HKT:=Lib.hid hKT
   have HBJ:=Lib.hid hBj
   have HOJ:=Lib.hid hO
   have HBS:=Lib.hid hBs
   cases it with
   | lb t' =>
    have hce':wr.cell? ⟨b,o+j,none⟩=some (.iface 179 (.agg #[.string t'])):=hce
    have t1:=ta1 (.agg #[.string t'])
    have HA:=Lib.hid (addLabel_e B kr t' sj (wr.alloc (.cells #[.string t'] 179)) (hE.below (L8.bnew _ _)) (by simp;omega) (m+j) hO (by omega))
    have HSZ:=Lib.hid (show t'.size≤32 from hszj)
    have HR:=Lib.hid (show foldI (sj.lab t') (items.drop (j+1))=rr from hR)
    have HB2:Hid (Fk kr B w (wr.alloc (.cells #[.string t'] 179))):=Lib.hid (hBj.alloc hBs _)
    clear hce hKT hBj hO hBs hszj hR hE
    go_wp2_with (go_at_call 119;((with_reducible refine (HA.out).mono ?_);rintro e w2 ⟨rfl,e2,b2,k2⟩))
    go_roundw
    case rel=>exact⟨j+1,by omega,by go_num,Lib.hid ⟨_,e2,HB2.out.trans b2,HKT.out.trans ((KT.below (L8.bnew wr _)).trans k2),HOJ.out.addLab HSZ.out,HR.out,Nat.le_trans HBS.out (Nat.le_trans (by simp) b2.size)⟩⟩
    case measure=>simp [intOf];omega
   | mp d =>
    have hce':wr.cell? ⟨b,o+j,none⟩=some (.iface 182 (.agg #[.string d.nm,.int .i64 d.key,.int .i64 d.val,.int .i64 d.ent])):=hce
    have t1:=ta1m (.agg #[.string d.nm,.int .i64 d.key,.int .i64 d.val,.int .i64 d.ent])
    have t2:=ta2 (.agg #[.string d.nm,.int .i64 d.key,.int .i64 d.val,.int .i64 d.ent])
    obtain⟨va,vc,la,lc,y1,y4,y6,yz,ykl⟩:=hE.parts
    obtain⟨ln,hln⟩:∃ ln,sj.labs.length=ln:=⟨_,rfl⟩
    obtain⟨sn,hsn⟩:∃ sn,sj.stmts.length=sn:=⟨_,rfl⟩
    rw [hln] at y4
    rw [hsn] at y1
    by_cases hbad:sj.labs≠[]∨sj.stmts≠[]
    ·have hr2:(sj,(8:Int))=rr:=by rw [← hR,foldI,if_pos hbad]
     subst hr2
     have HE2:=Lib.hid (And.intro (hE.below (L8.bnew wr (.cells #[.string d.nm,.int .i64 d.key,.int .i64 d.val,.int .i64 d.ent] 182))) (hBj.alloc hBs (.cells #[.string d.nm,.int .i64 d.key,.int .i64 d.val,.int .i64 d.ent] 182)))
     by_cases hlb:sj.labs=[]
     ·have hst:0<sj.stmts.length:=by
       rcases hbad with h|h
       ·exact absurd hlb h
       ·exact List.length_pos_iff.2 h
      obtain rfl:ln=0:=by rw [← hln,hlb];rfl
      have hs1:0<sn:=by omega
      have hs0:(0:Int)<(sn:Int):=by omega
      clear hst hln hsn
      clear hce hKT hBj hO hBs hszj hR hE hbad hlb
      go_wp2
      go_ret
      exact⟨rfl,HE2.out.1,HE2.out.2⟩
     ·have hl1:0<ln:=by have:=List.length_pos_iff.2 hlb;omega
      have hl0:(0:Int)<(ln:Int):=by omega
      clear hln hsn
      clear hce hKT hBj hO hBs hszj hR hE hbad hlb
      go_wp2
      go_ret
      exact⟨rfl,HE2.out.1,HE2.out.2⟩
    ·have hlb:sj.labs=[]:=Classical.byContradiction fun h=>hbad (.inl h)
     have hst:sj.stmts=[]:=Classical.byContradiction fun h=>hbad (.inr h)
     obtain rfl:ln=0:=by rw [← hln,hlb];rfl
     obtain rfl:sn=0:=by rw [← hsn,hst];rfl
     clear hln hsn
     have HA:=Lib.hid (addMap_e B kr d sj (wr.alloc (.cells #[.string d.nm,.int .i64 d.key,.int .i64 d.val,.int .i64 d.ent] 182)) (hE.below (L8.bnew _ _)) (by simp;omega) (m+j) hO (by omega))
     have HSZ:=Lib.hid (show d.nm.size≤32 from hszj)
     have HR:=Lib.hid (show foldI (sj.map d) (items.drop (j+1))=rr by rw [← hR,foldI,if_neg hbad])
     have HB2:Hid (Fk kr B w (wr.alloc (.cells #[.string d.nm,.int .i64 d.key,.int .i64 d.val,.int .i64 d.ent] 182))):=Lib.hid (hBj.alloc hBs _)
     clear hce hKT hBj hO hBs hszj hR hE hbad hlb hst
     go_wp2_with (go_at_call 120;((with_reducible refine (HA.out).mono ?_);rintro e w2 ⟨rfl,e2,b2,k2⟩))
     go_roundw
     case rel=>exact⟨j+1,by omega,by go_num,Lib.hid ⟨_,e2,HB2.out.trans b2,HKT.out.trans ((KT.below (L8.bnew wr _)).trans k2),HOJ.out.addMap HSZ.out,HR.out,Nat.le_trans HBS.out (Nat.le_trans (by simp) b2.size)⟩⟩
     case measure=>simp [intOf];omega
   | cd x tg m' =>
    have hce':wr.cell? ⟨b,o+j,none⟩=some (.iface 185 (.agg #[.int .i64 x.op,.bool x.reg,.int .i64 x.dst,.int .i64 x.src,.int .i64 x.off,.int .i64 x.imm,.string tg,.string m'])):=hce
    have t1:=ta1c (.agg #[.int .i64 x.op,.bool x.reg,.int .i64 x.dst,.int .i64 x.src,.int .i64 x.off,.int .i64 x.imm,.string tg,.string m'])
    have t2:=ta2c (.agg #[.int .i64 x.op,.bool x.reg,.int .i64 x.dst,.int .i64 x.src,.int .i64 x.off,.int .i64 x.imm,.string tg,.string m'])
    have t3:=ta3 (.agg #[.int .i64 x.op,.bool x.reg,.int .i64 x.dst,.int .i64 x.src,.int .i64 x.off,.int .i64 x.imm,.string tg,.string m'])
    have HA:=Lib.hid (addCode_e B kr x tg m' sj (wr.alloc (.cells #[.int .i64 x.op,.bool x.reg,.int .i64 x.dst,.int .i64 x.src,.int .i64 x.off,.int .i64 x.imm,.string tg,.string m'] 185)) (hE.below (L8.bnew _ _)) (by simp;omega) (m+j) hO (by omega))
    have HSZ:=Lib.hid (show tg.size≤32∧m'.size≤32 from hszj)
    have HR:=Lib.hid (show foldI (sj.cod x tg m') (items.drop (j+1))=rr from hR)
    have HB2:Hid (Fk kr B w (wr.alloc (.cells #[.int .i64 x.op,.bool x.reg,.int .i64 x.dst,.int .i64 x.src,.int .i64 x.off,.int .i64 x.imm,.string tg,.string m'] 185))):=Lib.hid (hBj.alloc hBs _)
    clear hce hKT hBj hO hBs hszj hR hE
    go_wp2_with (go_at_call 121;((with_reducible refine (HA.out).mono ?_);rintro e w2 ⟨rfl,e2,b2,k2⟩))
    go_roundw
    case rel=>exact⟨j+1,by omega,by go_num,Lib.hid ⟨_,e2,HB2.out.trans b2,HKT.out.trans ((KT.below (L8.bnew wr _)).trans k2),HOJ.out.addCod HSZ.out,HR.out,Nat.le_trans HBS.out (Nat.le_trans (by simp) b2.size)⟩⟩
    case measure=>simp [intOf];omega
  ·obtain rfl:j=n:=by omega
   have hr2:(sj,(0:Int))=rr:=by rw [← hR,List.drop_eq_nil_of_le (by rw [HN.out];exact Nat.le_refl _)];rfl
   subst hr2
   have HE2:=Lib.hid (And.intro hE hBj)
   clear hE hBj hKT hO hR hBs
   go_wp2
   go_ret
   exact⟨rfl,HE2.out.1,HE2.out.2⟩
theorem reading_at (B kr:Nat) (t:ByteArray) (s:Rd) (w:World) (h:RdE B kr w s) (hB:B≤w.heap.size) (hB3:3≤B) (hk:3≤kr) (hT:L1.Wid w∧L2.Regs w) (ht:t.size≤100000) (hl:0≤s.line∧s.line≤1000000) (m:Nat) (ho:s.Ok m) (hm:m+(itL t).1.length≤100000) :
  Calls Tryz.prog 77 #[.pointer (some ⟨kr,0,none⟩),.string t] w fun e w'=>RdP B kr (rdL s t) w e w':=by
 by_cases hz:(itL t).2=0
 ·exact read_ok B kr t s w h hB hB3 hk hT ht hl m ho hm hz
 ·exact read_err B kr t s w h hB hB3 hk hT ht hl hz
end Go.Proofs.YtgljoilddjmohaaGreatDoor.L10
end
