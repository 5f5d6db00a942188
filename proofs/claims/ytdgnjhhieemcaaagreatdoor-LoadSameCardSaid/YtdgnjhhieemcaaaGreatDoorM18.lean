/- Lemmas and walks of L10Rd, L10Ad, L10Am: what each theorem states; conditions stand in each theorem. -/
import Derived.Test.YtdgnjhhieemcaaaGreatDoorL10Fbw
import Derived.Test.YtdgnjhhieemcaaaGreatDoorM17
set_option maxHeartbeats 4000000
set_option maxRecDepth 100000
section
namespace Go.Proofs.YtdgnjhhieemcaaaGreatDoor.L10
open Go.RowKit Go.Maps
attribute [local go_sem] Oper.semAt_some
inductive It where
 | lb (t:ByteArray)
 | mp (d:L9.Df)
 | cd (x:L9.Ins) (tg m:ByteArray)
def It.toV:It→Value
 | .lb t=>.iface 205 (.agg #[.string t])
 | .mp d=>.iface 208 (.agg (L9.dfA d))
 | .cd x tg m=>.iface 211 (.agg (L9.codA x tg m))
structure Rd where
 maps:List L9.Df
 stmts:List Stm
 ml:List Int
 sl:List Int
 labs:List ByteArray
 lbl:Int
 line:Int
def Rd.z:Rd:=⟨[],[],[],[],[],0,0⟩
def Rd.lab (s:Rd) (t:ByteArray):Rd:={ s with lbl:=if s.labs=[] then s.line else s.lbl,labs:=s.labs++[t] }
def Rd.map (s:Rd) (d:L9.Df):Rd:={ s with maps:=s.maps++[d],ml:=s.ml++[s.line] }
def Rd.cod (s:Rd) (x:L9.Ins) (tg mp:ByteArray):Rd:={ s with stmts:=s.stmts++[⟨s.labs,x,tg,mp⟩],sl:=s.sl++[s.line],labs:=[] }
abbrev inI (l:List Int):List Value:=l.map (Value.int .i64)
abbrev smC (l:List (Value × Stm)):List Value:=l.flatMap fun x=>smL x.1 x.2
def LbAt (W:World) (v:Value) (l:List ByteArray):Prop:=L8.StAt W v l∧∀ b,v.ownBlock=some b→∃ cs fr,W.heap[b]?=some (.cells cs 9 fr)
structure RdR (B:Nat) (W:World) (vm vs mv sv lv:Value) (l:List (Value × Stm)) (s:Rd):Prop where
 om:W.ownsRow B 83 4 vm s.maps.length (s.maps.flatMap dfL)
 os:W.ownsRow B 65 9 vs l.length (smC l)
 oml:W.ownsRow B 3 1 mv s.ml.length (inI s.ml)
 osl:W.ownsRow B 3 1 sv s.sl.length (inI s.sl)
 ol:W.ownsRow B 9 1 lv s.labs.length (L8.stC s.labs)
 lb:∀ x∈l,LbAt W x.1 x.2.labs
 nl:∀ x∈l,∀ g,x.1.ownBlock=some g→lv.ownBlock≠some g
 ne:∀ g,mv.ownBlock=some g→sv.ownBlock≠some g
 st:l.map (·.2)=s.stmts
theorem own_ty {w:World} {base e:TypeId} {size:Nat} {v:Value} {n:Nat} {xs:List Value} {g:Nat} (h:w.ownsRow base e size v n xs) (hg:v.ownBlock=some g):∃ cur,w.heap[g]?=some (.cells cur e (0,0)):=by
 rcases h.2 with ⟨rfl,_⟩|⟨g',cap,cur,rfl,_,hh,_⟩
 ·cases hg
 ·obtain rfl:g'=g:=by simpa [Value.ownBlock] using hg
  exact⟨cur,hh⟩
theorem own_kept {w w':World} {base e:TypeId} {size:Nat} {v:Value} {n:Nat} {xs:List Value} {o:Option Nat} (h:w.ownsRow base e size v n xs) (hg:w.grownBy w' o) (hne:∀ g,v.ownBlock=some g→o≠some g):w'.ownsRow base e size v n xs:=by
 refine h.kept hg ?_
 cases hv:v.ownBlock with
 | none=>exact .inl rfl
 | some g=>exact .inr fun e=>hne g hv e.symm
theorem LbAt.kept {W W':World} {v:Value} {l:List ByteArray} {o:Option Nat} (h:LbAt W v l) (hg:W.grownBy W' o) (hne:∀ g,v.ownBlock=some g→o≠some g):LbAt W' v l:=by
 refine⟨?_,fun b hb=>?_⟩
 ·rcases h.1 with ⟨b,i,cap,rfl,hlt,hc⟩|h1
  ·exact .inl ⟨b,i,cap,rfl,Nat.lt_of_lt_of_le hlt hg.size,fun j hj=>hg.cell (hc j hj) (fun e=>hne b rfl e.symm)⟩
  ·exact .inr h1
 ·obtain⟨cs,fr,hh⟩:=h.2 b hb
  exact⟨cs,fr,(hg.block b (Array.getElem?_eq_some_iff.1 hh).1 (fun e=>hne b hb e.symm)).trans hh⟩
theorem ty_ne {w:World} {a b:Nat} {c1 c2:Array Value} {t1 t2:TypeId} {f1 f2:Nat × Nat} (h1:w.heap[a]?=some (.cells c1 t1 f1)) (h2:w.heap[b]?=some (.cells c2 t2 f2)) (h:t1≠t2):(some a:Option Nat)≠some b:=by
 intro e
 cases e
 rw [h1] at h2
 cases h2
 exact h rfl
section
variable {B:Nat} {W W':World} {vm vs mv sv lv:Value} {l:List (Value × Stm)} {s:Rd}
theorem RdR.other (h:RdR B W vm vs mv sv lv l s) {o:Option Nat} (hg:W.grownBy W' o) (ho:∀ k,o=some k→∃ cs t fr,W.heap[k]?=some (.cells cs t fr)∧t≠83∧t≠65∧t≠3∧t≠9):RdR B W' vm vs mv sv lv l s:=by
 have key:∀ {e:TypeId} {g:Nat} {cur:Array Value} {fr:Nat × Nat},W.heap[g]?=some (.cells cur e fr)→(e=83∨e=65∨e=3∨e=9)→o≠some g:=by
  intro e g cur fr hh he ho'
  obtain⟨cs,t,fr',hk,h1,h2,h3,h4⟩:=ho g ho'
  rw [hh] at hk
  cases hk
  rcases he with he|he|he|he
  ·exact h1 he
  ·exact h2 he
  ·exact h3 he
  ·exact h4 he
 refine⟨own_kept h.om hg fun g hv=>?_,own_kept h.os hg fun g hv=>?_,own_kept h.oml hg fun g hv=>?_,own_kept h.osl hg fun g hv=>?_,own_kept h.ol hg fun g hv=>?_,fun x hx=>(h.lb x hx).kept hg fun g hv=>?_,h.nl,h.ne,h.st⟩
 ·obtain⟨c,hc⟩:=own_ty h.om hv;exact key hc (.inl rfl)
 ·obtain⟨c,hc⟩:=own_ty h.os hv;exact key hc (.inr (.inl rfl))
 ·obtain⟨c,hc⟩:=own_ty h.oml hv;exact key hc (.inr (.inr (.inl rfl)))
 ·obtain⟨c,hc⟩:=own_ty h.osl hv;exact key hc (.inr (.inr (.inl rfl)))
 ·obtain⟨c,hc⟩:=own_ty h.ol hv;exact key hc (.inr (.inr (.inr rfl)))
 ·obtain⟨c,fr,hc⟩:=(h.lb x hx).2 g hv;exact key hc (.inr (.inr (.inr rfl)))
theorem RdR.below (h:RdR B W vm vs mv sv lv l s) (hb:Below W.heap.size W W'):RdR B W' vm vs mv sv lv l s:=h.other (gr_of hb none) (fun k hk=>by cases hk)
theorem RdR.addLab (h:RdR B W vm vs mv sv lv l s) (t:ByteArray) {g cap:Nat} (ho:W'.ownsRow B 9 1 (.slice (some ⟨g,0,none⟩) (s.labs.length+1) cap) (s.labs.length+1) (L8.stC s.labs++[.string t])) (hg:W.grownBy W' lv.ownBlock) (hat:lv.ownBlock=some g∨g=W.heap.size) :
  RdR B W' vm vs mv sv (.slice (some ⟨g,0,none⟩) (s.labs.length+1) cap) l (s.lab t):=by
 have key:∀ {e:TypeId} {k:Nat} {cur:Array Value} {fr:Nat × Nat},W.heap[k]?=some (.cells cur e fr)→e≠9→lv.ownBlock≠some k:=by
  intro e k cur fr hh he hl
  obtain⟨c,hc⟩:=own_ty h.ol hl
  rw [hh] at hc
  cases hc
  exact he rfl
 refine⟨own_kept h.om hg fun k hv=>?_,own_kept h.os hg fun k hv=>?_,own_kept h.oml hg fun k hv=>?_,own_kept h.osl hg fun k hv=>?_,?_,fun x hx=>(h.lb x hx).kept hg fun k hv=>h.nl x hx k hv,fun x hx k hv=>?_,h.ne,h.st⟩
 ·obtain⟨c,hc⟩:=own_ty h.om hv;exact key hc (by decide)
 ·obtain⟨c,hc⟩:=own_ty h.os hv;exact key hc (by decide)
 ·obtain⟨c,hc⟩:=own_ty h.oml hv;exact key hc (by decide)
 ·obtain⟨c,hc⟩:=own_ty h.osl hv;exact key hc (by decide)
 ·show W'.ownsRow B _ 1 _ (s.labs++[t]).length (L8.stC (s.labs++[t]))
  rw [L8.stC_snoc,List.length_append]
  exact ho
 ·show (some g:Option Nat)≠some k
  rintro e
  cases e
  rcases hat with hat|rfl
  ·exact h.nl x hx g hv hat
  ·obtain⟨c,fr,hc⟩:=(h.lb x hx).2 _ hv
   exact absurd (Array.getElem?_eq_some_iff.1 hc).1 (Nat.lt_irrefl _)
theorem RdR.addDef (h:RdR B W vm vs mv sv lv l s) (d:L9.Df) {g cap:Nat} (ho:W'.ownsRow B 83 4 (.slice (some ⟨g,0,none⟩) (s.maps.length+1) cap) (s.maps.length+1) (s.maps.flatMap dfL++dfL d)) (hg:W.grownBy W' vm.ownBlock) :
  RdR B W' (.slice (some ⟨g,0,none⟩) (s.maps.length+1) cap) vs mv sv lv l { s with maps:=s.maps++[d] }:=by
 have key:∀ {e:TypeId} {k:Nat} {cur:Array Value} {fr:Nat × Nat},W.heap[k]?=some (.cells cur e fr)→e≠83→vm.ownBlock≠some k:=by
  intro e k cur fr hh he hl
  obtain⟨c,hc⟩:=own_ty h.om hl
  rw [hh] at hc
  cases hc
  exact he rfl
 refine⟨?_,own_kept h.os hg fun k hv=>?_,own_kept h.oml hg fun k hv=>?_,own_kept h.osl hg fun k hv=>?_,own_kept h.ol hg fun k hv=>?_,fun x hx=>(h.lb x hx).kept hg fun k hv=>?_,h.nl,h.ne,h.st⟩
 ·show W'.ownsRow B _ 4 _ (s.maps++[d]).length ((s.maps++[d]).flatMap dfL)
  rw [List.flatMap_append,List.length_append]
  simpa using ho
 ·obtain⟨c,hc⟩:=own_ty h.os hv;exact key hc (by decide)
 ·obtain⟨c,hc⟩:=own_ty h.oml hv;exact key hc (by decide)
 ·obtain⟨c,hc⟩:=own_ty h.osl hv;exact key hc (by decide)
 ·obtain⟨c,hc⟩:=own_ty h.ol hv;exact key hc (by decide)
 ·obtain⟨c,fr,hc⟩:=(h.lb x hx).2 k hv;exact key hc (by decide)
theorem RdR.addMl (h:RdR B W vm vs mv sv lv l s) (i:Int) {g cap:Nat} (ho:W'.ownsRow B 3 1 (.slice (some ⟨g,0,none⟩) (s.ml.length+1) cap) (s.ml.length+1) (inI s.ml++[.int .i64 i])) (hg:W.grownBy W' mv.ownBlock) (hat:mv.ownBlock=some g∨g=W.heap.size) :
  RdR B W' vm vs (.slice (some ⟨g,0,none⟩) (s.ml.length+1) cap) sv lv l { s with ml:=s.ml++[i] }:=by
 have key:∀ {e:TypeId} {k:Nat} {cur:Array Value} {fr:Nat × Nat},W.heap[k]?=some (.cells cur e fr)→e≠3→mv.ownBlock≠some k:=by
  intro e k cur fr hh he hl
  obtain⟨c,hc⟩:=own_ty h.oml hl
  rw [hh] at hc
  cases hc
  exact he rfl
 refine⟨own_kept h.om hg fun k hv=>?_,own_kept h.os hg fun k hv=>?_,?_,own_kept h.osl hg fun k hv hm=>h.ne k hm hv,own_kept h.ol hg fun k hv=>?_,fun x hx=>(h.lb x hx).kept hg fun k hv=>?_,h.nl,fun k hk hv=>?_,h.st⟩
 ·obtain⟨c,hc⟩:=own_ty h.om hv;exact key hc (by decide)
 ·obtain⟨c,hc⟩:=own_ty h.os hv;exact key hc (by decide)
 ·show W'.ownsRow B _ 1 _ (s.ml++[i]).length (inI (s.ml++[i]))
  unfold inI
  rw [List.map_append,List.length_append]
  exact ho
 ·obtain⟨c,hc⟩:=own_ty h.ol hv;exact key hc (by decide)
 ·obtain⟨c,fr,hc⟩:=(h.lb x hx).2 k hv;exact key hc (by decide)
 ·cases hk
  rcases hat with hat|rfl
  ·exact h.ne g hat hv
  ·obtain⟨c,hc⟩:=own_ty h.osl hv
   exact absurd (Array.getElem?_eq_some_iff.1 hc).1 (Nat.lt_irrefl _)
theorem RdR.addSl (h:RdR B W vm vs mv sv lv l s) (i:Int) {g cap:Nat} (ho:W'.ownsRow B 3 1 (.slice (some ⟨g,0,none⟩) (s.sl.length+1) cap) (s.sl.length+1) (inI s.sl++[.int .i64 i])) (hg:W.grownBy W' sv.ownBlock) (hat:sv.ownBlock=some g∨g=W.heap.size) :
  RdR B W' vm vs mv (.slice (some ⟨g,0,none⟩) (s.sl.length+1) cap) lv l { s with sl:=s.sl++[i] }:=by
 have key:∀ {e:TypeId} {k:Nat} {cur:Array Value} {fr:Nat × Nat},W.heap[k]?=some (.cells cur e fr)→e≠3→sv.ownBlock≠some k:=by
  intro e k cur fr hh he hl
  obtain⟨c,hc⟩:=own_ty h.osl hl
  rw [hh] at hc
  cases hc
  exact he rfl
 refine⟨own_kept h.om hg fun k hv=>?_,own_kept h.os hg fun k hv=>?_,own_kept h.oml hg fun k hv hm=>h.ne k hv hm,?_,own_kept h.ol hg fun k hv=>?_,fun x hx=>(h.lb x hx).kept hg fun k hv=>?_,h.nl,fun k hk hv=>?_,h.st⟩
 ·obtain⟨c,hc⟩:=own_ty h.om hv;exact key hc (by decide)
 ·obtain⟨c,hc⟩:=own_ty h.os hv;exact key hc (by decide)
 ·show W'.ownsRow B _ 1 _ (s.sl++[i]).length (inI (s.sl++[i]))
  unfold inI
  rw [List.map_append,List.length_append]
  exact ho
 ·obtain⟨c,hc⟩:=own_ty h.ol hv;exact key hc (by decide)
 ·obtain⟨c,fr,hc⟩:=(h.lb x hx).2 k hv;exact key hc (by decide)
 ·cases hv
  rcases hat with hat|rfl
  ·exact h.ne g hk hat
  ·obtain⟨c,hc⟩:=own_ty h.oml hk
   exact absurd (Array.getElem?_eq_some_iff.1 hc).1 (Nat.lt_irrefl _)
theorem RdR.addStm (h:RdR B W vm vs mv sv lv l s) (x:L9.Ins) (tg mp:ByteArray) {g cap:Nat} (ho:W'.ownsRow B 65 9 (.slice (some ⟨g,0,none⟩) (l.length+1) cap) (l.length+1) (smC l++smL lv ⟨s.labs,x,tg,mp⟩)) (hg:W.grownBy W' vs.ownBlock) :
  RdR B W' vm (.slice (some ⟨g,0,none⟩) (l.length+1) cap) mv sv (.slice none 0 0) (l++[(lv,⟨s.labs,x,tg,mp⟩)]) { s with stmts:=s.stmts++[⟨s.labs,x,tg,mp⟩],labs:=[] }:=by
 have key:∀ {e:TypeId} {k:Nat} {cur:Array Value} {fr:Nat × Nat},W.heap[k]?=some (.cells cur e fr)→e≠65→vs.ownBlock≠some k:=by
  intro e k cur fr hh he hl
  obtain⟨c,hc⟩:=own_ty h.os hl
  rw [hh] at hc
  cases hc
  exact he rfl
 refine⟨own_kept h.om hg fun k hv=>?_,?_,own_kept h.oml hg fun k hv=>?_,own_kept h.osl hg fun k hv=>?_,World.ownsRow_nil _ _ _ _,fun y hy=>?_,fun y hy k hv e=>(by cases e),h.ne,?_⟩
 ·obtain⟨c,hc⟩:=own_ty h.om hv;exact key hc (by decide)
 ·rw [List.length_append]
  show W'.ownsRow B _ 9 _ (l.length+1) (smC (l++[(lv,⟨s.labs,x,tg,mp⟩)]))
  unfold smC
  rw [List.flatMap_append]
  simpa using ho
 ·obtain⟨c,hc⟩:=own_ty h.oml hv;exact key hc (by decide)
 ·obtain⟨c,hc⟩:=own_ty h.osl hv;exact key hc (by decide)
 ·rcases List.mem_append.1 hy with hy|hy
  ·refine (h.lb y hy).kept hg fun k hv=>?_
   obtain⟨c,fr,hc⟩:=(h.lb y hy).2 k hv
   exact key hc (by decide)
  ·obtain rfl:y=(lv,⟨s.labs,x,tg,mp⟩):=by simpa using hy
   have hl:LbAt W lv s.labs:=⟨L8.own_st h.ol,fun b hb=>by obtain⟨c,hc⟩:=own_ty h.ol hb;exact⟨c,_,hc⟩⟩
   refine hl.kept hg fun k hv=>?_
   obtain⟨c,hc⟩:=own_ty h.ol hv
   exact key hc (by decide)
 ·rw [List.map_append,h.st]
  rfl
end
end Go.Proofs.YtdgnjhhieemcaaaGreatDoor.L10
end
section
namespace Go.Proofs.YtdgnjhhieemcaaaGreatDoor.L10
open Go.RowKit Go.Maps
attribute [local go_sem] Oper.semAt_some
abbrev rdA (vm vs mv sv lv:Value) (lbl line:Int):Array Value:=#[vm,vs,mv,sv,lv,.int .i64 lbl,.int .i64 line]
def RdM (B kr:Nat) (W:World) (l:List (Value × Stm)) (s:Rd):Prop:=∃ vm vs mv sv lv,W.heap[kr]?=some (.cells (rdA vm vs mv sv lv s.lbl s.line) 151)∧RdR B W vm vs mv sv lv l s
theorem cells7 {w:World} {k:Nat} {a b c d e f g:Value} {t:TypeId} (h:w.heap[k]?=some (.cells #[a,b,c,d,e,f,g] t)):w.cell? ⟨k,0,none⟩=some a∧w.cell? ⟨k,1,none⟩=some b∧w.cell? ⟨k,2,none⟩=some c∧w.cell? ⟨k,3,none⟩=some d∧w.cell? ⟨k,4,none⟩=some e∧w.cell? ⟨k,5,none⟩=some f∧w.cell? ⟨k,6,none⟩=some g:=by
 simp [World.cell?,h]
theorem frozen_all {w:World} {k:Nat} {cs:Array Value} {t:TypeId} (h:w.heap[k]?=some (.cells cs t)) (i:Nat):w.frozen? ⟨k,i,none⟩=false:=by simp [World.frozen?,h]
theorem row_set {w:World} {k:Nat} {cs:Array Value} {t:TypeId} (h:w.heap[k]?=some (.cells cs t)) (i:Nat) (v:Value):(w.setCell ⟨k,i,none⟩ v).heap[k]?=some (.cells (cs.setIfInBounds i v) t):=L4.heap_setCell_same h v
theorem gr_setCell (w:World) (k i:Nat) (v:Value):w.grownBy (w.setCell ⟨k,i,none⟩ v) (some k):=⟨rfl,rfl,rfl,by simp [World.setCell],fun x _ hne=>Below.heap_setCell _ _ _ _ (fun e=>hne (by rw [e]))⟩
structure Fk (kr B:Nat) (w w':World):Prop where
 os:w'.os=w.os
 tape:w'.tape=w.tape
 output:w'.output=w.output
 size:w.heap.size≤w'.heap.size
 block:∀ k,k<B→k≠kr→w'.heap[k]?=w.heap[k]?
theorem Fk.refl (kr B:Nat) (w:World):Fk kr B w w:=⟨rfl,rfl,rfl,Nat.le_refl _,fun _ _ _=>rfl⟩
theorem Fk.trans {kr B:Nat} {a b c:World} (h:Fk kr B a b) (k:Fk kr B b c):Fk kr B a c:=⟨k.os.trans h.os,k.tape.trans h.tape,k.output.trans h.output,Nat.le_trans h.size k.size,fun x hx hn=>(k.block x hx hn).trans (h.block x hx hn)⟩
theorem Fk.of {kr B:Nat} {a b:World} (h:Below a.heap.size a b) (hB:B≤a.heap.size):Fk kr B a b:=⟨h.os,h.tape,h.output,h.size,fun k hk _=>h.block k (Nat.lt_of_lt_of_le hk hB)⟩
theorem Fk.drew {kr B:Nat} {a b:World} (h:Fk kr B a b):Fk kr B a b.drew:=⟨h.os,h.tape,h.output,h.size,h.block⟩
theorem Fk.alloc {kr B:Nat} {a b:World} (h:Fk kr B a b) (hB:B≤b.heap.size) (o:Obj):Fk kr B a (b.alloc o):=h.trans (Fk.of (L8.bnew b o) hB)
theorem Fk.grown {kr B:Nat} {a b c:World} {o:Option Nat} (h:Fk kr B a b) (hg:b.grownBy c o) (hB:B≤b.heap.size) (hr:∀ k,o=some k→B≤k):Fk kr B a c :=
 h.trans ⟨hg.os,hg.tape,hg.output,hg.size,fun k hk _=>hg.block k (Nat.lt_of_lt_of_le hk hB) (fun e=>by have:=hr k e.symm;omega)⟩
theorem Fk.set {kr B:Nat} {a b:World} (h:Fk kr B a b) (i:Nat) (v:Value):Fk kr B a (b.setCell ⟨kr,i,none⟩ v) :=
 h.trans ⟨rfl,rfl,rfl,by simp [World.setCell],fun k _ hn=>Below.heap_setCell _ _ _ _ hn⟩
theorem Fk.setRow {kr B:Nat} {a b:World} (h:Fk kr B a b) {k:Nat} (hk:B≤k) (cs:Array Value):Fk kr B a (b.setRow k cs) :=
 h.trans ⟨rfl,rfl,rfl,by simp [World.setRow],fun x hx _=>setRow_other b k x cs (by omega)⟩
theorem Fk.bel {kr B C:Nat} {a b:World} (h:Fk kr B a b) (hB:C≤B) (hk:C≤kr):Below C a b:=⟨h.os,h.tape,h.output,h.size,fun k hk'=>h.block k (by omega) (by omega)⟩
theorem bel_set {B:Nat} {w W:World} (h:Below B w W) {k:Nat} (hk:B≤k) (i:Nat) (v:Value):Below B w (W.setCell ⟨k,i,none⟩ v):=h.setCell (p:=⟨k,i,none⟩) hk v
theorem RdR.rd {B:Nat} {W W':World} {vm vs mv sv lv:Value} {l:List (Value × Stm)} {s:Rd} {kr:Nat} {cs:Array Value} (h:RdR B W vm vs mv sv lv l s) (hg:W.grownBy W' (some kr)) (hk:W.heap[kr]?=some (.cells cs 151)):RdR B W' vm vs mv sv lv l s :=
 h.other hg fun k e=>by cases e;exact⟨_,_,_,hk,by decide,by decide,by decide,by decide⟩
theorem RdR.lbl {B:Nat} {W:World} {vm vs mv sv lv:Value} {l:List (Value × Stm)} {s:Rd} (h:RdR B W vm vs mv sv lv l s) (i j:Int):RdR B W vm vs mv sv lv l { s with lbl:=i,line:=j }:=⟨h.om,h.os,h.oml,h.osl,h.ol,h.lb,h.nl,h.ne,h.st⟩
theorem infoT:(Tryz.prog.info? 9).map (fun i=>(i.zero,i.size,i.bytes))=some (some (.string ⟨#[]⟩),1,16):=by kernel_rfl
theorem infoI:(Tryz.prog.info? 3).map (fun i=>(i.zero,i.size,i.bytes))=some (some (.int .i64 0),1,8):=by kernel_rfl
theorem infoD:(Tryz.prog.info? 83).map (fun i=>(i.zero,i.size,i.bytes))=some (some (.agg #[.string ⟨#[]⟩,.int .i64 0,.int .i64 0,.int .i64 0]),4,40):=by kernel_rfl
theorem infoS:(Tryz.prog.info? 65).map (fun i=>(i.zero,i.size,i.bytes))=some (some (.agg #[.slice none 0 0,.int .i64 0,.bool false,.int .i64 0,.int .i64 0,.int .i64 0,.int .i64 0,.string ⟨#[]⟩,.string ⟨#[]⟩]),9,104):=by kernel_rfl
theorem row_own {W W':World} {kr:Nat} {cs:Array Value} {B e:TypeId} {size:Nat} {v:Value} {n:Nat} {xs:List Value} (hk:W.heap[kr]?=some (.cells cs 151)) (ho:W.ownsRow B e size v n xs) (hg:W.grownBy W' v.ownBlock) (he:e≠151):W'.heap[kr]?=some (.cells cs 151):=by
 refine (hg.block kr (lt_of_block hk) fun h=>?_).trans hk
 obtain⟨c,hc⟩:=own_ty ho h.symm
 rw [hk] at hc
 cases hc
 exact he rfl
def KT (w w':World):Prop:=∀ (k:Nat) (cs:Array Value) (fr:Nat × Nat),w.heap[k]?=some (.cells cs 203 fr)→w'.heap[k]?=some (.cells cs 203 fr)
theorem KT.trans {a b c:World} (h:KT a b) (k:KT b c):KT a c:=fun _ _ _ hx=>k _ _ _ (h _ _ _ hx)
theorem KT.below {a b:World} (h:Below a.heap.size a b):KT a b:=fun k _ _ hx=>(h.block k (Array.getElem?_eq_some_iff.1 hx).1).trans hx
theorem KT.gr {a b:World} {k:Nat} {cs:Array Value} {t:TypeId} {fr:Nat × Nat} (hg:a.grownBy b (some k)) (hk:a.heap[k]?=some (.cells cs t fr)) (ht:t≠203):KT a b:=fun _ _ _ hx=>(hg.block _ (Array.getElem?_eq_some_iff.1 hx).1 (ty_ne hx hk (Ne.symm ht))).trans hx
theorem KT.own {a b:World} {B e:TypeId} {size:Nat} {v:Value} {n:Nat} {xs:List Value} (ho:a.ownsRow B e size v n xs) (hg:a.grownBy b v.ownBlock) (he:e≠203):KT a b:=fun k cs fr hx=>(hg.block k (Array.getElem?_eq_some_iff.1 hx).1 (fun h=>by
 obtain⟨c,hc⟩:=own_ty ho h.symm
 rw [hx] at hc
 cases hc
 exact he rfl)).trans hx
theorem own_base2 {w:World} {base e:TypeId} {size:Nat} {v:Value} {n:Nat} {xs:List Value} (h:w.ownsRow base e size v n xs):∀ j,v.ownBlock=some j→base≤j:=fun j hj=>(h.lt j hj).1
theorem lab_first {vm vs mv sv v v':Value} {s:Rd} {t:ByteArray} (h0:s.labs=[]):((rdA vm vs mv sv v s.lbl s.line).setIfInBounds 5 (.int .i64 s.line)).setIfInBounds 4 v'=rdA vm vs mv sv v' (s.lab t).lbl (s.lab t).line:=by
 unfold Rd.lab
 rw [if_pos h0]
 rfl
theorem lab_next {vm vs mv sv v v':Value} {s:Rd} {t:ByteArray} (h0:¬ s.labs=[]):(rdA vm vs mv sv v s.lbl s.line).setIfInBounds 4 v'=rdA vm vs mv sv v' (s.lab t).lbl (s.lab t).line:=by
 unfold Rd.lab
 rw [if_neg h0]
 rfl
theorem addLabel_at (B kr:Nat) (t:ByteArray) (l:List (Value × Stm)) (s:Rd) (w:World) (h:RdM B kr w l s) (hB:B≤w.heap.size) (hm:s.labs.length≤100000) :
  Calls Tryz.prog 129 #[.pointer (some ⟨kr,0,none⟩),.string t] w fun e w'=>e=.returned (.tuple #[])∧RdM B kr w' l (s.lab t)∧Fk kr B w w'∧KT w w':=by
 obtain⟨i0,hi,hz0,hz1,hz2⟩:=info_parts infoT
 obtain⟨vm,vs,mv,sv,lv,hrow,hR⟩:=h
 obtain⟨n,hn⟩:∃ n,s.labs.length=n:=⟨_,rfl⟩
 have hol:=hR.ol
 obtain⟨la,lc,rfl⟩:=L8.owns_slice hol
 have hkl:=lt_of_block hrow
 rw [hn] at hol hrow hR hm
 obtain⟨x0,x1,x2,x3,x4,x5,x6⟩:=cells7 hrow
 by_cases h0:s.labs=[]
 ·have hn0:n=0:=by rw [← hn,h0];rfl
  subst hn0
  have hR1:=hR.rd (gr_setCell w kr 5 (.int .i64 s.line)) hrow
  have hr1:=row_set hrow 5 (.int .i64 s.line)
  have fz:=frozen_all hrow 5
  obtain⟨y0,y1,y2,y3,y4,y5,y6⟩:=cells7 hr1
  have hb1:=Fk.set (Fk.refl kr B w) 5 (.int .i64 s.line)
  have hT1:=KT.gr (gr_setCell w kr 5 (.int .i64 s.line)) hrow (by decide)
  have w1_le:B≤(w.setCell ⟨kr,5,none⟩ (.int .i64 s.line)).heap.size:=by simpa [World.setCell] using hB
  have ho1:=hR1.ol
  rw [hn] at ho1
  obtain⟨w1,hw1⟩:∃ w1,w.setCell ⟨kr,5,none⟩ (.int .i64 s.line)=w1:=⟨_,rfl⟩
  rw [hw1] at hr1 hR1 hb1 hT1 w1_le ho1 y0 y1 y2 y3 y4 y5 y6
  have hkl1:=lt_of_block hr1
  go_enter Tryz.func129,Tryz.ntmps129
  go_wp2_with (at_builtin;refine wpList_append_lies _ rfl _ _ 63 rfl B 9 i0 (.string ⟨#[]⟩) 1 16 Tryz.underlying63 hi hz0 hz1 hz2 rfl (by decide) _ 0 _ rfl (ho1.alloc _) ⟨_,0,none⟩ 1 1 [.string t] rfl rfl (World.news_of_block (cs:=#[.string t]) (t:=9) (fr:=(0,0)) (heap_alloc_last w1 _)) (by simp [Value.oneCell']) (by decide) (by unfold maxLen;omega) (by omega) (by have:=w1_le;simp;omega) _ rfl ?_;intro g cap w2 hown2 hgrow2 hat2 hlt2;have row2:=row_own (L8.row_up hr1 (L8.bnew _ (.cells #[.string t] 9))) (ho1.alloc _) hgrow2 (by decide);obtain⟨-,-,-,-,z4,-,-⟩:=cells7 row2;have fz2:=frozen_all row2 4;clear hr1)
  go_end0
  refine⟨rfl,⟨vm,vs,mv,sv,_,(row_set row2 4 _).trans (by rw [lab_first (t:=t) h0]),?_⟩,Fk.set (((hb1.alloc w1_le _).grown hgrow2 (by simp;omega) (own_base2 ho1))) 4 _,(hT1.trans (KT.below (L8.bnew w1 (.cells #[.string t] 9)))).trans ((KT.own (ho1.alloc _) hgrow2 (by decide)).trans (KT.gr (gr_setCell _ kr 4 _) row2 (by decide)))⟩
  have R2:=(hR1.below (L8.bnew w1 (.cells #[.string t] 9))).addLab t (by rw [hn];exact hown2) hgrow2 hat2
  rw [hn] at R2
  exact R2.rd (gr_setCell _ kr 4 _) row2
 ·have hn0:0<n:=Nat.pos_of_ne_zero (fun h=>absurd (List.eq_nil_of_length_eq_zero (hn.trans h)) h0)
  have w_le:B≤w.heap.size:=hB
  go_enter Tryz.func129,Tryz.ntmps129
  have hn1:¬ n=0:=by omega
  have hn2:¬ (n:Int)=0:=by omega
  go_wp2_with (at_builtin;refine wpList_append_lies _ rfl _ _ 63 rfl B 9 i0 (.string ⟨#[]⟩) 1 16 Tryz.underlying63 hi hz0 hz1 hz2 rfl (by decide) _ n _ rfl (hol.alloc _) ⟨_,0,none⟩ 1 1 [.string t] rfl rfl (World.news_of_block (cs:=#[.string t]) (t:=9) (fr:=(0,0)) (heap_alloc_last w _)) (by simp [Value.oneCell']) (by decide) (by unfold maxLen;omega) (by omega) (by have:=w_le;simp;omega) _ rfl ?_;intro g cap w2 hown2 hgrow2 hat2 hlt2;have row2:=row_own (L8.row_up hrow (L8.bnew _ (.cells #[.string t] 9))) (hol.alloc _) hgrow2 (by decide);obtain⟨-,-,-,-,z4,-,-⟩:=cells7 row2;have fz2:=frozen_all row2 4;clear hrow)
  go_end0
  refine⟨rfl,⟨vm,vs,mv,sv,_,(row_set row2 4 _).trans (by rw [lab_next (t:=t) h0]),?_⟩,Fk.set ((((Fk.refl kr B w).alloc w_le _).grown hgrow2 (by simp;omega) (own_base2 hol))) 4 _,(KT.below (L8.bnew w (.cells #[.string t] 9))).trans ((KT.own (hol.alloc _) hgrow2 (by decide)).trans (KT.gr (gr_setCell _ kr 4 _) row2 (by decide)))⟩
  have R2:=(hR.below (L8.bnew w (.cells #[.string t] 9))).addLab t (by rw [hn];exact hown2) hgrow2 hat2
  rw [hn] at R2
  exact R2.rd (gr_setCell _ kr 4 _) row2
theorem drew_below (w:World):Below w.heap.size w w.drew:=(Below.refl _ _).drew
theorem drew_bel {B:Nat} {w W:World} (h:Below B w W):Below B w W.drew:=h.drew
theorem own_far {w w':World} {B e:TypeId} {size:Nat} {v:Value} {n:Nat} {xs:List Value} {k:Nat} {cs:Array Value} {t:TypeId} {H:Nat} (_:w.ownsRow B e size v n xs) (hl:∀ g,v.ownBlock=some g→g<H) (hk:w.heap[k]?=some (.cells cs t)) (hH:H≤k) (hg:w.grownBy w' v.ownBlock):w'.heap[k]?=some (.cells cs t):=by
 refine (hg.block k (lt_of_block hk) fun h=>?_).trans hk
 have:=hl k h.symm
 omega
theorem addMap_at (B kr:Nat) (d:L9.Df) (l:List (Value × Stm)) (s:Rd) (w:World) (h:RdM B kr w l s) (hB:B≤w.heap.size) (hm:s.maps.length≤100000) (hml:s.ml.length≤100000) :
  Calls Tryz.prog 130 #[.pointer (some ⟨kr,0,none⟩),.agg #[.string d.nm,.int .i64 d.key,.int .i64 d.val,.int .i64 d.ent]] w fun e w'=>e=.returned (.tuple #[])∧RdM B kr w' l (s.map d)∧Fk kr B w w'∧KT w w':=by
 obtain⟨i0,hi,hz0,hz1,hz2⟩:=info_parts infoD
 obtain⟨j0,hj,hy0,hy1,hy2⟩:=info_parts infoI
 obtain⟨vm,vs,mv,sv,lv,hrow,hR⟩:=h
 obtain⟨n,hn⟩:∃ n,s.maps.length=n:=⟨_,rfl⟩
 obtain⟨m,hmm⟩:∃ m,s.ml.length=m:=⟨_,rfl⟩
 rw [hn] at hm
 rw [hmm] at hml
 have hlt:∀ g,vm.ownBlock=some g→g<w.heap.size:=fun g hg=>(hR.om.lt g hg).2
 obtain⟨ma,mc,rfl⟩:=L8.owns_slice hR.om
 obtain⟨la,lc,rfl⟩:=L8.owns_slice hR.oml
 rw [hn,hmm] at hrow hR
 rw [hn] at hlt
 have hb0:=heap_alloc_last w (.cells #[.string d.nm,.int .i64 d.key,.int .i64 d.val,.int .i64 d.ent] 83)
 have hrow0:=L8.row_up hrow (L8.bnew w (.cells #[.string d.nm,.int .i64 d.key,.int .i64 d.val,.int .i64 d.ent] 83))
 have hR0:=hR.below (L8.bnew w (.cells #[.string d.nm,.int .i64 d.key,.int .i64 d.val,.int .i64 d.ent] 83))
 have hB0:Fk kr B w (w.alloc (.cells #[.string d.nm,.int .i64 d.key,.int .i64 d.val,.int .i64 d.ent] 83)):=(Fk.refl kr B w).alloc hB _
 have hT0:=KT.below (L8.bnew w (.cells #[.string d.nm,.int .i64 d.key,.int .i64 d.val,.int .i64 d.ent] 83))
 obtain⟨kb,hkb⟩:∃ kb,kb=w.heap.size:=⟨_,rfl⟩
 have hkrb:kr<kb:=by rw [hkb];exact lt_of_block hrow
 go_enter Tryz.func130,Tryz.ntmps130
 go_upto_region 1 with (fail)
 rw [← hkb] at hb0 hlt ⊢
 clear hkb hrow hR
 generalize w.alloc (.cells #[.string d.nm,.int .i64 d.key,.int .i64 d.val,.int .i64 d.ent] 83)=W at hb0 hrow0 hR0 hB0 hT0 ⊢
 have hb1:=L8.row_up hb0 (drew_below W)
 have hrow1:=L8.row_up hrow0 (drew_below W)
 have hR1:=hR0.below (drew_below W)
 have hB1:=hB0.drew
 have hT1:=hT0.trans (KT.below (drew_below W))
 clear hb0 hrow0 hR0 hB0 hT0
 refine wp_region_noPanic ?_
 refine wp_region_held_drew (S:=fun W=>W.cell? ⟨kb,0,none⟩=some (.string d.nm)∧W.cell? ⟨kb,1,none⟩=some (.int .i64 d.key)∧W.cell? ⟨kb,2,none⟩=some (.int .i64 d.val)∧W.cell? ⟨kb,3,none⟩=some (.int .i64 d.ent)) (by kernel_rfl) (cells4 hb1) (fun hH=>?_)
 generalize W.drew=Wd at hb1 hrow1 hR1 hB1 hT1 hH ⊢
 refine zT3 0 4 (.move (.tmp 0)) (.pointer (some ⟨kr,0,none⟩)) rfl hH ?_
 simp only [zz]
 refine zT3 1 5 (.move (.tmp 0)) (.pointer (some ⟨kr,0,none⟩)) rfl hH ?_
 simp only [zz]
 refine zT3 2 6 (.nilCheck (.tmp 5)) (.pointer (some ⟨kr,0,none⟩)) rfl hH ?_
 simp only [zz]
 refine zT3 3 7 (.fieldAddr 151 (.tmp 6) 0) (.pointer (some ⟨kr,0,none⟩)) rfl hH ?_
 simp only [zz]
 refine zT3 4 8 (.fieldAddr 58 (.tmp 7) 0) (.pointer (some ⟨kr,0,none⟩)) rfl hH ?_
 simp only [zz]
 refine zT1 6 10 (.load 83 (.tmp 3)) (.agg #[.string d.nm,.int .i64 d.key,.int .i64 d.val,.int .i64 d.ent]) rfl (fun wS hS=>by obtain⟨d0,d1,d2,d3⟩:=hS;go_simp) hH ?_
 simp only [zz]
 refine wpAnyH_ready (rs:=[5,7]) (by kernel_rfl) (by simp) ?_
 refine AllReadyH.cons (o:=⟨some 9,.load 22 (.tmp 8),_,_,_,none⟩) rfl (fun K hK=>?_) (AllReadyH.cons (o:=⟨some 11,.buildSlice 22 1 #[(0,.tmp 10)],_,_,_,none⟩) rfl (fun K hK=>?_) AllReadyH.nil)
 focus
  obtain⟨x0,x1,x2,x3,x4,x5,x6⟩:=cells7 hrow1
  go_simp
  refine hK.out _ _ hH (fun _=>?_)
  clear hK K x0 x1 x2 x3 x4 x5 x6
  (try simp only [zz])
  refine wpAnyH_ready (rs:=[7]) (by kernel_rfl) (by simp) ?_
  refine AllReadyH.cons (o:=⟨some 11,.buildSlice 22 1 #[(0,.tmp 10)],_,_,_,none⟩) rfl (fun K hK=>?_) AllReadyH.nil
  go_simp
  have hb2:=L8.row_up hb1 (L8.bnew Wd (.cells #[.string d.nm,.int .i64 d.key,.int .i64 d.val,.int .i64 d.ent] 83))
  have hrow2:=L8.row_up hrow1 (L8.bnew Wd (.cells #[.string d.nm,.int .i64 d.key,.int .i64 d.val,.int .i64 d.ent] 83))
  have hR2:=hR1.below (L8.bnew Wd (.cells #[.string d.nm,.int .i64 d.key,.int .i64 d.val,.int .i64 d.ent] 83))
  have hn2:=heap_alloc_last Wd (.cells #[.string d.nm,.int .i64 d.key,.int .i64 d.val,.int .i64 d.ent] 83)
  have hBd:=(hB1.alloc (Nat.le_trans hB hB1.size) (.cells #[.string d.nm,.int .i64 d.key,.int .i64 d.val,.int .i64 d.ent] 83))
  have hTd:=hT1.trans (KT.below (L8.bnew Wd (.cells #[.string d.nm,.int .i64 d.key,.int .i64 d.val,.int .i64 d.ent] 83)))
  refine hK.out _ _ (cells4 hb2) (fun hH2=>?_)
  clear hK K hb1 hrow1 hR1 hB1 hT1 hH
  obtain⟨gn,hgn⟩:∃ gn,Wd.heap.size=gn:=⟨_,rfl⟩
  rw [hgn] at hn2 ⊢
  generalize Wd.alloc (.cells #[.string d.nm,.int .i64 d.key,.int .i64 d.val,.int .i64 d.ent] 83)=W2 at hb2 hrow2 hR2 hn2 hBd hTd hH2 ⊢
  clear hgn
  (try simp only [zz])
 rotate_left
 focus
  go_simp
  have hb2:=L8.row_up hb1 (L8.bnew Wd (.cells #[.string d.nm,.int .i64 d.key,.int .i64 d.val,.int .i64 d.ent] 83))
  have hrow2:=L8.row_up hrow1 (L8.bnew Wd (.cells #[.string d.nm,.int .i64 d.key,.int .i64 d.val,.int .i64 d.ent] 83))
  have hR2:=hR1.below (L8.bnew Wd (.cells #[.string d.nm,.int .i64 d.key,.int .i64 d.val,.int .i64 d.ent] 83))
  have hn2:=heap_alloc_last Wd (.cells #[.string d.nm,.int .i64 d.key,.int .i64 d.val,.int .i64 d.ent] 83)
  have hBd:=(hB1.alloc (Nat.le_trans hB hB1.size) (.cells #[.string d.nm,.int .i64 d.key,.int .i64 d.val,.int .i64 d.ent] 83))
  have hTd:=hT1.trans (KT.below (L8.bnew Wd (.cells #[.string d.nm,.int .i64 d.key,.int .i64 d.val,.int .i64 d.ent] 83)))
  refine hK.out _ _ (cells4 hb2) (fun hH2=>?_)
  clear hK K hb1 hrow1 hR1 hB1 hT1 hH
  obtain⟨gn,hgn⟩:∃ gn,Wd.heap.size=gn:=⟨_,rfl⟩
  rw [hgn] at hn2 ⊢
  generalize Wd.alloc (.cells #[.string d.nm,.int .i64 d.key,.int .i64 d.val,.int .i64 d.ent] 83)=W2 at hb2 hrow2 hR2 hn2 hBd hTd hH2 ⊢
  clear hgn
  (try simp only [zz])
  obtain⟨x0,x1,x2,x3,x4,x5,x6⟩:=cells7 hrow2
  refine wpAnyH_ready (rs:=[5]) (by kernel_rfl) (by simp) ?_
  refine AllReadyH.cons (o:=⟨some 9,.load 22 (.tmp 8),_,_,_,none⟩) rfl (fun K hK=>?_) AllReadyH.nil
  go_simp
  refine hK.out _ _ hH2 (fun _=>?_)
  clear hK K x0 x1 x2 x3 x4 x5 x6
  (try simp only [zz])
 all_goals
  refine wpAnyH_ready (rs:=[8]) (by kernel_rfl) (by simp) ?_
  refine AllReadyH.cons (o:=⟨some 12,.call { callee:=.builtin .append,args:=#[.tmp 9,.tmp 11],argTypes:=#[22,22] },_,_,_,none⟩) rfl (fun K hK=>?_) AllReadyH.nil
  have hom:=hR2.om
  rw [hn] at hom
  refine step_append_lies _ (by rfl) _ _ _ (by rfl) B 83 i0 (.agg #[.string ⟨#[]⟩,.int .i64 0,.int .i64 0,.int .i64 0]) 4 40 Tryz.underlying22 hi hz0 hz1 hz2 rfl (by decide) _ n _ (by rfl) hom ⟨gn,0,none⟩ 1 1 (dfL d) (by rfl) (by rfl) (World.news_of_block (cs:=#[.string d.nm,.int .i64 d.key,.int .i64 d.val,.int .i64 d.ent]) (t:=83) (fr:=(0,0)) hn2) (by simp [Value.oneCell']) (by omega) (by unfold maxLen;omega) (by omega) (Nat.le_trans hB hBd.size) _ rfl ?_
  intro g cap w3 hown3 hgrow3 hat3 hlt3
  have hrow3:=row_own hrow2 hom hgrow3 (by decide)
  have hb3:=own_far hom hlt hb2 (Nat.le_refl _) hgrow3
  have hR3:=hR2.addDef d (by rw [hn];exact hown3) hgrow3
  rw [hn] at hR3
  have hBd3:=hBd.grown hgrow3 (Nat.le_trans hB hBd.size) (own_base2 hom)
  have hTd3:=hTd.trans (KT.own hom hgrow3 (by decide))
  refine hK.out _ _ (cells4 hb3) (fun hH3=>?_)
  clear hK K hb2 hrow2 hR2 hn2 hH2 hown3 hgrow3 hat3 hlt3 hom hBd hTd hlt
  (try simp only [zz])
  refine zT3 9 13 (.nilCheck (.tmp 4)) (.pointer (some ⟨kr,0,none⟩)) rfl hH3 ?_
  simp only [zz]
  refine zT3 10 14 (.fieldAddr 151 (.tmp 13) 0) (.pointer (some ⟨kr,0,none⟩)) rfl hH3 ?_
  simp only [zz]
  refine zT3 11 15 (.fieldAddr 58 (.tmp 14) 0) (.pointer (some ⟨kr,0,none⟩)) rfl hH3 ?_
  simp only [zz]
  obtain⟨x0,x1,x2,x3,x4,x5,x6⟩:=cells7 hrow3
  have fz:=frozen_all hrow3 0
  have hR4:=hR3.rd (gr_setCell w3 kr 0 (.slice (some ⟨g,0,none⟩) (n+1) cap)) hrow3
  have hrow4:=row_set hrow3 0 (.slice (some ⟨g,0,none⟩) (n+1) cap)
  have hB4:=Fk.set hBd3 0 (.slice (some ⟨g,0,none⟩) (n+1) cap)
  have hT4:=hTd3.trans (KT.gr (gr_setCell w3 kr 0 (.slice (some ⟨g,0,none⟩) (n+1) cap)) hrow3 (by decide))
  have hb4:(w3.setCell ⟨kr,0,none⟩ (.slice (some ⟨g,0,none⟩) (n+1) cap)).heap[kb]?=some (.cells #[.string d.nm,.int .i64 d.key,.int .i64 d.val,.int .i64 d.ent] 83):=(Below.heap_setCell _ _ _ _ (show kb≠kr by omega)).trans hb3
  refine wpAnyH_ready (rs:=[12]) (by kernel_rfl) (by simp) ?_
  refine AllReadyH.cons (o:=⟨none,.store 22 (.tmp 15) (.tmp 12),_,_,_,none⟩) rfl (fun K hK=>?_) AllReadyH.nil
  go_simp
  refine hK.out _ _ (cells4 hb4) (fun hH4=>?_)
  clear hK K hb3 hrow3 hR3 hBd3 hTd3 hH3 x0 x1 x2 x3 x4 x5 x6 fz hb4 hH4
  generalize w3.setCell ⟨kr,0,none⟩ (.slice (some ⟨g,0,none⟩) (n+1) cap)=W5 at hrow4 hR4 hB4 hT4 ⊢
  (try simp only [zz])
  refine wpAnyH_done (by kernel_rfl) ?_ _
  refine NoPanic.normal ?_
  go_upto_region 2 with (fail)
  have hrow5:=L8.row_up hrow4 (drew_below W5)
  have hR5:=hR4.below (drew_below W5)
  have hB5:=hB4.drew
  have hT5:=hT4.trans (KT.below (drew_below W5))
  clear hrow4 hR4 hB4 hT4
  refine wp_region_noPanic ?_
  refine wp_region_held_drew (S:=fun W=>W.cell? ⟨kr,6,none⟩=some (.int .i64 s.line)) (by kernel_rfl) ((cells7 hrow5).2.2.2.2.2.2) (fun hH=>?_)
  generalize W5.drew=Wd at hrow5 hR5 hB5 hT5 hH ⊢
  refine zT3 0 16 (.move (.tmp 0)) (.pointer (some ⟨kr,0,none⟩)) rfl hH ?_
  simp only [zz]
  refine zT3 1 17 (.move (.tmp 0)) (.pointer (some ⟨kr,0,none⟩)) rfl hH ?_
  simp only [zz]
  refine zT3 2 18 (.nilCheck (.tmp 17)) (.pointer (some ⟨kr,0,none⟩)) rfl hH ?_
  simp only [zz]
  refine zT3 3 19 (.fieldAddr 151 (.tmp 18) 1) (.pointer (some ⟨kr,2,none⟩)) rfl hH ?_
  simp only [zz]
  refine zT3 5 21 (.move (.tmp 0)) (.pointer (some ⟨kr,0,none⟩)) rfl hH ?_
  simp only [zz]
  refine zT3 6 22 (.nilCheck (.tmp 21)) (.pointer (some ⟨kr,0,none⟩)) rfl hH ?_
  simp only [zz]
  refine zT3 7 23 (.fieldAddr 151 (.tmp 22) 5) (.pointer (some ⟨kr,6,none⟩)) rfl hH ?_
  simp only [zz]
  refine zT1 8 24 (.load 3 (.tmp 23)) (.int .i64 s.line) rfl (fun wS hS=>by have d0:wS.cell? ⟨kr,6,none⟩=some (.int .i64 s.line):=hS;go_simp) hH ?_
  simp only [zz]
  refine wpAnyH_ready (rs:=[4,9]) (by kernel_rfl) (by simp) ?_
  refine AllReadyH.cons (o:=⟨some 20,.load 101 (.tmp 19),_,_,_,none⟩) rfl (fun K hK=>?_) (AllReadyH.cons (o:=⟨some 25,.buildSlice 101 1 #[(0,.tmp 24)],_,_,_,none⟩) rfl (fun K hK=>?_) AllReadyH.nil)
  focus
   obtain⟨x0,x1,x2,x3,x4,x5,x6⟩:=cells7 hrow5
   go_simp
   refine hK.out _ _ hH (fun _=>?_)
   clear hK K x0 x1 x2 x3 x4 x5 x6
   (try simp only [zz])
   refine wpAnyH_ready (rs:=[9]) (by kernel_rfl) (by simp) ?_
   refine AllReadyH.cons (o:=⟨some 25,.buildSlice 101 1 #[(0,.tmp 24)],_,_,_,none⟩) rfl (fun K hK=>?_) AllReadyH.nil
   go_simp
   have hrow6:=L8.row_up hrow5 (L8.bnew Wd (.cells #[.int .i64 s.line] 3))
   have hR6:=hR5.below (L8.bnew Wd (.cells #[.int .i64 s.line] 3))
   have hn6:=heap_alloc_last Wd (.cells #[.int .i64 s.line] 3)
   have hB6:=(hB5.alloc (Nat.le_trans hB hB5.size) (.cells #[.int .i64 s.line] 3))
   have hT6:=hT5.trans (KT.below (L8.bnew Wd (.cells #[.int .i64 s.line] 3)))
   refine hK.out _ _ (cells7 hrow6).2.2.2.2.2.2 (fun hH6=>?_)
   clear hK K hrow5 hR5 hB5 hT5 hH
   obtain⟨gn,hgn⟩:∃ gn,Wd.heap.size=gn:=⟨_,rfl⟩
   rw [hgn] at hn6 ⊢
   generalize Wd.alloc (.cells #[.int .i64 s.line] 3)=W6 at hrow6 hR6 hn6 hB6 hT6 hH6 ⊢
   clear hgn
   (try simp only [zz])
  rotate_left
  focus
   go_simp
   have hrow6:=L8.row_up hrow5 (L8.bnew Wd (.cells #[.int .i64 s.line] 3))
   have hR6:=hR5.below (L8.bnew Wd (.cells #[.int .i64 s.line] 3))
   have hn6:=heap_alloc_last Wd (.cells #[.int .i64 s.line] 3)
   have hB6:=(hB5.alloc (Nat.le_trans hB hB5.size) (.cells #[.int .i64 s.line] 3))
   have hT6:=hT5.trans (KT.below (L8.bnew Wd (.cells #[.int .i64 s.line] 3)))
   refine hK.out _ _ (cells7 hrow6).2.2.2.2.2.2 (fun hH6=>?_)
   clear hK K hrow5 hR5 hB5 hT5 hH
   obtain⟨gn,hgn⟩:∃ gn,Wd.heap.size=gn:=⟨_,rfl⟩
   rw [hgn] at hn6 ⊢
   generalize Wd.alloc (.cells #[.int .i64 s.line] 3)=W6 at hrow6 hR6 hn6 hB6 hT6 hH6 ⊢
   clear hgn
   (try simp only [zz])
   obtain⟨x0,x1,x2,x3,x4,x5,x6⟩:=cells7 hrow6
   refine wpAnyH_ready (rs:=[4]) (by kernel_rfl) (by simp) ?_
   refine AllReadyH.cons (o:=⟨some 20,.load 101 (.tmp 19),_,_,_,none⟩) rfl (fun K hK=>?_) AllReadyH.nil
   go_simp
   refine hK.out _ _ hH6 (fun _=>?_)
   clear hK K x0 x1 x2 x3 x4 x5 x6
   (try simp only [zz])
  all_goals
   refine wpAnyH_ready (rs:=[10]) (by kernel_rfl) (by simp) ?_
   refine AllReadyH.cons (o:=⟨some 26,.call { callee:=.builtin .append,args:=#[.tmp 20,.tmp 25],argTypes:=#[101,101] },_,_,_,none⟩) rfl (fun K hK=>?_) AllReadyH.nil
   have hom:=hR6.oml
   have hcn:=hmm
   rw [hcn] at hom
   refine step_append_lies _ (by rfl) _ _ _ (by rfl) B 3 j0 (.int .i64 0) 1 8 Tryz.underlying101 hj hy0 hy1 hy2 rfl (by decide) _ m _ (by rfl) hom ⟨gn,0,none⟩ 1 1 [.int .i64 s.line] (by rfl) (by rfl) (World.news_of_block (cs:=#[.int .i64 s.line]) (t:=3) (fr:=(0,0)) hn6) (by simp [Value.oneCell']) (by omega) (by unfold maxLen;omega) (by omega) (Nat.le_trans hB hB6.size) _ rfl ?_
   intro g7 cap7 w7 hown7 hgrow7 hat7 hlt7
   have hrow7:=row_own hrow6 hom hgrow7 (by decide)
   have hR7:=hR6.addMl s.line (by rw [hcn];exact hown7) hgrow7 hat7
   rw [hcn] at hR7
   have hB7:=hB6.grown hgrow7 (Nat.le_trans hB hB6.size) (own_base2 hom)
   have hT7:=hT6.trans (KT.own hom hgrow7 (by decide))
   refine hK.out _ _ (cells7 hrow7).2.2.2.2.2.2 (fun hH7=>?_)
   clear hK K hrow6 hR6 hn6 hH6 hown7 hgrow7 hat7 hlt7 hom hB6 hT6
   (try simp only [zz])
   refine zT3 11 27 (.nilCheck (.tmp 16)) (.pointer (some ⟨kr,0,none⟩)) rfl hH7 ?_
   simp only [zz]
   refine zT3 12 28 (.fieldAddr 151 (.tmp 27) 1) (.pointer (some ⟨kr,2,none⟩)) rfl hH7 ?_
   simp only [zz]
   obtain⟨x0,x1,x2,x3,x4,x5,x6⟩:=cells7 hrow7
   have fz:=frozen_all hrow7 2
   have hR8:=hR7.rd (gr_setCell w7 kr 2 (.slice (some ⟨g7,0,none⟩) (m+1) cap7)) hrow7
   have hrow8:=row_set hrow7 2 (.slice (some ⟨g7,0,none⟩) (m+1) cap7)
   have hB8:=Fk.set hB7 2 (.slice (some ⟨g7,0,none⟩) (m+1) cap7)
   have hT8:=hT7.trans (KT.gr (gr_setCell w7 kr 2 (.slice (some ⟨g7,0,none⟩) (m+1) cap7)) hrow7 (by decide))
   refine wpAnyH_ready (rs:=[13]) (by kernel_rfl) (by simp) ?_
   refine AllReadyH.cons (o:=⟨none,.store 101 (.tmp 28) (.tmp 26),_,_,_,none⟩) rfl (fun K hK=>?_) AllReadyH.nil
   go_simp
   refine hK.out _ _ (cells7 hrow8).2.2.2.2.2.2 (fun hH8=>?_)
   clear hK K hrow7 hR7 hB7 hT7 hH7 x0 x1 x2 x3 x4 x5 x6 fz hH8
   generalize w7.setCell ⟨kr,2,none⟩ (.slice (some ⟨g7,0,none⟩) (m+1) cap7)=W9 at hrow8 hR8 hB8 hT8 ⊢
   (try simp only [zz])
   refine wpAnyH_done (by kernel_rfl) ?_ _
   refine NoPanic.normal ?_
   go_wp2
   go_end0
   exact⟨rfl,⟨_,_,_,_,_,hrow8,hR8⟩,hB8,hT8⟩
end Go.Proofs.YtdgnjhhieemcaaaGreatDoor.L10
end
