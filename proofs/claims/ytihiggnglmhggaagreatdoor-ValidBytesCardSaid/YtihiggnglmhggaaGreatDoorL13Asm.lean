/- What Assemble returns: what Check finds, or the object. Condition: memory holds the program, which has no more than 10000 statements; the tables read as laid. -/
import Derived.Test.YtihiggnglmhggaaGreatDoorM19
import Derived.Test.YtihiggnglmhggaaGreatDoorM22
namespace Go.Proofs.YtihiggnglmhggaaGreatDoor.L13
open Go.RowKit Go.Shelf L3 L4 L12
open L10 (Stm Pg jmI fmI)
attribute [local go_sem] Oper.semAt_some
theorem in_is {w:World} {v:Value} {l:List L9.Ins} (h:L5.InAt w v (l.map tI)):IsAt w v l:=by
 obtain⟨a,cap,rfl,hc⟩:=h
 rw [List.length_map]
 by_cases h0:l=[]
 ·subst h0
  exact .inr ⟨rfl,a,cap,rfl⟩
 ·obtain⟨k,o,rfl,hI⟩:=hc.resolve_left (by simpa using h0)
  have hp:0<l.length:=List.length_pos_iff.2 h0
  have hc0:=hI 0 (by rw [List.length_map];exact hp) 0 (.int .i64 l[0].op) (by simp [tI])
  refine .inl ⟨k,o,cap,rfl,World.block_lt_of_cell? _ _ hc0,fun j hj i u hu=>?_⟩
  refine hI j (by rw [List.length_map];exact hj) i u ?_
  rw [List.getElem_map]
  simpa [tI,L5.Ix.cs] using hu
theorem own_df {W:World} {B e:TypeId} {v:Value} {l:List L9.Df} {n:Nat} (hn:l.length=n) (h:W.ownsRow B e 4 v n (l.flatMap L10.dfL)):L10.DfAt W v l:=by
 subst hn
 rcases h.2 with ⟨rfl,h0⟩|⟨g,cap,cur,rfl,_,hh,_⟩
 ·exact .inr ⟨List.eq_nil_of_length_eq_zero h0,none,0,rfl⟩
 ·refine .inl ⟨g,0,cap,rfl,lt_of_block hh,fun j hj i u hu=>?_⟩
  have:=h.cells (g:=g) rfl (j*4+i) u (L10.flat_get L10.dfL 4 (fun _=>rfl) l j hj i u hu)
  rw [Nat.zero_add]
  rwa [L8.add0] at this
theorem gr_setRow (w:World) (g:Nat) (cs:Array Value):w.grownBy (w.setRow g cs) (some g):=by
 have h:=below_setRow (Below.refl 0 w) (Nat.zero_le g) cs
 exact⟨h.os,h.tape,h.output,h.size,fun k _ hk=>setRow_other _ _ _ _ (fun e=>hk (by rw [e]))⟩
theorem own_set {W:World} {B e:TypeId} {sz n kr:Nat} {v:Value} {xs:List Value} {cs cs':Array Value} {t:TypeId} (h:W.ownsRow B e sz v n xs) (hr:W.heap[kr]?=some (.cells cs t)) (ht:t≠e):(W.setRow kr cs').ownsRow B e sz v n xs :=
 L10.own_kept h (gr_setRow W kr cs') (fun g hg=>by
  obtain⟨cur,hc⟩:=L10.own_ty h hg
  exact L10.ty_ne hr hc ht)
end Go.Proofs.YtihiggnglmhggaaGreatDoor.L13
