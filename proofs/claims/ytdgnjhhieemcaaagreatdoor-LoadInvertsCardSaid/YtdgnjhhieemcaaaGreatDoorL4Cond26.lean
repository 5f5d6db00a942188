/- What the program's 'conditions' returns: seven functions with their errors, over the instruction, its form and its fields in memory. No condition but that the table of widths reads as laid. -/
import Derived.Test.YtdgnjhhieemcaaaGreatDoorM8
import Derived.Laws.EntriesVeiled
set_option maxRecDepth 100000
set_option maxHeartbeats 4000000
namespace Go.Proofs.YtdgnjhhieemcaaaGreatDoor.L4
open Go.RowKit L3 L1
theorem uses_is (op f:Int) (reg vD vS vO vI:Bool) (w:World) (hf:frm (ix op)=f) (h1:uD f=vD) (h2:uS f reg=vS) (h3:uO f=vO) (h4:uI f reg=vI):Calls Tryz.prog 240 #[.int .i64 op,.bool reg] w fun e w' =>
  e=.returned (.agg #[.bool vD,.bool vS,.bool vO,.bool vI])∧Below w.heap.size w w':=by
 subst h1 h2 h3 h4
 exact uses_at op f reg w hf
theorem heap_setCell_same {w:World} {b i:Nat} {cs:Array Value} {t:TypeId} {fz:Nat × Nat} (h:w.heap[b]?=some (.cells cs t fz)) (u:Value):(w.setCell ⟨b,i,none⟩ u).heap[b]?=some (.cells (cs.setIfInBounds i u) t fz):=by
 have hlt:=lt_of_block h
 have h':w.heap[b]=.cells cs t fz:=by simpa [Array.getElem?_eq_getElem hlt] using h
 show (w.heap.modify b _)[b]?=_
 rw [Array.getElem?_eq_getElem (by simpa using hlt),Array.getElem_modify_self,h']
 rfl
def R26:Array Oper :=
 #[⟨some 5,.fieldAddr 45 (.tmp 1) 0,0, "insn.go:102",#[],none⟩,⟨some 6,.load 3 (.tmp 5),3, "insn.go:102",#[⟨0,.data⟩],none⟩,⟨some 7,.call { callee:=.value (.func 62),args:=#[.tmp 6],argTypes:=#[3] },3, "insn.go:102",#[⟨1,.data⟩],none⟩,⟨some 8,.fieldAddr 45 (.tmp 1) 0,0, "insn.go:102",#[],none⟩,⟨some 9,.load 3 (.tmp 8),3, "insn.go:102",#[⟨3,.data⟩],none⟩,⟨some 10,.fieldAddr 45 (.tmp 1) 1,0, "insn.go:102",#[],none⟩,⟨some 11,.load 4 (.tmp 10),4, "insn.go:102",#[⟨5,.data⟩],none⟩,⟨some 12,.call { callee:=.value (.func 240),args:=#[.tmp 9,.tmp 11],argTypes:=#[3,4] },316, "insn.go:102",#[⟨4,.data⟩,⟨6,.data⟩,⟨2,.chain⟩],none⟩,⟨some 3,.alloc 3,0, "insn.go:102",#[],none⟩,⟨some 4,.alloc 316,0, "insn.go:102",#[],none⟩,⟨none,.store 3 (.tmp 3) (.tmp 7),0, "insn.go:102",#[⟨8,.data⟩,⟨2,.data⟩,⟨7,.chain⟩,⟨0,.phase⟩,⟨1,.phase⟩,⟨2,.phase⟩,{ on:=3,ground:=Ground.textOnly Departure.lateStores },{ on:=4,ground:=Ground.textOnly Departure.lateStores },{ on:=5,ground:=Ground.textOnly Departure.lateStores },{ on:=6,ground:=Ground.textOnly Departure.lateStores },{ on:=7,ground:=Ground.textOnly Departure.lateStoresUnsure },⟨8,.phase⟩,⟨9,.phase⟩],none⟩,⟨none,.store 316 (.tmp 4) (.tmp 12),0, "insn.go:102",#[⟨9,.data⟩,⟨7,.data⟩,⟨10,.chain⟩,⟨0,.phase⟩,⟨1,.phase⟩,⟨2,.phase⟩,⟨3,.phase⟩,⟨4,.phase⟩,⟨5,.phase⟩,⟨6,.phase⟩,⟨7,.phase⟩,⟨8,.phase⟩,⟨9,.phase⟩,⟨10,.phase⟩],none⟩]
abbrev SS (W:World):World→Prop:=fun w'=>Below W.heap.size W w'
section
variable {Q:Exit→Act→World→Prop} {W:World} {kx:Nat} {op dst src off imm f:Int} {reg vD vS vO vI:Bool}
theorem st_abcd (hQ:∀ b3 b4 w',Below W.heap.size W w'→w'.heap[b3]?=some (.cells #[.int .i64 f] 3)→w'.heap[b4]?=some (.cells #[.bool vD,.bool vS,.bool vO,.bool vI] 316)→Q .normal ⟨#[.agg #[.int .i64 op,.bool reg,.int .i64 dst,.int .i64 src,.int .i64 off,.int .i64 imm],.pointer (some ⟨kx,0,none⟩),.slice none 0 0,.pointer (some ⟨b3,0,none⟩),.pointer (some ⟨b4,0,none⟩),.pointer (some ⟨kx,0,none⟩),.int .i64 op,.int .i64 f,.pointer (some ⟨kx,0,none⟩),.int .i64 op,.pointer (some ⟨kx,1,none⟩),.bool reg,.agg #[.bool vD,.bool vS,.bool vO,.bool vI],undef,undef,undef,undef,undef,undef,undef,undef,undef,undef,undef,undef,undef,undef,undef],[]⟩ w') (w:World) (hS:Below W.heap.size W w) (b3:Nat) (h3:w.heap[b3]?=some (.cells #[.int .i64 0] 3)) (k3:W.heap.size≤b3) (b4:Nat) (h4:w.heap[b4]?=some (.cells #[.bool false,.bool false,.bool false,.bool false] 316)) (k4:W.heap.size≤b4):wpAnyH Tryz.prog .any R26 Q (SS W) 2 #[true,true,true,true,true,true,true,true,true,true,false,false] ⟨#[.agg #[.int .i64 op,.bool reg,.int .i64 dst,.int .i64 src,.int .i64 off,.int .i64 imm],.pointer (some ⟨kx,0,none⟩),.slice none 0 0,.pointer (some ⟨b3,0,none⟩),.pointer (some ⟨b4,0,none⟩),.pointer (some ⟨kx,0,none⟩),.int .i64 op,.int .i64 f,.pointer (some ⟨kx,0,none⟩),.int .i64 op,.pointer (some ⟨kx,1,none⟩),.bool reg,.agg #[.bool vD,.bool vS,.bool vO,.bool vI],undef,undef,undef,undef,undef,undef,undef,undef,undef,undef,undef,undef,undef,undef,undef],[]⟩ w:=by
 have hne:b3≠b4:=by
  rintro rfl
  rw [h3] at h4
  cases h4
 have hne':b4≠b3:=Ne.symm hne
 have c3:=cell_of_one h3
 have f3:=free_of_one h3
 refine wpAnyH_ready (rs:=[10]) (by kernel_rfl) (by simp) ?_
 refine AllReadyH.cons (o:=⟨none,.store 3 (.tmp 3) (.tmp 7),_,_,_,none⟩) rfl (fun K hK=>?_) AllReadyH.nil
 go_simp
 refine hK.out _ _ (Below.setCell hS k3 _) (fun hS2=>?_)
 clear hK K
 have g3:=one_setCell (u:=.int .i64 f) h3
 have g4:(w.setCell ⟨b3,0,none⟩ (.int .i64 f)).heap[b4]?=some (.cells #[.bool false,.bool false,.bool false,.bool false] 316):=(Below.heap_setCell _ _ _ _ hne').trans h4
 generalize w.setCell ⟨b3,0,none⟩ (.int .i64 f)=w2 at g3 g4 hS2 ⊢
 clear h3 h4 c3 f3 hS
 obtain⟨c0,c1,c2,c3,f0,f1,f2,f3⟩:=cells4 g4
 refine wpAnyH_ready (rs:=[11]) (by kernel_rfl) (by simp) ?_
 refine AllReadyH.cons (o:=⟨none,.store 316 (.tmp 4) (.tmp 12),_,_,_,none⟩) rfl (fun K hK=>?_) AllReadyH.nil
 go_simp
 refine hK.out _ _ (Below.setCell (Below.setCell (Below.setCell (Below.setCell hS2 k4 _) k4 _) k4 _) k4 _) (fun hS3=>?_)
 clear hK K
 refine wpAnyH_done (by kernel_rfl) ?_ _
 refine hQ b3 b4 _ hS3 ?_ ?_
 ·rw [Below.heap_setCell _ _ _ _ hne,Below.heap_setCell _ _ _ _ hne,Below.heap_setCell _ _ _ _ hne,Below.heap_setCell _ _ _ _ hne,g3]
 ·exact heap_setCell_same (heap_setCell_same (heap_setCell_same (heap_setCell_same g4 _) _) _) _
theorem st_abc  (HU:Hid (∀ w,Calls Tryz.prog 240 #[.int .i64 op,.bool reg] w fun e w'=>e=.returned (.agg #[.bool vD,.bool vS,.bool vO,.bool vI])∧Below w.heap.size w w')) (hQ:∀ b3 b4 w',Below W.heap.size W w'→w'.heap[b3]?=some (.cells #[.int .i64 f] 3)→w'.heap[b4]?=some (.cells #[.bool vD,.bool vS,.bool vO,.bool vI] 316)→Q .normal ⟨#[.agg #[.int .i64 op,.bool reg,.int .i64 dst,.int .i64 src,.int .i64 off,.int .i64 imm],.pointer (some ⟨kx,0,none⟩),.slice none 0 0,.pointer (some ⟨b3,0,none⟩),.pointer (some ⟨b4,0,none⟩),.pointer (some ⟨kx,0,none⟩),.int .i64 op,.int .i64 f,.pointer (some ⟨kx,0,none⟩),.int .i64 op,.pointer (some ⟨kx,1,none⟩),.bool reg,.agg #[.bool vD,.bool vS,.bool vO,.bool vI],undef,undef,undef,undef,undef,undef,undef,undef,undef,undef,undef,undef,undef,undef,undef],[]⟩ w') (w:World) (hS:Below W.heap.size W w) (b3:Nat) (h3:w.heap[b3]?=some (.cells #[.int .i64 0] 3)) (k3:W.heap.size≤b3) (b4:Nat) (h4:w.heap[b4]?=some (.cells #[.bool false,.bool false,.bool false,.bool false] 316)) (k4:W.heap.size≤b4):wpAnyH Tryz.prog .any R26 Q (SS W) 3 #[true,true,true,true,true,true,true,false,true,true,false,false] ⟨#[.agg #[.int .i64 op,.bool reg,.int .i64 dst,.int .i64 src,.int .i64 off,.int .i64 imm],.pointer (some ⟨kx,0,none⟩),.slice none 0 0,.pointer (some ⟨b3,0,none⟩),.pointer (some ⟨b4,0,none⟩),.pointer (some ⟨kx,0,none⟩),.int .i64 op,.int .i64 f,.pointer (some ⟨kx,0,none⟩),.int .i64 op,.pointer (some ⟨kx,1,none⟩),.bool reg,undef,undef,undef,undef,undef,undef,undef,undef,undef,undef,undef,undef,undef,undef,undef,undef],[]⟩ w:=by
 refine wpAnyH_ready (rs:=[7]) (by kernel_rfl) (by simp) ?_
 refine AllReadyH.cons (o:=⟨some 12,.call { callee:=.value (.func 240),args:=#[.tmp 9,.tmp 11],argTypes:=#[3,4] },_,_,_,none⟩) rfl (fun K hK=>?_) ?_
 ·go_simp
  refine (HU.out _).mono ?_
  rintro e w1 ⟨rfl,hb1⟩
  refine hK.out _ _ (bch hS hb1) (fun hS1=>?_)
  clear hK K
  (try simp only [List.setIfInBounds_toArray,List.set_cons_zero,List.set_cons_succ])
  exact st_abcd hQ w1 hS1 b3 ((hb1.block _ (lt_of_block h3)).trans h3) k3 b4 ((hb1.block _ (lt_of_block h4)).trans h4) k4
 exact AllReadyH.nil
section
variable (hQ:∀ b3 b4 w',Below W.heap.size W w'→w'.heap[b3]?=some (.cells #[.int .i64 f] 3)→w'.heap[b4]?=some (.cells #[.bool vD,.bool vS,.bool vO,.bool vI] 316)→Q .normal ⟨#[.agg #[.int .i64 op,.bool reg,.int .i64 dst,.int .i64 src,.int .i64 off,.int .i64 imm],.pointer (some ⟨kx,0,none⟩),.slice none 0 0,.pointer (some ⟨b3,0,none⟩),.pointer (some ⟨b4,0,none⟩),.pointer (some ⟨kx,0,none⟩),.int .i64 op,.int .i64 f,.pointer (some ⟨kx,0,none⟩),.int .i64 op,.pointer (some ⟨kx,1,none⟩),.bool reg,.agg #[.bool vD,.bool vS,.bool vO,.bool vI],undef,undef,undef,undef,undef,undef,undef,undef,undef,undef,undef,undef,undef,undef,undef],[]⟩ w') (w:World) (hS:Below W.heap.size W w)
include hQ w hS
theorem st_acd (b3:Nat) (h3:w.heap[b3]?=some (.cells #[.int .i64 0] 3)) (k3:W.heap.size≤b3):wpAnyH Tryz.prog .any R26 Q (SS W) 3 #[true,true,true,true,true,true,true,true,true,false,false,false] ⟨#[.agg #[.int .i64 op,.bool reg,.int .i64 dst,.int .i64 src,.int .i64 off,.int .i64 imm],.pointer (some ⟨kx,0,none⟩),.slice none 0 0,.pointer (some ⟨b3,0,none⟩),undef,.pointer (some ⟨kx,0,none⟩),.int .i64 op,.int .i64 f,.pointer (some ⟨kx,0,none⟩),.int .i64 op,.pointer (some ⟨kx,1,none⟩),.bool reg,.agg #[.bool vD,.bool vS,.bool vO,.bool vI],undef,undef,undef,undef,undef,undef,undef,undef,undef,undef,undef,undef,undef,undef,undef],[]⟩ w:=by
 refine wpAnyH_ready (rs:=[9]) (by kernel_rfl) (by simp) ?_
 refine AllReadyH.cons (o:=⟨some 4,.alloc 316,_,_,_,none⟩) rfl (fun K hK=>?_) ?_
 ·go_simp
  refine hK.out _ _ (hS.alloc hS.size _) (fun hS1=>?_)
  clear hK K
  (try simp only [List.setIfInBounds_toArray,List.set_cons_zero,List.set_cons_succ])
  exact st_abcd hQ _ hS1 b3 (((bnew w _).block _ (lt_of_block h3)).trans h3) k3 w.heap.size (heap_alloc_last w _) hS.size
 exact AllReadyH.nil
theorem st_bcd (b4:Nat) (h4:w.heap[b4]?=some (.cells #[.bool false,.bool false,.bool false,.bool false] 316)) (k4:W.heap.size≤b4):wpAnyH Tryz.prog .any R26 Q (SS W) 3 #[true,true,true,true,true,true,true,true,false,true,false,false] ⟨#[.agg #[.int .i64 op,.bool reg,.int .i64 dst,.int .i64 src,.int .i64 off,.int .i64 imm],.pointer (some ⟨kx,0,none⟩),.slice none 0 0,undef,.pointer (some ⟨b4,0,none⟩),.pointer (some ⟨kx,0,none⟩),.int .i64 op,.int .i64 f,.pointer (some ⟨kx,0,none⟩),.int .i64 op,.pointer (some ⟨kx,1,none⟩),.bool reg,.agg #[.bool vD,.bool vS,.bool vO,.bool vI],undef,undef,undef,undef,undef,undef,undef,undef,undef,undef,undef,undef,undef,undef,undef],[]⟩ w:=by
 refine wpAnyH_ready (rs:=[8]) (by kernel_rfl) (by simp) ?_
 refine AllReadyH.cons (o:=⟨some 3,.alloc 3,_,_,_,none⟩) rfl (fun K hK=>?_) ?_
 ·go_simp
  refine hK.out _ _ (hS.alloc hS.size _) (fun hS1=>?_)
  clear hK K
  (try simp only [List.setIfInBounds_toArray,List.set_cons_zero,List.set_cons_succ])
  exact st_abcd hQ _ hS1 w.heap.size (heap_alloc_last w _) hS.size b4 (((bnew w _).block _ (lt_of_block h4)).trans h4) k4
 exact AllReadyH.nil
end
theorem st_ab (HF:Hid (frm (ix op)=f)) (HU:Hid (∀ w,Calls Tryz.prog 240 #[.int .i64 op,.bool reg] w fun e w'=>e=.returned (.agg #[.bool vD,.bool vS,.bool vO,.bool vI])∧Below w.heap.size w w')) (hQ:∀ b3 b4 w',Below W.heap.size W w'→w'.heap[b3]?=some (.cells #[.int .i64 f] 3)→w'.heap[b4]?=some (.cells #[.bool vD,.bool vS,.bool vO,.bool vI] 316)→Q .normal ⟨#[.agg #[.int .i64 op,.bool reg,.int .i64 dst,.int .i64 src,.int .i64 off,.int .i64 imm],.pointer (some ⟨kx,0,none⟩),.slice none 0 0,.pointer (some ⟨b3,0,none⟩),.pointer (some ⟨b4,0,none⟩),.pointer (some ⟨kx,0,none⟩),.int .i64 op,.int .i64 f,.pointer (some ⟨kx,0,none⟩),.int .i64 op,.pointer (some ⟨kx,1,none⟩),.bool reg,.agg #[.bool vD,.bool vS,.bool vO,.bool vI],undef,undef,undef,undef,undef,undef,undef,undef,undef,undef,undef,undef,undef,undef,undef],[]⟩ w') (w:World) (hS:Below W.heap.size W w) (b3:Nat) (h3:w.heap[b3]?=some (.cells #[.int .i64 0] 3)) (k3:W.heap.size≤b3) (b4:Nat) (h4:w.heap[b4]?=some (.cells #[.bool false,.bool false,.bool false,.bool false] 316)) (k4:W.heap.size≤b4):wpAnyH Tryz.prog .any R26 Q (SS W) 4 #[true,true,false,true,true,true,true,false,true,true,false,false] ⟨#[.agg #[.int .i64 op,.bool reg,.int .i64 dst,.int .i64 src,.int .i64 off,.int .i64 imm],.pointer (some ⟨kx,0,none⟩),.slice none 0 0,.pointer (some ⟨b3,0,none⟩),.pointer (some ⟨b4,0,none⟩),.pointer (some ⟨kx,0,none⟩),.int .i64 op,undef,.pointer (some ⟨kx,0,none⟩),.int .i64 op,.pointer (some ⟨kx,1,none⟩),.bool reg,undef,undef,undef,undef,undef,undef,undef,undef,undef,undef,undef,undef,undef,undef,undef,undef],[]⟩ w:=by
 refine wpAnyH_ready (rs:=[2]) (by kernel_rfl) (by simp) ?_
 refine AllReadyH.cons (o:=⟨some 7,.call { callee:=.value (.func 62),args:=#[.tmp 6],argTypes:=#[3] },_,_,_,none⟩) rfl (fun K hK=>?_) ?_
 ·go_simp
  refine (form_at _ _ _ HF.out).mono ?_
  rintro e w1 ⟨rfl,hb1⟩
  refine hK.out _ _ (bch hS hb1) (fun hS1=>?_)
  clear hK K
  (try simp only [List.setIfInBounds_toArray,List.set_cons_zero,List.set_cons_succ])
  exact st_abc HU hQ w1 hS1 b3 ((hb1.block _ (lt_of_block h3)).trans h3) k3 b4 ((hb1.block _ (lt_of_block h4)).trans h4) k4
 exact AllReadyH.nil
section
variable (HU:Hid (∀ w,Calls Tryz.prog 240 #[.int .i64 op,.bool reg] w fun e w'=>e=.returned (.agg #[.bool vD,.bool vS,.bool vO,.bool vI])∧Below w.heap.size w w')) (hQ:∀ b3 b4 w',Below W.heap.size W w'→w'.heap[b3]?=some (.cells #[.int .i64 f] 3)→w'.heap[b4]?=some (.cells #[.bool vD,.bool vS,.bool vO,.bool vI] 316)→Q .normal ⟨#[.agg #[.int .i64 op,.bool reg,.int .i64 dst,.int .i64 src,.int .i64 off,.int .i64 imm],.pointer (some ⟨kx,0,none⟩),.slice none 0 0,.pointer (some ⟨b3,0,none⟩),.pointer (some ⟨b4,0,none⟩),.pointer (some ⟨kx,0,none⟩),.int .i64 op,.int .i64 f,.pointer (some ⟨kx,0,none⟩),.int .i64 op,.pointer (some ⟨kx,1,none⟩),.bool reg,.agg #[.bool vD,.bool vS,.bool vO,.bool vI],undef,undef,undef,undef,undef,undef,undef,undef,undef,undef,undef,undef,undef,undef,undef],[]⟩ w') (w:World) (hS:Below W.heap.size W w)
include HU hQ w hS
theorem st_ac (b3:Nat) (h3:w.heap[b3]?=some (.cells #[.int .i64 0] 3)) (k3:W.heap.size≤b3):wpAnyH Tryz.prog .any R26 Q (SS W) 4 #[true,true,true,true,true,true,true,false,true,false,false,false] ⟨#[.agg #[.int .i64 op,.bool reg,.int .i64 dst,.int .i64 src,.int .i64 off,.int .i64 imm],.pointer (some ⟨kx,0,none⟩),.slice none 0 0,.pointer (some ⟨b3,0,none⟩),undef,.pointer (some ⟨kx,0,none⟩),.int .i64 op,.int .i64 f,.pointer (some ⟨kx,0,none⟩),.int .i64 op,.pointer (some ⟨kx,1,none⟩),.bool reg,undef,undef,undef,undef,undef,undef,undef,undef,undef,undef,undef,undef,undef,undef,undef,undef],[]⟩ w:=by
 refine wpAnyH_ready (rs:=[7,9]) (by kernel_rfl) (by simp) ?_
 refine AllReadyH.cons (o:=⟨some 12,.call { callee:=.value (.func 240),args:=#[.tmp 9,.tmp 11],argTypes:=#[3,4] },_,_,_,none⟩) rfl (fun K hK=>?_) ?_
 ·go_simp
  refine (HU.out _).mono ?_
  rintro e w1 ⟨rfl,hb1⟩
  refine hK.out _ _ (bch hS hb1) (fun hS1=>?_)
  clear hK K
  (try simp only [List.setIfInBounds_toArray,List.set_cons_zero,List.set_cons_succ])
  exact st_acd hQ w1 hS1 b3 ((hb1.block _ (lt_of_block h3)).trans h3) k3
 refine AllReadyH.cons (o:=⟨some 4,.alloc 316,_,_,_,none⟩) rfl (fun K hK=>?_) ?_
 ·go_simp
  refine hK.out _ _ (hS.alloc hS.size _) (fun hS1=>?_)
  clear hK K
  (try simp only [List.setIfInBounds_toArray,List.set_cons_zero,List.set_cons_succ])
  exact st_abc HU hQ _ hS1 b3 (((bnew w _).block _ (lt_of_block h3)).trans h3) k3 w.heap.size (heap_alloc_last w _) hS.size
 exact AllReadyH.nil
theorem st_bc (b4:Nat) (h4:w.heap[b4]?=some (.cells #[.bool false,.bool false,.bool false,.bool false] 316)) (k4:W.heap.size≤b4):wpAnyH Tryz.prog .any R26 Q (SS W) 4 #[true,true,true,true,true,true,true,false,false,true,false,false] ⟨#[.agg #[.int .i64 op,.bool reg,.int .i64 dst,.int .i64 src,.int .i64 off,.int .i64 imm],.pointer (some ⟨kx,0,none⟩),.slice none 0 0,undef,.pointer (some ⟨b4,0,none⟩),.pointer (some ⟨kx,0,none⟩),.int .i64 op,.int .i64 f,.pointer (some ⟨kx,0,none⟩),.int .i64 op,.pointer (some ⟨kx,1,none⟩),.bool reg,undef,undef,undef,undef,undef,undef,undef,undef,undef,undef,undef,undef,undef,undef,undef,undef],[]⟩ w:=by
 refine wpAnyH_ready (rs:=[7,8]) (by kernel_rfl) (by simp) ?_
 refine AllReadyH.cons (o:=⟨some 12,.call { callee:=.value (.func 240),args:=#[.tmp 9,.tmp 11],argTypes:=#[3,4] },_,_,_,none⟩) rfl (fun K hK=>?_) ?_
 ·go_simp
  refine (HU.out _).mono ?_
  rintro e w1 ⟨rfl,hb1⟩
  refine hK.out _ _ (bch hS hb1) (fun hS1=>?_)
  clear hK K
  (try simp only [List.setIfInBounds_toArray,List.set_cons_zero,List.set_cons_succ])
  exact st_bcd hQ w1 hS1 b4 ((hb1.block _ (lt_of_block h4)).trans h4) k4
 refine AllReadyH.cons (o:=⟨some 3,.alloc 3,_,_,_,none⟩) rfl (fun K hK=>?_) ?_
 ·go_simp
  refine hK.out _ _ (hS.alloc hS.size _) (fun hS1=>?_)
  clear hK K
  (try simp only [List.setIfInBounds_toArray,List.set_cons_zero,List.set_cons_succ])
  exact st_abc HU hQ _ hS1 w.heap.size (heap_alloc_last w _) hS.size b4 (((bnew w _).block _ (lt_of_block h4)).trans h4) k4
 exact AllReadyH.nil
end
theorem st_cd   (hQ:∀ b3 b4 w',Below W.heap.size W w'→w'.heap[b3]?=some (.cells #[.int .i64 f] 3)→w'.heap[b4]?=some (.cells #[.bool vD,.bool vS,.bool vO,.bool vI] 316)→Q .normal ⟨#[.agg #[.int .i64 op,.bool reg,.int .i64 dst,.int .i64 src,.int .i64 off,.int .i64 imm],.pointer (some ⟨kx,0,none⟩),.slice none 0 0,.pointer (some ⟨b3,0,none⟩),.pointer (some ⟨b4,0,none⟩),.pointer (some ⟨kx,0,none⟩),.int .i64 op,.int .i64 f,.pointer (some ⟨kx,0,none⟩),.int .i64 op,.pointer (some ⟨kx,1,none⟩),.bool reg,.agg #[.bool vD,.bool vS,.bool vO,.bool vI],undef,undef,undef,undef,undef,undef,undef,undef,undef,undef,undef,undef,undef,undef,undef],[]⟩ w') (w:World) (hS:Below W.heap.size W w):wpAnyH Tryz.prog .any R26 Q (SS W) 4 #[true,true,true,true,true,true,true,true,false,false,false,false] ⟨#[.agg #[.int .i64 op,.bool reg,.int .i64 dst,.int .i64 src,.int .i64 off,.int .i64 imm],.pointer (some ⟨kx,0,none⟩),.slice none 0 0,undef,undef,.pointer (some ⟨kx,0,none⟩),.int .i64 op,.int .i64 f,.pointer (some ⟨kx,0,none⟩),.int .i64 op,.pointer (some ⟨kx,1,none⟩),.bool reg,.agg #[.bool vD,.bool vS,.bool vO,.bool vI],undef,undef,undef,undef,undef,undef,undef,undef,undef,undef,undef,undef,undef,undef,undef],[]⟩ w:=by
 refine wpAnyH_ready (rs:=[8,9]) (by kernel_rfl) (by simp) ?_
 refine AllReadyH.cons (o:=⟨some 3,.alloc 3,_,_,_,none⟩) rfl (fun K hK=>?_) ?_
 ·go_simp
  refine hK.out _ _ (hS.alloc hS.size _) (fun hS1=>?_)
  clear hK K
  (try simp only [List.setIfInBounds_toArray,List.set_cons_zero,List.set_cons_succ])
  exact st_acd hQ _ hS1 w.heap.size (heap_alloc_last w _) hS.size
 refine AllReadyH.cons (o:=⟨some 4,.alloc 316,_,_,_,none⟩) rfl (fun K hK=>?_) ?_
 ·go_simp
  refine hK.out _ _ (hS.alloc hS.size _) (fun hS1=>?_)
  clear hK K
  (try simp only [List.setIfInBounds_toArray,List.set_cons_zero,List.set_cons_succ])
  exact st_bcd hQ _ hS1 w.heap.size (heap_alloc_last w _) hS.size
 exact AllReadyH.nil
section
variable (HF:Hid (frm (ix op)=f)) (HU:Hid (∀ w,Calls Tryz.prog 240 #[.int .i64 op,.bool reg] w fun e w'=>e=.returned (.agg #[.bool vD,.bool vS,.bool vO,.bool vI])∧Below w.heap.size w w')) (hQ:∀ b3 b4 w',Below W.heap.size W w'→w'.heap[b3]?=some (.cells #[.int .i64 f] 3)→w'.heap[b4]?=some (.cells #[.bool vD,.bool vS,.bool vO,.bool vI] 316)→Q .normal ⟨#[.agg #[.int .i64 op,.bool reg,.int .i64 dst,.int .i64 src,.int .i64 off,.int .i64 imm],.pointer (some ⟨kx,0,none⟩),.slice none 0 0,.pointer (some ⟨b3,0,none⟩),.pointer (some ⟨b4,0,none⟩),.pointer (some ⟨kx,0,none⟩),.int .i64 op,.int .i64 f,.pointer (some ⟨kx,0,none⟩),.int .i64 op,.pointer (some ⟨kx,1,none⟩),.bool reg,.agg #[.bool vD,.bool vS,.bool vO,.bool vI],undef,undef,undef,undef,undef,undef,undef,undef,undef,undef,undef,undef,undef,undef,undef],[]⟩ w') (w:World) (hS:Below W.heap.size W w)
include HF HU hQ w hS
theorem st_a (b3:Nat) (h3:w.heap[b3]?=some (.cells #[.int .i64 0] 3)) (k3:W.heap.size≤b3):wpAnyH Tryz.prog .any R26 Q (SS W) 5 #[true,true,false,true,true,true,true,false,true,false,false,false] ⟨#[.agg #[.int .i64 op,.bool reg,.int .i64 dst,.int .i64 src,.int .i64 off,.int .i64 imm],.pointer (some ⟨kx,0,none⟩),.slice none 0 0,.pointer (some ⟨b3,0,none⟩),undef,.pointer (some ⟨kx,0,none⟩),.int .i64 op,undef,.pointer (some ⟨kx,0,none⟩),.int .i64 op,.pointer (some ⟨kx,1,none⟩),.bool reg,undef,undef,undef,undef,undef,undef,undef,undef,undef,undef,undef,undef,undef,undef,undef,undef],[]⟩ w:=by
 refine wpAnyH_ready (rs:=[2,9]) (by kernel_rfl) (by simp) ?_
 refine AllReadyH.cons (o:=⟨some 7,.call { callee:=.value (.func 62),args:=#[.tmp 6],argTypes:=#[3] },_,_,_,none⟩) rfl (fun K hK=>?_) ?_
 ·go_simp
  refine (form_at _ _ _ HF.out).mono ?_
  rintro e w1 ⟨rfl,hb1⟩
  refine hK.out _ _ (bch hS hb1) (fun hS1=>?_)
  clear hK K
  (try simp only [List.setIfInBounds_toArray,List.set_cons_zero,List.set_cons_succ])
  exact st_ac HU hQ w1 hS1 b3 ((hb1.block _ (lt_of_block h3)).trans h3) k3
 refine AllReadyH.cons (o:=⟨some 4,.alloc 316,_,_,_,none⟩) rfl (fun K hK=>?_) ?_
 ·go_simp
  refine hK.out _ _ (hS.alloc hS.size _) (fun hS1=>?_)
  clear hK K
  (try simp only [List.setIfInBounds_toArray,List.set_cons_zero,List.set_cons_succ])
  exact st_ab HF HU hQ _ hS1 b3 (((bnew w _).block _ (lt_of_block h3)).trans h3) k3 w.heap.size (heap_alloc_last w _) hS.size
 exact AllReadyH.nil
theorem st_b (b4:Nat) (h4:w.heap[b4]?=some (.cells #[.bool false,.bool false,.bool false,.bool false] 316)) (k4:W.heap.size≤b4):wpAnyH Tryz.prog .any R26 Q (SS W) 5 #[true,true,false,true,true,true,true,false,false,true,false,false] ⟨#[.agg #[.int .i64 op,.bool reg,.int .i64 dst,.int .i64 src,.int .i64 off,.int .i64 imm],.pointer (some ⟨kx,0,none⟩),.slice none 0 0,undef,.pointer (some ⟨b4,0,none⟩),.pointer (some ⟨kx,0,none⟩),.int .i64 op,undef,.pointer (some ⟨kx,0,none⟩),.int .i64 op,.pointer (some ⟨kx,1,none⟩),.bool reg,undef,undef,undef,undef,undef,undef,undef,undef,undef,undef,undef,undef,undef,undef,undef,undef],[]⟩ w:=by
 refine wpAnyH_ready (rs:=[2,8]) (by kernel_rfl) (by simp) ?_
 refine AllReadyH.cons (o:=⟨some 7,.call { callee:=.value (.func 62),args:=#[.tmp 6],argTypes:=#[3] },_,_,_,none⟩) rfl (fun K hK=>?_) ?_
 ·go_simp
  refine (form_at _ _ _ HF.out).mono ?_
  rintro e w1 ⟨rfl,hb1⟩
  refine hK.out _ _ (bch hS hb1) (fun hS1=>?_)
  clear hK K
  (try simp only [List.setIfInBounds_toArray,List.set_cons_zero,List.set_cons_succ])
  exact st_bc HU hQ w1 hS1 b4 ((hb1.block _ (lt_of_block h4)).trans h4) k4
 refine AllReadyH.cons (o:=⟨some 3,.alloc 3,_,_,_,none⟩) rfl (fun K hK=>?_) ?_
 ·go_simp
  refine hK.out _ _ (hS.alloc hS.size _) (fun hS1=>?_)
  clear hK K
  (try simp only [List.setIfInBounds_toArray,List.set_cons_zero,List.set_cons_succ])
  exact st_ab HF HU hQ _ hS1 w.heap.size (heap_alloc_last w _) hS.size b4 (((bnew w _).block _ (lt_of_block h4)).trans h4) k4
 exact AllReadyH.nil
end
theorem st_c  (HU:Hid (∀ w,Calls Tryz.prog 240 #[.int .i64 op,.bool reg] w fun e w'=>e=.returned (.agg #[.bool vD,.bool vS,.bool vO,.bool vI])∧Below w.heap.size w w')) (hQ:∀ b3 b4 w',Below W.heap.size W w'→w'.heap[b3]?=some (.cells #[.int .i64 f] 3)→w'.heap[b4]?=some (.cells #[.bool vD,.bool vS,.bool vO,.bool vI] 316)→Q .normal ⟨#[.agg #[.int .i64 op,.bool reg,.int .i64 dst,.int .i64 src,.int .i64 off,.int .i64 imm],.pointer (some ⟨kx,0,none⟩),.slice none 0 0,.pointer (some ⟨b3,0,none⟩),.pointer (some ⟨b4,0,none⟩),.pointer (some ⟨kx,0,none⟩),.int .i64 op,.int .i64 f,.pointer (some ⟨kx,0,none⟩),.int .i64 op,.pointer (some ⟨kx,1,none⟩),.bool reg,.agg #[.bool vD,.bool vS,.bool vO,.bool vI],undef,undef,undef,undef,undef,undef,undef,undef,undef,undef,undef,undef,undef,undef,undef],[]⟩ w') (w:World) (hS:Below W.heap.size W w):wpAnyH Tryz.prog .any R26 Q (SS W) 5 #[true,true,true,true,true,true,true,false,false,false,false,false] ⟨#[.agg #[.int .i64 op,.bool reg,.int .i64 dst,.int .i64 src,.int .i64 off,.int .i64 imm],.pointer (some ⟨kx,0,none⟩),.slice none 0 0,undef,undef,.pointer (some ⟨kx,0,none⟩),.int .i64 op,.int .i64 f,.pointer (some ⟨kx,0,none⟩),.int .i64 op,.pointer (some ⟨kx,1,none⟩),.bool reg,undef,undef,undef,undef,undef,undef,undef,undef,undef,undef,undef,undef,undef,undef,undef,undef],[]⟩ w:=by
 refine wpAnyH_ready (rs:=[7,8,9]) (by kernel_rfl) (by simp) ?_
 refine AllReadyH.cons (o:=⟨some 12,.call { callee:=.value (.func 240),args:=#[.tmp 9,.tmp 11],argTypes:=#[3,4] },_,_,_,none⟩) rfl (fun K hK=>?_) ?_
 ·go_simp
  refine (HU.out _).mono ?_
  rintro e w1 ⟨rfl,hb1⟩
  refine hK.out _ _ (bch hS hb1) (fun hS1=>?_)
  clear hK K
  (try simp only [List.setIfInBounds_toArray,List.set_cons_zero,List.set_cons_succ])
  exact st_cd hQ w1 hS1
 refine AllReadyH.cons (o:=⟨some 3,.alloc 3,_,_,_,none⟩) rfl (fun K hK=>?_) ?_
 ·go_simp
  refine hK.out _ _ (hS.alloc hS.size _) (fun hS1=>?_)
  clear hK K
  (try simp only [List.setIfInBounds_toArray,List.set_cons_zero,List.set_cons_succ])
  exact st_ac HU hQ _ hS1 w.heap.size (heap_alloc_last w _) hS.size
 refine AllReadyH.cons (o:=⟨some 4,.alloc 316,_,_,_,none⟩) rfl (fun K hK=>?_) ?_
 ·go_simp
  refine hK.out _ _ (hS.alloc hS.size _) (fun hS1=>?_)
  clear hK K
  (try simp only [List.setIfInBounds_toArray,List.set_cons_zero,List.set_cons_succ])
  exact st_bc HU hQ _ hS1 w.heap.size (heap_alloc_last w _) hS.size
 exact AllReadyH.nil
theorem st_o (HF:Hid (frm (ix op)=f)) (HU:Hid (∀ w,Calls Tryz.prog 240 #[.int .i64 op,.bool reg] w fun e w'=>e=.returned (.agg #[.bool vD,.bool vS,.bool vO,.bool vI])∧Below w.heap.size w w')) (hQ:∀ b3 b4 w',Below W.heap.size W w'→w'.heap[b3]?=some (.cells #[.int .i64 f] 3)→w'.heap[b4]?=some (.cells #[.bool vD,.bool vS,.bool vO,.bool vI] 316)→Q .normal ⟨#[.agg #[.int .i64 op,.bool reg,.int .i64 dst,.int .i64 src,.int .i64 off,.int .i64 imm],.pointer (some ⟨kx,0,none⟩),.slice none 0 0,.pointer (some ⟨b3,0,none⟩),.pointer (some ⟨b4,0,none⟩),.pointer (some ⟨kx,0,none⟩),.int .i64 op,.int .i64 f,.pointer (some ⟨kx,0,none⟩),.int .i64 op,.pointer (some ⟨kx,1,none⟩),.bool reg,.agg #[.bool vD,.bool vS,.bool vO,.bool vI],undef,undef,undef,undef,undef,undef,undef,undef,undef,undef,undef,undef,undef,undef,undef],[]⟩ w') (w:World) (hS:Below W.heap.size W w):wpAnyH Tryz.prog .any R26 Q (SS W) 6 #[true,true,false,true,true,true,true,false,false,false,false,false] ⟨#[.agg #[.int .i64 op,.bool reg,.int .i64 dst,.int .i64 src,.int .i64 off,.int .i64 imm],.pointer (some ⟨kx,0,none⟩),.slice none 0 0,undef,undef,.pointer (some ⟨kx,0,none⟩),.int .i64 op,undef,.pointer (some ⟨kx,0,none⟩),.int .i64 op,.pointer (some ⟨kx,1,none⟩),.bool reg,undef,undef,undef,undef,undef,undef,undef,undef,undef,undef,undef,undef,undef,undef,undef,undef],[]⟩ w:=by
 refine wpAnyH_ready (rs:=[2,8,9]) (by kernel_rfl) (by simp) ?_
 refine AllReadyH.cons (o:=⟨some 7,.call { callee:=.value (.func 62),args:=#[.tmp 6],argTypes:=#[3] },_,_,_,none⟩) rfl (fun K hK=>?_) ?_
 ·go_simp
  refine (form_at _ _ _ HF.out).mono ?_
  rintro e w1 ⟨rfl,hb1⟩
  refine hK.out _ _ (bch hS hb1) (fun hS1=>?_)
  clear hK K
  (try simp only [List.setIfInBounds_toArray,List.set_cons_zero,List.set_cons_succ])
  exact st_c HU hQ w1 hS1
 refine AllReadyH.cons (o:=⟨some 3,.alloc 3,_,_,_,none⟩) rfl (fun K hK=>?_) ?_
 ·go_simp
  refine hK.out _ _ (hS.alloc hS.size _) (fun hS1=>?_)
  clear hK K
  (try simp only [List.setIfInBounds_toArray,List.set_cons_zero,List.set_cons_succ])
  exact st_a HF HU hQ _ hS1 w.heap.size (heap_alloc_last w _) hS.size
 refine AllReadyH.cons (o:=⟨some 4,.alloc 316,_,_,_,none⟩) rfl (fun K hK=>?_) ?_
 ·go_simp
  refine hK.out _ _ (hS.alloc hS.size _) (fun hS1=>?_)
  clear hK K
  (try simp only [List.setIfInBounds_toArray,List.set_cons_zero,List.set_cons_succ])
  exact st_b HF HU hQ _ hS1 w.heap.size (heap_alloc_last w _) hS.size
 exact AllReadyH.nil
end
abbrev condC (kx kf ku:Nat):Array Value:=#[.func (.func 241) #[] #[.pointer (some ⟨kf,0,none⟩)],.int .i64 6,.func (.func 242) #[] #[.pointer (some ⟨kx,0,none⟩),.pointer (some ⟨kf,0,none⟩)],.int .i64 12,.func (.func 243) #[] #[.pointer (some ⟨ku,0,none⟩),.pointer (some ⟨kx,0,none⟩)],.int .i64 12,.func (.func 245) #[] #[.pointer (some ⟨ku,0,none⟩),.pointer (some ⟨kx,0,none⟩)],.int .i64 12,.func (.func 246) #[] #[.pointer (some ⟨kx,0,none⟩)],.int .i64 5,.func (.func 248) #[] #[.pointer (some ⟨kx,0,none⟩)],.int .i64 4,.func (.func 249) #[] #[.pointer (some ⟨kf,0,none⟩),.pointer (some ⟨kx,0,none⟩)],.int .i64 4]
theorem conds_at (op:Int) (reg:Bool) (dst src off imm f:Int) (vD vS vO vI:Bool) (w:World) (hf:frm (ix op)=f) (h1:uD f=vD) (h2:uS f reg=vS) (h3:uO f=vO) (h4:uI f reg=vI) (hw:Wid w) :
  Calls Tryz.prog 215 #[.agg #[.int .i64 op,.bool reg,.int .i64 dst,.int .i64 src,.int .i64 off,.int .i64 imm]] w fun e w'=>∃ g kx kf ku,e=.returned (.slice (some ⟨g,0,none⟩) 7 7)∧Below w.heap.size w w'∧Held w' kx kf ku op reg dst src off imm f vD vS vO vI∧w'.heap[g]?=some (.cells (condC kx kf ku) 296):=by
 have HF:=Lib.hid hf
 have HU:=Lib.hid (fun w=>uses_is op f reg vD vS vO vI w hf h1 h2 h3 h4)
 have hmf:∀ (fn:Fn) (first cap:Array Value) (w:World),(Instr.makeFunc fn first cap).run Tryz.prog w=.ok (.func fn first cap) w:=fun _ _ _ _=>rfl
 clear hf h1 h2 h3 h4
 go_enter Tryz.func215,Tryz.ntmps215
 go_wp2
 have hx:(w.alloc (.cells #[.int .i64 op,.bool reg,.int .i64 dst,.int .i64 src,.int .i64 off,.int .i64 imm] 45)).heap[w.heap.size]?=some (.cells #[.int .i64 op,.bool reg,.int .i64 dst,.int .i64 src,.int .i64 off,.int .i64 imm] 45):=heap_alloc_last w _
 obtain⟨x0,x1,-⟩:=cells6 hx
 have hlt0:(⟨w.heap.size,0,none⟩:Addr).block<(w.alloc (.cells #[.int .i64 op,.bool reg,.int .i64 dst,.int .i64 src,.int .i64 off,.int .i64 imm] 45)).heap.size:=lt_of_block hx
 have hlt1:(⟨w.heap.size,1,none⟩:Addr).block<(w.alloc (.cells #[.int .i64 op,.bool reg,.int .i64 dst,.int .i64 src,.int .i64 off,.int .i64 imm] 45)).heap.size:=lt_of_block hx
 have hbW:Below w.heap.size w (w.alloc (.cells #[.int .i64 op,.bool reg,.int .i64 dst,.int .i64 src,.int .i64 off,.int .i64 imm] 45)):=bnew _ _
 have hwW:Wid (w.alloc (.cells #[.int .i64 op,.bool reg,.int .i64 dst,.int .i64 src,.int .i64 off,.int .i64 imm] 45)):=by
  obtain⟨t,fr,hw⟩:=hw
  exact⟨t,fr,(hbW.block _ (lt_of_block hw)).trans hw⟩
 clear hw
 generalize (w.alloc (.cells #[.int .i64 op,.bool reg,.int .i64 dst,.int .i64 src,.int .i64 off,.int .i64 imm] 45))=W at hx x0 x1 hlt0 hlt1 hbW hwW ⊢
 refine wp_region_held_drew (S:=SS W) (by kernel_rfl) (below_drewN (Below.refl _ _) 1) (fun hH=>?_)
 refine zT3 0 5 (.fieldAddr 45 (.tmp 1) 0) (.pointer (some ⟨w.heap.size,0,none⟩)) rfl hH ?_
 simp only [zz]
 refine zT3 3 8 (.fieldAddr 45 (.tmp 1) 0) (.pointer (some ⟨w.heap.size,0,none⟩)) rfl hH ?_
 simp only [zz]
 refine zT3 5 10 (.fieldAddr 45 (.tmp 1) 1) (.pointer (some ⟨w.heap.size,1,none⟩)) rfl hH ?_
 simp only [zz]
 refine zT1 1 6 (.load 3 (.tmp 5)) (.int .i64 op) rfl (fun wS hS=>by have d0:=(Below.cell hS hlt0).trans x0;have d1:=(Below.cell hS hlt1).trans x1;go_simp) hH ?_
 simp only [zz]
 refine zT1 4 9 (.load 3 (.tmp 8)) (.int .i64 op) rfl (fun wS hS=>by have d0:=(Below.cell hS hlt0).trans x0;have d1:=(Below.cell hS hlt1).trans x1;go_simp) hH ?_
 simp only [zz]
 refine zT1 6 11 (.load 4 (.tmp 10)) (.bool reg) rfl (fun wS hS=>by have d0:=(Below.cell hS hlt0).trans x0;have d1:=(Below.cell hS hlt1).trans x1;go_simp) hH ?_
 simp only [zz]
 refine st_o HF HU ?_ _ hH
 intro kf ku w2 hb2 hkf hku
 have hxx:=(hb2.block _ (lt_of_block hx)).trans hx
 have hH2:Held w2 w.heap.size kf ku op reg dst src off imm f vD vS vO vI:=by
  obtain⟨t,fr,hw⟩:=hwW
  exact⟨hxx,hkf,hku,t,fr,(hb2.block _ (lt_of_block hw)).trans hw⟩
 have hb3:=bch hbW hb2
 clear hxx hkf hku hb2 hH hx x0 x1 hlt0 hlt1 hbW hwW
 go_wp2
 go_ret
 exact⟨_,_,kf,ku,rfl,bch hb3 (bnew _ _),hH2.below (bnew _ _),heap_alloc_last _ _⟩
end Go.Proofs.YtdgnjhhieemcaaaGreatDoor.L4
