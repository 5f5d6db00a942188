/- Lemmas and walks of L4Cond26, L4Check, L4Alive: what each theorem states; conditions stand in each theorem. -/
import Derived.Test.YtohkgdfkklfgmaaGreatDoorM7
import Derived.Deep.RegionHeld3
import Derived.Laws.EntriesVeiled
import Derived.Deep.DeepCutAuto
section
set_option maxRecDepth 100000
set_option maxHeartbeats 4000000
namespace Go.Proofs.YtohkgdfkklfgmaaGreatDoor.L4
open Go.RowKit L3 L1
theorem uses_is (op f:Int) (reg vD vS vO vI:Bool) (w:World) (hf:frm (ix op)=f) (h1:uD f=vD) (h2:uS f reg=vS) (h3:uO f=vO) (h4:uI f reg=vI):Calls Tryz.prog 164 #[.int .i64 op,.bool reg] w fun e w' =>
  e=.returned (.agg #[.bool vD,.bool vS,.bool vO,.bool vI])∧Below w.heap.size w w':=by
 subst h1 h2 h3 h4
 exact uses_at op f reg w hf
theorem heap_setCell_same {w:World} {b i:Nat} {cs:Array Value} {t:TypeId} {fz:Nat × Nat} (h:w.heap[b]?=some (.cells cs t fz)) (u:Value):(w.setCell ⟨b,i,none⟩ u).heap[b]?=some (.cells (cs.setIfInBounds i u) t fz):=by
 have hlt:=lt_of_block h
 have h':w.heap[b]=.cells cs t fz:=by simpa [Array.getElem?_eq_getElem hlt] using h
 show (w.heap.modify b _)[b]?=_
 rw [Array.getElem?_eq_getElem (by simpa using hlt),Array.getElem_modify_self,h']
 rfl
def R26:Array Oper :=
 #[⟨some 5,.fieldAddr 92 (.tmp 1) 0,0, "insn.go:102",#[],none⟩,⟨some 6,.load 3 (.tmp 5),3, "insn.go:102",#[⟨0,.data⟩],none⟩,⟨some 7,.call { callee:=.value (.func 91),args:=#[.tmp 6],argTypes:=#[3] },3, "insn.go:102",#[⟨1,.data⟩],none⟩,⟨some 8,.fieldAddr 92 (.tmp 1) 0,0, "insn.go:102",#[],none⟩,⟨some 9,.load 3 (.tmp 8),3, "insn.go:102",#[⟨3,.data⟩],none⟩,⟨some 10,.fieldAddr 92 (.tmp 1) 1,0, "insn.go:102",#[],none⟩,⟨some 11,.load 4 (.tmp 10),4, "insn.go:102",#[⟨5,.data⟩],none⟩,⟨some 12,.call { callee:=.value (.func 164),args:=#[.tmp 9,.tmp 11],argTypes:=#[3,4] },214, "insn.go:102",#[⟨4,.data⟩,⟨6,.data⟩,⟨2,.chain⟩],none⟩,⟨some 3,.alloc 3,0, "insn.go:102",#[],none⟩,⟨some 4,.alloc 214,0, "insn.go:102",#[],none⟩,⟨none,.store 3 (.tmp 3) (.tmp 7),0, "insn.go:102",#[⟨8,.data⟩,⟨2,.data⟩,⟨7,.chain⟩,⟨0,.phase⟩,⟨1,.phase⟩,⟨2,.phase⟩,{ on:=3,ground:=Ground.textOnly Departure.lateStores },{ on:=4,ground:=Ground.textOnly Departure.lateStores },{ on:=5,ground:=Ground.textOnly Departure.lateStores },{ on:=6,ground:=Ground.textOnly Departure.lateStores },{ on:=7,ground:=Ground.textOnly Departure.lateStoresUnsure },⟨8,.phase⟩,⟨9,.phase⟩],none⟩,⟨none,.store 214 (.tmp 4) (.tmp 12),0, "insn.go:102",#[⟨9,.data⟩,⟨7,.data⟩,⟨10,.chain⟩,⟨0,.phase⟩,⟨1,.phase⟩,⟨2,.phase⟩,⟨3,.phase⟩,⟨4,.phase⟩,⟨5,.phase⟩,⟨6,.phase⟩,⟨7,.phase⟩,⟨8,.phase⟩,⟨9,.phase⟩,⟨10,.phase⟩],none⟩]
abbrev SS (W:World):World→Prop:=fun w'=>Below W.heap.size W w'
section
variable {Q:Exit→Act→World→Prop} {W:World} {kx:Nat} {op dst src off imm f:Int} {reg vD vS vO vI:Bool}
theorem st_abcd (hQ:∀ b3 b4 w',Below W.heap.size W w'→w'.heap[b3]?=some (.cells #[.int .i64 f] 3)→w'.heap[b4]?=some (.cells #[.bool vD,.bool vS,.bool vO,.bool vI] 214)→Q .normal ⟨#[.agg #[.int .i64 op,.bool reg,.int .i64 dst,.int .i64 src,.int .i64 off,.int .i64 imm],.pointer (some ⟨kx,0,none⟩),.slice none 0 0,.pointer (some ⟨b3,0,none⟩),.pointer (some ⟨b4,0,none⟩),.pointer (some ⟨kx,0,none⟩),.int .i64 op,.int .i64 f,.pointer (some ⟨kx,0,none⟩),.int .i64 op,.pointer (some ⟨kx,1,none⟩),.bool reg,.agg #[.bool vD,.bool vS,.bool vO,.bool vI],undef,undef,undef,undef,undef,undef,undef,undef,undef,undef,undef,undef,undef,undef,undef],[]⟩ w') (w:World) (hS:Below W.heap.size W w) (b3:Nat) (h3:w.heap[b3]?=some (.cells #[.int .i64 0] 3)) (k3:W.heap.size≤b3) (b4:Nat) (h4:w.heap[b4]?=some (.cells #[.bool false,.bool false,.bool false,.bool false] 214)) (k4:W.heap.size≤b4):wpAnyH Tryz.prog .any R26 Q (SS W) 2 #[true,true,true,true,true,true,true,true,true,true,false,false] ⟨#[.agg #[.int .i64 op,.bool reg,.int .i64 dst,.int .i64 src,.int .i64 off,.int .i64 imm],.pointer (some ⟨kx,0,none⟩),.slice none 0 0,.pointer (some ⟨b3,0,none⟩),.pointer (some ⟨b4,0,none⟩),.pointer (some ⟨kx,0,none⟩),.int .i64 op,.int .i64 f,.pointer (some ⟨kx,0,none⟩),.int .i64 op,.pointer (some ⟨kx,1,none⟩),.bool reg,.agg #[.bool vD,.bool vS,.bool vO,.bool vI],undef,undef,undef,undef,undef,undef,undef,undef,undef,undef,undef,undef,undef,undef,undef],[]⟩ w:=by
 have hne:b3≠b4:=by
  rintro rfl
  rw [h3] at h4
  cases h4
 have hne':b4≠b3:=Ne.symm hne
 have c3:=cell_of_one h3
 have f3:=free_of_one h3
 refine wpAnyH_ready (rs:=[10]) (by kernel_rfl) (by simp) ?_
 refine AllReadyH.cons (o:=⟨none,.store 3 (.tmp 3) (.tmp 7),_,_,_,none⟩) rfl (fun K hK=>?_) AllReadyH.nil
 go_simp
 refine hK.out _ _ (Below.setCell hS k3 _) (fun hS2=>?_)
 clear hK K
 have g3:=one_setCell (u:=.int .i64 f) h3
 have g4:(w.setCell ⟨b3,0,none⟩ (.int .i64 f)).heap[b4]?=some (.cells #[.bool false,.bool false,.bool false,.bool false] 214):=(Below.heap_setCell _ _ _ _ hne').trans h4
 generalize w.setCell ⟨b3,0,none⟩ (.int .i64 f)=w2 at g3 g4 hS2 ⊢
 clear h3 h4 c3 f3 hS
 obtain⟨c0,c1,c2,c3,f0,f1,f2,f3⟩:=cells4 g4
 refine wpAnyH_ready (rs:=[11]) (by kernel_rfl) (by simp) ?_
 refine AllReadyH.cons (o:=⟨none,.store 214 (.tmp 4) (.tmp 12),_,_,_,none⟩) rfl (fun K hK=>?_) AllReadyH.nil
 go_simp
 refine hK.out _ _ (Below.setCell (Below.setCell (Below.setCell (Below.setCell hS2 k4 _) k4 _) k4 _) k4 _) (fun hS3=>?_)
 clear hK K
 refine wpAnyH_done (by kernel_rfl) ?_ _
 refine hQ b3 b4 _ hS3 ?_ ?_
 ·rw [Below.heap_setCell _ _ _ _ hne,Below.heap_setCell _ _ _ _ hne,Below.heap_setCell _ _ _ _ hne,Below.heap_setCell _ _ _ _ hne,g3]
 ·exact heap_setCell_same (heap_setCell_same (heap_setCell_same (heap_setCell_same g4 _) _) _) _
theorem st_abc  (HU:Hid (∀ w,Calls Tryz.prog 164 #[.int .i64 op,.bool reg] w fun e w'=>e=.returned (.agg #[.bool vD,.bool vS,.bool vO,.bool vI])∧Below w.heap.size w w')) (hQ:∀ b3 b4 w',Below W.heap.size W w'→w'.heap[b3]?=some (.cells #[.int .i64 f] 3)→w'.heap[b4]?=some (.cells #[.bool vD,.bool vS,.bool vO,.bool vI] 214)→Q .normal ⟨#[.agg #[.int .i64 op,.bool reg,.int .i64 dst,.int .i64 src,.int .i64 off,.int .i64 imm],.pointer (some ⟨kx,0,none⟩),.slice none 0 0,.pointer (some ⟨b3,0,none⟩),.pointer (some ⟨b4,0,none⟩),.pointer (some ⟨kx,0,none⟩),.int .i64 op,.int .i64 f,.pointer (some ⟨kx,0,none⟩),.int .i64 op,.pointer (some ⟨kx,1,none⟩),.bool reg,.agg #[.bool vD,.bool vS,.bool vO,.bool vI],undef,undef,undef,undef,undef,undef,undef,undef,undef,undef,undef,undef,undef,undef,undef],[]⟩ w') (w:World) (hS:Below W.heap.size W w) (b3:Nat) (h3:w.heap[b3]?=some (.cells #[.int .i64 0] 3)) (k3:W.heap.size≤b3) (b4:Nat) (h4:w.heap[b4]?=some (.cells #[.bool false,.bool false,.bool false,.bool false] 214)) (k4:W.heap.size≤b4):wpAnyH Tryz.prog .any R26 Q (SS W) 3 #[true,true,true,true,true,true,true,false,true,true,false,false] ⟨#[.agg #[.int .i64 op,.bool reg,.int .i64 dst,.int .i64 src,.int .i64 off,.int .i64 imm],.pointer (some ⟨kx,0,none⟩),.slice none 0 0,.pointer (some ⟨b3,0,none⟩),.pointer (some ⟨b4,0,none⟩),.pointer (some ⟨kx,0,none⟩),.int .i64 op,.int .i64 f,.pointer (some ⟨kx,0,none⟩),.int .i64 op,.pointer (some ⟨kx,1,none⟩),.bool reg,undef,undef,undef,undef,undef,undef,undef,undef,undef,undef,undef,undef,undef,undef,undef,undef],[]⟩ w:=by
 refine wpAnyH_ready (rs:=[7]) (by kernel_rfl) (by simp) ?_
 refine AllReadyH.cons (o:=⟨some 12,.call { callee:=.value (.func 164),args:=#[.tmp 9,.tmp 11],argTypes:=#[3,4] },_,_,_,none⟩) rfl (fun K hK=>?_) ?_
 ·go_simp
  refine (HU.out _).mono ?_
  rintro e w1 ⟨rfl,hb1⟩
  refine hK.out _ _ (bch hS hb1) (fun hS1=>?_)
  clear hK K
  (try simp only [List.setIfInBounds_toArray,List.set_cons_zero,List.set_cons_succ])
  exact st_abcd hQ w1 hS1 b3 ((hb1.block _ (lt_of_block h3)).trans h3) k3 b4 ((hb1.block _ (lt_of_block h4)).trans h4) k4
 exact AllReadyH.nil
theorem st_acd   (hQ:∀ b3 b4 w',Below W.heap.size W w'→w'.heap[b3]?=some (.cells #[.int .i64 f] 3)→w'.heap[b4]?=some (.cells #[.bool vD,.bool vS,.bool vO,.bool vI] 214)→Q .normal ⟨#[.agg #[.int .i64 op,.bool reg,.int .i64 dst,.int .i64 src,.int .i64 off,.int .i64 imm],.pointer (some ⟨kx,0,none⟩),.slice none 0 0,.pointer (some ⟨b3,0,none⟩),.pointer (some ⟨b4,0,none⟩),.pointer (some ⟨kx,0,none⟩),.int .i64 op,.int .i64 f,.pointer (some ⟨kx,0,none⟩),.int .i64 op,.pointer (some ⟨kx,1,none⟩),.bool reg,.agg #[.bool vD,.bool vS,.bool vO,.bool vI],undef,undef,undef,undef,undef,undef,undef,undef,undef,undef,undef,undef,undef,undef,undef],[]⟩ w') (w:World) (hS:Below W.heap.size W w) (b3:Nat) (h3:w.heap[b3]?=some (.cells #[.int .i64 0] 3)) (k3:W.heap.size≤b3):wpAnyH Tryz.prog .any R26 Q (SS W) 3 #[true,true,true,true,true,true,true,true,true,false,false,false] ⟨#[.agg #[.int .i64 op,.bool reg,.int .i64 dst,.int .i64 src,.int .i64 off,.int .i64 imm],.pointer (some ⟨kx,0,none⟩),.slice none 0 0,.pointer (some ⟨b3,0,none⟩),undef,.pointer (some ⟨kx,0,none⟩),.int .i64 op,.int .i64 f,.pointer (some ⟨kx,0,none⟩),.int .i64 op,.pointer (some ⟨kx,1,none⟩),.bool reg,.agg #[.bool vD,.bool vS,.bool vO,.bool vI],undef,undef,undef,undef,undef,undef,undef,undef,undef,undef,undef,undef,undef,undef,undef],[]⟩ w:=by
 refine wpAnyH_ready (rs:=[9]) (by kernel_rfl) (by simp) ?_
 refine AllReadyH.cons (o:=⟨some 4,.alloc 214,_,_,_,none⟩) rfl (fun K hK=>?_) ?_
 ·go_simp
  refine hK.out _ _ (hS.alloc hS.size _) (fun hS1=>?_)
  clear hK K
  (try simp only [List.setIfInBounds_toArray,List.set_cons_zero,List.set_cons_succ])
  exact st_abcd hQ _ hS1 b3 (((bnew w _).block _ (lt_of_block h3)).trans h3) k3 w.heap.size (heap_alloc_last w _) hS.size
 exact AllReadyH.nil
theorem st_bcd   (hQ:∀ b3 b4 w',Below W.heap.size W w'→w'.heap[b3]?=some (.cells #[.int .i64 f] 3)→w'.heap[b4]?=some (.cells #[.bool vD,.bool vS,.bool vO,.bool vI] 214)→Q .normal ⟨#[.agg #[.int .i64 op,.bool reg,.int .i64 dst,.int .i64 src,.int .i64 off,.int .i64 imm],.pointer (some ⟨kx,0,none⟩),.slice none 0 0,.pointer (some ⟨b3,0,none⟩),.pointer (some ⟨b4,0,none⟩),.pointer (some ⟨kx,0,none⟩),.int .i64 op,.int .i64 f,.pointer (some ⟨kx,0,none⟩),.int .i64 op,.pointer (some ⟨kx,1,none⟩),.bool reg,.agg #[.bool vD,.bool vS,.bool vO,.bool vI],undef,undef,undef,undef,undef,undef,undef,undef,undef,undef,undef,undef,undef,undef,undef],[]⟩ w') (w:World) (hS:Below W.heap.size W w) (b4:Nat) (h4:w.heap[b4]?=some (.cells #[.bool false,.bool false,.bool false,.bool false] 214)) (k4:W.heap.size≤b4):wpAnyH Tryz.prog .any R26 Q (SS W) 3 #[true,true,true,true,true,true,true,true,false,true,false,false] ⟨#[.agg #[.int .i64 op,.bool reg,.int .i64 dst,.int .i64 src,.int .i64 off,.int .i64 imm],.pointer (some ⟨kx,0,none⟩),.slice none 0 0,undef,.pointer (some ⟨b4,0,none⟩),.pointer (some ⟨kx,0,none⟩),.int .i64 op,.int .i64 f,.pointer (some ⟨kx,0,none⟩),.int .i64 op,.pointer (some ⟨kx,1,none⟩),.bool reg,.agg #[.bool vD,.bool vS,.bool vO,.bool vI],undef,undef,undef,undef,undef,undef,undef,undef,undef,undef,undef,undef,undef,undef,undef],[]⟩ w:=by
 refine wpAnyH_ready (rs:=[8]) (by kernel_rfl) (by simp) ?_
 refine AllReadyH.cons (o:=⟨some 3,.alloc 3,_,_,_,none⟩) rfl (fun K hK=>?_) ?_
 ·go_simp
  refine hK.out _ _ (hS.alloc hS.size _) (fun hS1=>?_)
  clear hK K
  (try simp only [List.setIfInBounds_toArray,List.set_cons_zero,List.set_cons_succ])
  exact st_abcd hQ _ hS1 w.heap.size (heap_alloc_last w _) hS.size b4 (((bnew w _).block _ (lt_of_block h4)).trans h4) k4
 exact AllReadyH.nil
theorem st_ab (HF:Hid (frm (ix op)=f)) (HU:Hid (∀ w,Calls Tryz.prog 164 #[.int .i64 op,.bool reg] w fun e w'=>e=.returned (.agg #[.bool vD,.bool vS,.bool vO,.bool vI])∧Below w.heap.size w w')) (hQ:∀ b3 b4 w',Below W.heap.size W w'→w'.heap[b3]?=some (.cells #[.int .i64 f] 3)→w'.heap[b4]?=some (.cells #[.bool vD,.bool vS,.bool vO,.bool vI] 214)→Q .normal ⟨#[.agg #[.int .i64 op,.bool reg,.int .i64 dst,.int .i64 src,.int .i64 off,.int .i64 imm],.pointer (some ⟨kx,0,none⟩),.slice none 0 0,.pointer (some ⟨b3,0,none⟩),.pointer (some ⟨b4,0,none⟩),.pointer (some ⟨kx,0,none⟩),.int .i64 op,.int .i64 f,.pointer (some ⟨kx,0,none⟩),.int .i64 op,.pointer (some ⟨kx,1,none⟩),.bool reg,.agg #[.bool vD,.bool vS,.bool vO,.bool vI],undef,undef,undef,undef,undef,undef,undef,undef,undef,undef,undef,undef,undef,undef,undef],[]⟩ w') (w:World) (hS:Below W.heap.size W w) (b3:Nat) (h3:w.heap[b3]?=some (.cells #[.int .i64 0] 3)) (k3:W.heap.size≤b3) (b4:Nat) (h4:w.heap[b4]?=some (.cells #[.bool false,.bool false,.bool false,.bool false] 214)) (k4:W.heap.size≤b4):wpAnyH Tryz.prog .any R26 Q (SS W) 4 #[true,true,false,true,true,true,true,false,true,true,false,false] ⟨#[.agg #[.int .i64 op,.bool reg,.int .i64 dst,.int .i64 src,.int .i64 off,.int .i64 imm],.pointer (some ⟨kx,0,none⟩),.slice none 0 0,.pointer (some ⟨b3,0,none⟩),.pointer (some ⟨b4,0,none⟩),.pointer (some ⟨kx,0,none⟩),.int .i64 op,undef,.pointer (some ⟨kx,0,none⟩),.int .i64 op,.pointer (some ⟨kx,1,none⟩),.bool reg,undef,undef,undef,undef,undef,undef,undef,undef,undef,undef,undef,undef,undef,undef,undef,undef],[]⟩ w:=by
 refine wpAnyH_ready (rs:=[2]) (by kernel_rfl) (by simp) ?_
 refine AllReadyH.cons (o:=⟨some 7,.call { callee:=.value (.func 91),args:=#[.tmp 6],argTypes:=#[3] },_,_,_,none⟩) rfl (fun K hK=>?_) ?_
 ·go_simp
  refine (form_at _ _ _ HF.out).mono ?_
  rintro e w1 ⟨rfl,hb1⟩
  refine hK.out _ _ (bch hS hb1) (fun hS1=>?_)
  clear hK K
  (try simp only [List.setIfInBounds_toArray,List.set_cons_zero,List.set_cons_succ])
  exact st_abc HU hQ w1 hS1 b3 ((hb1.block _ (lt_of_block h3)).trans h3) k3 b4 ((hb1.block _ (lt_of_block h4)).trans h4) k4
 exact AllReadyH.nil
theorem st_ac  (HU:Hid (∀ w,Calls Tryz.prog 164 #[.int .i64 op,.bool reg] w fun e w'=>e=.returned (.agg #[.bool vD,.bool vS,.bool vO,.bool vI])∧Below w.heap.size w w')) (hQ:∀ b3 b4 w',Below W.heap.size W w'→w'.heap[b3]?=some (.cells #[.int .i64 f] 3)→w'.heap[b4]?=some (.cells #[.bool vD,.bool vS,.bool vO,.bool vI] 214)→Q .normal ⟨#[.agg #[.int .i64 op,.bool reg,.int .i64 dst,.int .i64 src,.int .i64 off,.int .i64 imm],.pointer (some ⟨kx,0,none⟩),.slice none 0 0,.pointer (some ⟨b3,0,none⟩),.pointer (some ⟨b4,0,none⟩),.pointer (some ⟨kx,0,none⟩),.int .i64 op,.int .i64 f,.pointer (some ⟨kx,0,none⟩),.int .i64 op,.pointer (some ⟨kx,1,none⟩),.bool reg,.agg #[.bool vD,.bool vS,.bool vO,.bool vI],undef,undef,undef,undef,undef,undef,undef,undef,undef,undef,undef,undef,undef,undef,undef],[]⟩ w') (w:World) (hS:Below W.heap.size W w) (b3:Nat) (h3:w.heap[b3]?=some (.cells #[.int .i64 0] 3)) (k3:W.heap.size≤b3):wpAnyH Tryz.prog .any R26 Q (SS W) 4 #[true,true,true,true,true,true,true,false,true,false,false,false] ⟨#[.agg #[.int .i64 op,.bool reg,.int .i64 dst,.int .i64 src,.int .i64 off,.int .i64 imm],.pointer (some ⟨kx,0,none⟩),.slice none 0 0,.pointer (some ⟨b3,0,none⟩),undef,.pointer (some ⟨kx,0,none⟩),.int .i64 op,.int .i64 f,.pointer (some ⟨kx,0,none⟩),.int .i64 op,.pointer (some ⟨kx,1,none⟩),.bool reg,undef,undef,undef,undef,undef,undef,undef,undef,undef,undef,undef,undef,undef,undef,undef,undef],[]⟩ w:=by
 refine wpAnyH_ready (rs:=[7,9]) (by kernel_rfl) (by simp) ?_
 refine AllReadyH.cons (o:=⟨some 12,.call { callee:=.value (.func 164),args:=#[.tmp 9,.tmp 11],argTypes:=#[3,4] },_,_,_,none⟩) rfl (fun K hK=>?_) ?_
 ·go_simp
  refine (HU.out _).mono ?_
  rintro e w1 ⟨rfl,hb1⟩
  refine hK.out _ _ (bch hS hb1) (fun hS1=>?_)
  clear hK K
  (try simp only [List.setIfInBounds_toArray,List.set_cons_zero,List.set_cons_succ])
  exact st_acd hQ w1 hS1 b3 ((hb1.block _ (lt_of_block h3)).trans h3) k3
 refine AllReadyH.cons (o:=⟨some 4,.alloc 214,_,_,_,none⟩) rfl (fun K hK=>?_) ?_
 ·go_simp
  refine hK.out _ _ (hS.alloc hS.size _) (fun hS1=>?_)
  clear hK K
  (try simp only [List.setIfInBounds_toArray,List.set_cons_zero,List.set_cons_succ])
  exact st_abc HU hQ _ hS1 b3 (((bnew w _).block _ (lt_of_block h3)).trans h3) k3 w.heap.size (heap_alloc_last w _) hS.size
 exact AllReadyH.nil
theorem st_bc  (HU:Hid (∀ w,Calls Tryz.prog 164 #[.int .i64 op,.bool reg] w fun e w'=>e=.returned (.agg #[.bool vD,.bool vS,.bool vO,.bool vI])∧Below w.heap.size w w')) (hQ:∀ b3 b4 w',Below W.heap.size W w'→w'.heap[b3]?=some (.cells #[.int .i64 f] 3)→w'.heap[b4]?=some (.cells #[.bool vD,.bool vS,.bool vO,.bool vI] 214)→Q .normal ⟨#[.agg #[.int .i64 op,.bool reg,.int .i64 dst,.int .i64 src,.int .i64 off,.int .i64 imm],.pointer (some ⟨kx,0,none⟩),.slice none 0 0,.pointer (some ⟨b3,0,none⟩),.pointer (some ⟨b4,0,none⟩),.pointer (some ⟨kx,0,none⟩),.int .i64 op,.int .i64 f,.pointer (some ⟨kx,0,none⟩),.int .i64 op,.pointer (some ⟨kx,1,none⟩),.bool reg,.agg #[.bool vD,.bool vS,.bool vO,.bool vI],undef,undef,undef,undef,undef,undef,undef,undef,undef,undef,undef,undef,undef,undef,undef],[]⟩ w') (w:World) (hS:Below W.heap.size W w) (b4:Nat) (h4:w.heap[b4]?=some (.cells #[.bool false,.bool false,.bool false,.bool false] 214)) (k4:W.heap.size≤b4):wpAnyH Tryz.prog .any R26 Q (SS W) 4 #[true,true,true,true,true,true,true,false,false,true,false,false] ⟨#[.agg #[.int .i64 op,.bool reg,.int .i64 dst,.int .i64 src,.int .i64 off,.int .i64 imm],.pointer (some ⟨kx,0,none⟩),.slice none 0 0,undef,.pointer (some ⟨b4,0,none⟩),.pointer (some ⟨kx,0,none⟩),.int .i64 op,.int .i64 f,.pointer (some ⟨kx,0,none⟩),.int .i64 op,.pointer (some ⟨kx,1,none⟩),.bool reg,undef,undef,undef,undef,undef,undef,undef,undef,undef,undef,undef,undef,undef,undef,undef,undef],[]⟩ w:=by
 refine wpAnyH_ready (rs:=[7,8]) (by kernel_rfl) (by simp) ?_
 refine AllReadyH.cons (o:=⟨some 12,.call { callee:=.value (.func 164),args:=#[.tmp 9,.tmp 11],argTypes:=#[3,4] },_,_,_,none⟩) rfl (fun K hK=>?_) ?_
 ·go_simp
  refine (HU.out _).mono ?_
  rintro e w1 ⟨rfl,hb1⟩
  refine hK.out _ _ (bch hS hb1) (fun hS1=>?_)
  clear hK K
  (try simp only [List.setIfInBounds_toArray,List.set_cons_zero,List.set_cons_succ])
  exact st_bcd hQ w1 hS1 b4 ((hb1.block _ (lt_of_block h4)).trans h4) k4
 refine AllReadyH.cons (o:=⟨some 3,.alloc 3,_,_,_,none⟩) rfl (fun K hK=>?_) ?_
 ·go_simp
  refine hK.out _ _ (hS.alloc hS.size _) (fun hS1=>?_)
  clear hK K
  (try simp only [List.setIfInBounds_toArray,List.set_cons_zero,List.set_cons_succ])
  exact st_abc HU hQ _ hS1 w.heap.size (heap_alloc_last w _) hS.size b4 (((bnew w _).block _ (lt_of_block h4)).trans h4) k4
 exact AllReadyH.nil
theorem st_cd   (hQ:∀ b3 b4 w',Below W.heap.size W w'→w'.heap[b3]?=some (.cells #[.int .i64 f] 3)→w'.heap[b4]?=some (.cells #[.bool vD,.bool vS,.bool vO,.bool vI] 214)→Q .normal ⟨#[.agg #[.int .i64 op,.bool reg,.int .i64 dst,.int .i64 src,.int .i64 off,.int .i64 imm],.pointer (some ⟨kx,0,none⟩),.slice none 0 0,.pointer (some ⟨b3,0,none⟩),.pointer (some ⟨b4,0,none⟩),.pointer (some ⟨kx,0,none⟩),.int .i64 op,.int .i64 f,.pointer (some ⟨kx,0,none⟩),.int .i64 op,.pointer (some ⟨kx,1,none⟩),.bool reg,.agg #[.bool vD,.bool vS,.bool vO,.bool vI],undef,undef,undef,undef,undef,undef,undef,undef,undef,undef,undef,undef,undef,undef,undef],[]⟩ w') (w:World) (hS:Below W.heap.size W w):wpAnyH Tryz.prog .any R26 Q (SS W) 4 #[true,true,true,true,true,true,true,true,false,false,false,false] ⟨#[.agg #[.int .i64 op,.bool reg,.int .i64 dst,.int .i64 src,.int .i64 off,.int .i64 imm],.pointer (some ⟨kx,0,none⟩),.slice none 0 0,undef,undef,.pointer (some ⟨kx,0,none⟩),.int .i64 op,.int .i64 f,.pointer (some ⟨kx,0,none⟩),.int .i64 op,.pointer (some ⟨kx,1,none⟩),.bool reg,.agg #[.bool vD,.bool vS,.bool vO,.bool vI],undef,undef,undef,undef,undef,undef,undef,undef,undef,undef,undef,undef,undef,undef,undef],[]⟩ w:=by
 refine wpAnyH_ready (rs:=[8,9]) (by kernel_rfl) (by simp) ?_
 refine AllReadyH.cons (o:=⟨some 3,.alloc 3,_,_,_,none⟩) rfl (fun K hK=>?_) ?_
 ·go_simp
  refine hK.out _ _ (hS.alloc hS.size _) (fun hS1=>?_)
  clear hK K
  (try simp only [List.setIfInBounds_toArray,List.set_cons_zero,List.set_cons_succ])
  exact st_acd hQ _ hS1 w.heap.size (heap_alloc_last w _) hS.size
 refine AllReadyH.cons (o:=⟨some 4,.alloc 214,_,_,_,none⟩) rfl (fun K hK=>?_) ?_
 ·go_simp
  refine hK.out _ _ (hS.alloc hS.size _) (fun hS1=>?_)
  clear hK K
  (try simp only [List.setIfInBounds_toArray,List.set_cons_zero,List.set_cons_succ])
  exact st_bcd hQ _ hS1 w.heap.size (heap_alloc_last w _) hS.size
 exact AllReadyH.nil
theorem st_a (HF:Hid (frm (ix op)=f)) (HU:Hid (∀ w,Calls Tryz.prog 164 #[.int .i64 op,.bool reg] w fun e w'=>e=.returned (.agg #[.bool vD,.bool vS,.bool vO,.bool vI])∧Below w.heap.size w w')) (hQ:∀ b3 b4 w',Below W.heap.size W w'→w'.heap[b3]?=some (.cells #[.int .i64 f] 3)→w'.heap[b4]?=some (.cells #[.bool vD,.bool vS,.bool vO,.bool vI] 214)→Q .normal ⟨#[.agg #[.int .i64 op,.bool reg,.int .i64 dst,.int .i64 src,.int .i64 off,.int .i64 imm],.pointer (some ⟨kx,0,none⟩),.slice none 0 0,.pointer (some ⟨b3,0,none⟩),.pointer (some ⟨b4,0,none⟩),.pointer (some ⟨kx,0,none⟩),.int .i64 op,.int .i64 f,.pointer (some ⟨kx,0,none⟩),.int .i64 op,.pointer (some ⟨kx,1,none⟩),.bool reg,.agg #[.bool vD,.bool vS,.bool vO,.bool vI],undef,undef,undef,undef,undef,undef,undef,undef,undef,undef,undef,undef,undef,undef,undef],[]⟩ w') (w:World) (hS:Below W.heap.size W w) (b3:Nat) (h3:w.heap[b3]?=some (.cells #[.int .i64 0] 3)) (k3:W.heap.size≤b3):wpAnyH Tryz.prog .any R26 Q (SS W) 5 #[true,true,false,true,true,true,true,false,true,false,false,false] ⟨#[.agg #[.int .i64 op,.bool reg,.int .i64 dst,.int .i64 src,.int .i64 off,.int .i64 imm],.pointer (some ⟨kx,0,none⟩),.slice none 0 0,.pointer (some ⟨b3,0,none⟩),undef,.pointer (some ⟨kx,0,none⟩),.int .i64 op,undef,.pointer (some ⟨kx,0,none⟩),.int .i64 op,.pointer (some ⟨kx,1,none⟩),.bool reg,undef,undef,undef,undef,undef,undef,undef,undef,undef,undef,undef,undef,undef,undef,undef,undef],[]⟩ w:=by
 refine wpAnyH_ready (rs:=[2,9]) (by kernel_rfl) (by simp) ?_
 refine AllReadyH.cons (o:=⟨some 7,.call { callee:=.value (.func 91),args:=#[.tmp 6],argTypes:=#[3] },_,_,_,none⟩) rfl (fun K hK=>?_) ?_
 ·go_simp
  refine (form_at _ _ _ HF.out).mono ?_
  rintro e w1 ⟨rfl,hb1⟩
  refine hK.out _ _ (bch hS hb1) (fun hS1=>?_)
  clear hK K
  (try simp only [List.setIfInBounds_toArray,List.set_cons_zero,List.set_cons_succ])
  exact st_ac HU hQ w1 hS1 b3 ((hb1.block _ (lt_of_block h3)).trans h3) k3
 refine AllReadyH.cons (o:=⟨some 4,.alloc 214,_,_,_,none⟩) rfl (fun K hK=>?_) ?_
 ·go_simp
  refine hK.out _ _ (hS.alloc hS.size _) (fun hS1=>?_)
  clear hK K
  (try simp only [List.setIfInBounds_toArray,List.set_cons_zero,List.set_cons_succ])
  exact st_ab HF HU hQ _ hS1 b3 (((bnew w _).block _ (lt_of_block h3)).trans h3) k3 w.heap.size (heap_alloc_last w _) hS.size
 exact AllReadyH.nil
theorem st_b (HF:Hid (frm (ix op)=f)) (HU:Hid (∀ w,Calls Tryz.prog 164 #[.int .i64 op,.bool reg] w fun e w'=>e=.returned (.agg #[.bool vD,.bool vS,.bool vO,.bool vI])∧Below w.heap.size w w')) (hQ:∀ b3 b4 w',Below W.heap.size W w'→w'.heap[b3]?=some (.cells #[.int .i64 f] 3)→w'.heap[b4]?=some (.cells #[.bool vD,.bool vS,.bool vO,.bool vI] 214)→Q .normal ⟨#[.agg #[.int .i64 op,.bool reg,.int .i64 dst,.int .i64 src,.int .i64 off,.int .i64 imm],.pointer (some ⟨kx,0,none⟩),.slice none 0 0,.pointer (some ⟨b3,0,none⟩),.pointer (some ⟨b4,0,none⟩),.pointer (some ⟨kx,0,none⟩),.int .i64 op,.int .i64 f,.pointer (some ⟨kx,0,none⟩),.int .i64 op,.pointer (some ⟨kx,1,none⟩),.bool reg,.agg #[.bool vD,.bool vS,.bool vO,.bool vI],undef,undef,undef,undef,undef,undef,undef,undef,undef,undef,undef,undef,undef,undef,undef],[]⟩ w') (w:World) (hS:Below W.heap.size W w) (b4:Nat) (h4:w.heap[b4]?=some (.cells #[.bool false,.bool false,.bool false,.bool false] 214)) (k4:W.heap.size≤b4):wpAnyH Tryz.prog .any R26 Q (SS W) 5 #[true,true,false,true,true,true,true,false,false,true,false,false] ⟨#[.agg #[.int .i64 op,.bool reg,.int .i64 dst,.int .i64 src,.int .i64 off,.int .i64 imm],.pointer (some ⟨kx,0,none⟩),.slice none 0 0,undef,.pointer (some ⟨b4,0,none⟩),.pointer (some ⟨kx,0,none⟩),.int .i64 op,undef,.pointer (some ⟨kx,0,none⟩),.int .i64 op,.pointer (some ⟨kx,1,none⟩),.bool reg,undef,undef,undef,undef,undef,undef,undef,undef,undef,undef,undef,undef,undef,undef,undef,undef],[]⟩ w:=by
 refine wpAnyH_ready (rs:=[2,8]) (by kernel_rfl) (by simp) ?_
 refine AllReadyH.cons (o:=⟨some 7,.call { callee:=.value (.func 91),args:=#[.tmp 6],argTypes:=#[3] },_,_,_,none⟩) rfl (fun K hK=>?_) ?_
 ·go_simp
  refine (form_at _ _ _ HF.out).mono ?_
  rintro e w1 ⟨rfl,hb1⟩
  refine hK.out _ _ (bch hS hb1) (fun hS1=>?_)
  clear hK K
  (try simp only [List.setIfInBounds_toArray,List.set_cons_zero,List.set_cons_succ])
  exact st_bc HU hQ w1 hS1 b4 ((hb1.block _ (lt_of_block h4)).trans h4) k4
 refine AllReadyH.cons (o:=⟨some 3,.alloc 3,_,_,_,none⟩) rfl (fun K hK=>?_) ?_
 ·go_simp
  refine hK.out _ _ (hS.alloc hS.size _) (fun hS1=>?_)
  clear hK K
  (try simp only [List.setIfInBounds_toArray,List.set_cons_zero,List.set_cons_succ])
  exact st_ab HF HU hQ _ hS1 w.heap.size (heap_alloc_last w _) hS.size b4 (((bnew w _).block _ (lt_of_block h4)).trans h4) k4
 exact AllReadyH.nil
theorem st_c  (HU:Hid (∀ w,Calls Tryz.prog 164 #[.int .i64 op,.bool reg] w fun e w'=>e=.returned (.agg #[.bool vD,.bool vS,.bool vO,.bool vI])∧Below w.heap.size w w')) (hQ:∀ b3 b4 w',Below W.heap.size W w'→w'.heap[b3]?=some (.cells #[.int .i64 f] 3)→w'.heap[b4]?=some (.cells #[.bool vD,.bool vS,.bool vO,.bool vI] 214)→Q .normal ⟨#[.agg #[.int .i64 op,.bool reg,.int .i64 dst,.int .i64 src,.int .i64 off,.int .i64 imm],.pointer (some ⟨kx,0,none⟩),.slice none 0 0,.pointer (some ⟨b3,0,none⟩),.pointer (some ⟨b4,0,none⟩),.pointer (some ⟨kx,0,none⟩),.int .i64 op,.int .i64 f,.pointer (some ⟨kx,0,none⟩),.int .i64 op,.pointer (some ⟨kx,1,none⟩),.bool reg,.agg #[.bool vD,.bool vS,.bool vO,.bool vI],undef,undef,undef,undef,undef,undef,undef,undef,undef,undef,undef,undef,undef,undef,undef],[]⟩ w') (w:World) (hS:Below W.heap.size W w):wpAnyH Tryz.prog .any R26 Q (SS W) 5 #[true,true,true,true,true,true,true,false,false,false,false,false] ⟨#[.agg #[.int .i64 op,.bool reg,.int .i64 dst,.int .i64 src,.int .i64 off,.int .i64 imm],.pointer (some ⟨kx,0,none⟩),.slice none 0 0,undef,undef,.pointer (some ⟨kx,0,none⟩),.int .i64 op,.int .i64 f,.pointer (some ⟨kx,0,none⟩),.int .i64 op,.pointer (some ⟨kx,1,none⟩),.bool reg,undef,undef,undef,undef,undef,undef,undef,undef,undef,undef,undef,undef,undef,undef,undef,undef],[]⟩ w:=by
 refine wpAnyH_ready (rs:=[7,8,9]) (by kernel_rfl) (by simp) ?_
 refine AllReadyH.cons (o:=⟨some 12,.call { callee:=.value (.func 164),args:=#[.tmp 9,.tmp 11],argTypes:=#[3,4] },_,_,_,none⟩) rfl (fun K hK=>?_) ?_
 ·go_simp
  refine (HU.out _).mono ?_
  rintro e w1 ⟨rfl,hb1⟩
  refine hK.out _ _ (bch hS hb1) (fun hS1=>?_)
  clear hK K
  (try simp only [List.setIfInBounds_toArray,List.set_cons_zero,List.set_cons_succ])
  exact st_cd hQ w1 hS1
 refine AllReadyH.cons (o:=⟨some 3,.alloc 3,_,_,_,none⟩) rfl (fun K hK=>?_) ?_
 ·go_simp
  refine hK.out _ _ (hS.alloc hS.size _) (fun hS1=>?_)
  clear hK K
  (try simp only [List.setIfInBounds_toArray,List.set_cons_zero,List.set_cons_succ])
  exact st_ac HU hQ _ hS1 w.heap.size (heap_alloc_last w _) hS.size
 refine AllReadyH.cons (o:=⟨some 4,.alloc 214,_,_,_,none⟩) rfl (fun K hK=>?_) ?_
 ·go_simp
  refine hK.out _ _ (hS.alloc hS.size _) (fun hS1=>?_)
  clear hK K
  (try simp only [List.setIfInBounds_toArray,List.set_cons_zero,List.set_cons_succ])
  exact st_bc HU hQ _ hS1 w.heap.size (heap_alloc_last w _) hS.size
 exact AllReadyH.nil
theorem st_o (HF:Hid (frm (ix op)=f)) (HU:Hid (∀ w,Calls Tryz.prog 164 #[.int .i64 op,.bool reg] w fun e w'=>e=.returned (.agg #[.bool vD,.bool vS,.bool vO,.bool vI])∧Below w.heap.size w w')) (hQ:∀ b3 b4 w',Below W.heap.size W w'→w'.heap[b3]?=some (.cells #[.int .i64 f] 3)→w'.heap[b4]?=some (.cells #[.bool vD,.bool vS,.bool vO,.bool vI] 214)→Q .normal ⟨#[.agg #[.int .i64 op,.bool reg,.int .i64 dst,.int .i64 src,.int .i64 off,.int .i64 imm],.pointer (some ⟨kx,0,none⟩),.slice none 0 0,.pointer (some ⟨b3,0,none⟩),.pointer (some ⟨b4,0,none⟩),.pointer (some ⟨kx,0,none⟩),.int .i64 op,.int .i64 f,.pointer (some ⟨kx,0,none⟩),.int .i64 op,.pointer (some ⟨kx,1,none⟩),.bool reg,.agg #[.bool vD,.bool vS,.bool vO,.bool vI],undef,undef,undef,undef,undef,undef,undef,undef,undef,undef,undef,undef,undef,undef,undef],[]⟩ w') (w:World) (hS:Below W.heap.size W w):wpAnyH Tryz.prog .any R26 Q (SS W) 6 #[true,true,false,true,true,true,true,false,false,false,false,false] ⟨#[.agg #[.int .i64 op,.bool reg,.int .i64 dst,.int .i64 src,.int .i64 off,.int .i64 imm],.pointer (some ⟨kx,0,none⟩),.slice none 0 0,undef,undef,.pointer (some ⟨kx,0,none⟩),.int .i64 op,undef,.pointer (some ⟨kx,0,none⟩),.int .i64 op,.pointer (some ⟨kx,1,none⟩),.bool reg,undef,undef,undef,undef,undef,undef,undef,undef,undef,undef,undef,undef,undef,undef,undef,undef],[]⟩ w:=by
 refine wpAnyH_ready (rs:=[2,8,9]) (by kernel_rfl) (by simp) ?_
 refine AllReadyH.cons (o:=⟨some 7,.call { callee:=.value (.func 91),args:=#[.tmp 6],argTypes:=#[3] },_,_,_,none⟩) rfl (fun K hK=>?_) ?_
 ·go_simp
  refine (form_at _ _ _ HF.out).mono ?_
  rintro e w1 ⟨rfl,hb1⟩
  refine hK.out _ _ (bch hS hb1) (fun hS1=>?_)
  clear hK K
  (try simp only [List.setIfInBounds_toArray,List.set_cons_zero,List.set_cons_succ])
  exact st_c HU hQ w1 hS1
 refine AllReadyH.cons (o:=⟨some 3,.alloc 3,_,_,_,none⟩) rfl (fun K hK=>?_) ?_
 ·go_simp
  refine hK.out _ _ (hS.alloc hS.size _) (fun hS1=>?_)
  clear hK K
  (try simp only [List.setIfInBounds_toArray,List.set_cons_zero,List.set_cons_succ])
  exact st_a HF HU hQ _ hS1 w.heap.size (heap_alloc_last w _) hS.size
 refine AllReadyH.cons (o:=⟨some 4,.alloc 214,_,_,_,none⟩) rfl (fun K hK=>?_) ?_
 ·go_simp
  refine hK.out _ _ (hS.alloc hS.size _) (fun hS1=>?_)
  clear hK K
  (try simp only [List.setIfInBounds_toArray,List.set_cons_zero,List.set_cons_succ])
  exact st_b HF HU hQ _ hS1 w.heap.size (heap_alloc_last w _) hS.size
 exact AllReadyH.nil
end
abbrev condC (kx kf ku:Nat):Array Value:=#[.func (.func 165) #[] #[.pointer (some ⟨kf,0,none⟩)],.int .i64 6,.func (.func 166) #[] #[.pointer (some ⟨kx,0,none⟩),.pointer (some ⟨kf,0,none⟩)],.int .i64 12,.func (.func 167) #[] #[.pointer (some ⟨ku,0,none⟩),.pointer (some ⟨kx,0,none⟩)],.int .i64 12,.func (.func 169) #[] #[.pointer (some ⟨ku,0,none⟩),.pointer (some ⟨kx,0,none⟩)],.int .i64 12,.func (.func 170) #[] #[.pointer (some ⟨kx,0,none⟩)],.int .i64 5,.func (.func 172) #[] #[.pointer (some ⟨kx,0,none⟩)],.int .i64 4,.func (.func 173) #[] #[.pointer (some ⟨kf,0,none⟩),.pointer (some ⟨kx,0,none⟩)],.int .i64 4]
theorem conds_at (op:Int) (reg:Bool) (dst src off imm f:Int) (vD vS vO vI:Bool) (w:World) (hf:frm (ix op)=f) (h1:uD f=vD) (h2:uS f reg=vS) (h3:uO f=vO) (h4:uI f reg=vI) (hw:Wid w) :
  Calls Tryz.prog 149 #[.agg #[.int .i64 op,.bool reg,.int .i64 dst,.int .i64 src,.int .i64 off,.int .i64 imm]] w fun e w'=>∃ g kx kf ku,e=.returned (.slice (some ⟨g,0,none⟩) 7 7)∧Below w.heap.size w w'∧Held w' kx kf ku op reg dst src off imm f vD vS vO vI∧w'.heap[g]?=some (.cells (condC kx kf ku) 206):=by
 have HF:=Lib.hid hf
 have HU:=Lib.hid (fun w=>uses_is op f reg vD vS vO vI w hf h1 h2 h3 h4)
 have hmf:∀ (fn:Fn) (first cap:Array Value) (w:World),(Instr.makeFunc fn first cap).run Tryz.prog w=.ok (.func fn first cap) w:=fun _ _ _ _=>rfl
 clear hf h1 h2 h3 h4
 go_enter Tryz.func149,Tryz.ntmps149
 go_wp2
 have hx:(w.alloc (.cells #[.int .i64 op,.bool reg,.int .i64 dst,.int .i64 src,.int .i64 off,.int .i64 imm] 92)).heap[w.heap.size]?=some (.cells #[.int .i64 op,.bool reg,.int .i64 dst,.int .i64 src,.int .i64 off,.int .i64 imm] 92):=heap_alloc_last w _
 obtain⟨x0,x1,-⟩:=cells6 hx
 have hlt0:(⟨w.heap.size,0,none⟩:Addr).block<(w.alloc (.cells #[.int .i64 op,.bool reg,.int .i64 dst,.int .i64 src,.int .i64 off,.int .i64 imm] 92)).heap.size:=lt_of_block hx
 have hlt1:(⟨w.heap.size,1,none⟩:Addr).block<(w.alloc (.cells #[.int .i64 op,.bool reg,.int .i64 dst,.int .i64 src,.int .i64 off,.int .i64 imm] 92)).heap.size:=lt_of_block hx
 have hbW:Below w.heap.size w (w.alloc (.cells #[.int .i64 op,.bool reg,.int .i64 dst,.int .i64 src,.int .i64 off,.int .i64 imm] 92)):=bnew _ _
 have hwW:Wid (w.alloc (.cells #[.int .i64 op,.bool reg,.int .i64 dst,.int .i64 src,.int .i64 off,.int .i64 imm] 92)):=by
  obtain⟨t,fr,hw⟩:=hw
  exact⟨t,fr,(hbW.block _ (lt_of_block hw)).trans hw⟩
 clear hw
 generalize (w.alloc (.cells #[.int .i64 op,.bool reg,.int .i64 dst,.int .i64 src,.int .i64 off,.int .i64 imm] 92))=W at hx x0 x1 hlt0 hlt1 hbW hwW ⊢
 refine wp_region_held_drew (S:=SS W) (by kernel_rfl) (below_drewN (Below.refl _ _) 1) (fun hH=>?_)
 refine wpAnyH_take (i:=0) (oi:=⟨some 5,.fieldAddr 92 (.tmp 1) 0,_,_,_,none⟩) (v:=.pointer (some ⟨w.heap.size,0,none⟩)) rfl (by kernel_rfl) (by kernel_rfl) (by kernel_rfl) (fun _ _ _ h=>h) (Or.inl ⟨by rfl,fun wS hS=>by go_simp⟩) hH ?_
 simp only [Act.put,zA,zB,zC]
 refine wpAnyH_take (i:=3) (oi:=⟨some 8,.fieldAddr 92 (.tmp 1) 0,_,_,_,none⟩) (v:=.pointer (some ⟨w.heap.size,0,none⟩)) rfl (by kernel_rfl) (by kernel_rfl) (by kernel_rfl) (fun _ _ _ h=>h) (Or.inl ⟨by rfl,fun wS hS=>by go_simp⟩) hH ?_
 simp only [Act.put,zA,zB,zC]
 refine wpAnyH_take (i:=5) (oi:=⟨some 10,.fieldAddr 92 (.tmp 1) 1,_,_,_,none⟩) (v:=.pointer (some ⟨w.heap.size,1,none⟩)) rfl (by kernel_rfl) (by kernel_rfl) (by kernel_rfl) (fun _ _ _ h=>h) (Or.inl ⟨by rfl,fun wS hS=>by go_simp⟩) hH ?_
 simp only [Act.put,zA,zB,zC]
 refine wpAnyH_take (i:=1) (oi:=⟨some 6,.load 3 (.tmp 5),_,_,_,none⟩) (v:=.int .i64 op) rfl (by kernel_rfl) (by kernel_rfl) (by kernel_rfl) (fun _ _ _ h=>h) (Or.inl ⟨by rfl,fun wS hS=>(by have d0:=(Below.cell hS hlt0).trans x0;have d1:=(Below.cell hS hlt1).trans x1;go_simp)⟩) hH ?_
 simp only [Act.put,zA,zB,zC]
 refine wpAnyH_take (i:=4) (oi:=⟨some 9,.load 3 (.tmp 8),_,_,_,none⟩) (v:=.int .i64 op) rfl (by kernel_rfl) (by kernel_rfl) (by kernel_rfl) (fun _ _ _ h=>h) (Or.inl ⟨by rfl,fun wS hS=>(by have d0:=(Below.cell hS hlt0).trans x0;have d1:=(Below.cell hS hlt1).trans x1;go_simp)⟩) hH ?_
 simp only [Act.put,zA,zB,zC]
 refine wpAnyH_take (i:=6) (oi:=⟨some 11,.load 4 (.tmp 10),_,_,_,none⟩) (v:=.bool reg) rfl (by kernel_rfl) (by kernel_rfl) (by kernel_rfl) (fun _ _ _ h=>h) (Or.inl ⟨by rfl,fun wS hS=>(by have d0:=(Below.cell hS hlt0).trans x0;have d1:=(Below.cell hS hlt1).trans x1;go_simp)⟩) hH ?_
 simp only [Act.put,zA,zB,zC]
 refine st_o HF HU ?_ _ hH
 intro kf ku w2 hb2 hkf hku
 have hxx:=(hb2.block _ (lt_of_block hx)).trans hx
 have hH2:Held w2 w.heap.size kf ku op reg dst src off imm f vD vS vO vI:=by
  obtain⟨t,fr,hw⟩:=hwW
  exact⟨hxx,hkf,hku,t,fr,(hb2.block _ (lt_of_block hw)).trans hw⟩
 have hb3:=bch hbW hb2
 clear hxx hkf hku hb2 hH hx x0 x1 hlt0 hlt1 hbW hwW
 go_wp2
 go_ret
 exact⟨_,_,kf,ku,rfl,bch hb3 (bnew _ _),hH2.below (bnew _ _),heap_alloc_last _ _⟩
end Go.Proofs.YtohkgdfkklfgmaaGreatDoor.L4
end
section
set_option maxRecDepth 100000
set_option maxHeartbeats 4000000
namespace Go.Proofs.YtohkgdfkklfgmaaGreatDoor.L4
open Go.RowKit L3 L1
def firstBad:List (Bool × Int)→Int
 | []=>0
 | (b,e)::r=>if b then firstBad r else e
theorem cells14 {w:World} {k:Nat} {a0 a1 a2 a3 a4 a5 a6 a7 a8 a9 a10 a11 a12 a13:Value} {t:TypeId} (h:w.heap[k]?=some (.cells #[a0,a1,a2,a3,a4,a5,a6,a7,a8,a9,a10,a11,a12,a13] t)) :
  w.cell? ⟨k,0,none⟩=some a0∧w.cell? ⟨k,1,none⟩=some a1∧w.cell? ⟨k,2,none⟩=some a2∧w.cell? ⟨k,3,none⟩=some a3∧w.cell? ⟨k,4,none⟩=some a4∧w.cell? ⟨k,5,none⟩=some a5∧w.cell? ⟨k,6,none⟩=some a6 ∧
  w.cell? ⟨k,7,none⟩=some a7∧w.cell? ⟨k,8,none⟩=some a8∧w.cell? ⟨k,9,none⟩=some a9∧w.cell? ⟨k,10,none⟩=some a10∧w.cell? ⟨k,11,none⟩=some a11∧w.cell? ⟨k,12,none⟩=some a12∧w.cell? ⟨k,13,none⟩=some a13:=by
 simp [World.cell?,h]
theorem check_at (op:Int) (reg:Bool) (dst src off imm f R:Int) (vD vS vO vI b1 b2 b3 b4 b5 b6 b7:Bool) (w:World) (hw:Wid w) (hf:frm (ix op)=f) (hD:uD f=vD) (hS:uS f reg=vS) (hO:uO f=vO) (hI:uI f reg=vI)
  (h1:(f != -1)=b1) (h2:(!reg || f==0 || f==4)=b2) (h3:((vD || dst==0) && (vS || src==0))=b3) (h4:((vO || off==0) && (vI || imm==0))=b4) (h5:(isG dst && isG src)=b5) (h6:(sx 16 off==off)=b6) (h7:rng f imm=b7)
  (hR:firstBad [(b1,6),(b2,12),(b3,12),(b4,12),(b5,5),(b6,4),(b7,4)]=R) :
  Calls Tryz.prog 114 #[.agg #[.int .i64 op,.bool reg,.int .i64 dst,.int .i64 src,.int .i64 off,.int .i64 imm]] w fun e w'=>e=.returned (.int .i64 R)∧Below w.heap.size w w':=by
 have HC:=Lib.hid (fun w hw=>conds_at op reg dst src off imm f vD vS vO vI w hf hD hS hO hI hw)
 have H1:=Lib.hid h1
 have H2:=Lib.hid h2
 have H3:=Lib.hid h3
 have H4:=Lib.hid h4
 have H5:=Lib.hid h5
 have H6:=Lib.hid h6
 have H7:=Lib.hid h7
 have HR:=Lib.hid hR
 have HW:=Lib.hid hw
 clear hf hD hS hO hI h1 h2 h3 h4 h5 h6 h7 hR hw
 have wid_new:∀ o,Wid (w.alloc o):=fun o=>by
  obtain⟨t,fr,hw⟩:=HW.out
  exact⟨t,fr,((bnew w o).block _ (lt_of_block hw)).trans hw⟩
 have HN:=Lib.hid wid_new
 clear wid_new HW
 go_enter Tryz.func114,Tryz.ntmps114
 go_wp2_with (first|(go_at_call 149;((with_reducible refine (HC.out _ (HN.out _)).mono ?_);rintro e w1 ⟨g,kx,kf,ku,rfl,hb1,hH,hg⟩)))
 have hb:=bch (bnew w _) hb1
 clear hb1 HN HC
 go_loopw [8] (fun i wr=>∃ k:Nat,k≤7∧i=.int .i64 k∧Below w.heap.size w wr∧Hid (Held wr kx kf ku op reg dst src off imm f vD vS vO vI∧wr.heap[g]?=some (.cells (condC kx kf ku) 206))∧Hid (firstBad (List.drop k [(b1,6),(b2,12),(b3,12),(b4,12),(b5,5),(b6,4),(b7,4)])=R)) (fun i _=>7-(intOf i).toNat)
 case atStart=>exact⟨0,by decide,rfl,hb,Lib.hid ⟨hH,hg⟩,HR⟩
 case round =>
  clear hH hg hb HR
  obtain⟨k,hk,rfl,hb,HG,HR⟩:=hrel
  rename_i wr
  have HN:=Lib.hid (fun o=>HG.out.1.below (bnew wr o))
  have hgl:=lt_of_block HG.out.2
  obtain⟨p0,p1,p2,p3,p4,p5,p6,p7,p8,p9,p10,p11,p12,p13⟩:=cells14 HG.out.2
  rcases (show k=0∨k=1∨k=2∨k=3∨k=4∨k=5∨k=6∨k=7 by omega) with rfl|rfl|rfl|rfl|rfl|rfl|rfl|rfl
  ·clear p2 p3 p4 p5 p6 p7 p8 p9 p10 p11 p12 p13
   cases b1
   ·go_wp2_with (first|(go_at_call 165;((with_reducible refine (c1_at (HN.out _) _ H1.out).mono ?_);rintro e w2 ⟨rfl,rfl⟩)))
    go_ret
    exact⟨by rw [← HR.out] <;> rfl,bch hb (bnew _ _)⟩
   ·go_wp2_with (first|(go_at_call 165;((with_reducible refine (c1_at (HN.out _) _ H1.out).mono ?_);rintro e w2 ⟨rfl,rfl⟩)))
    go_roundw
    case rel=>exact⟨1,by decide,by go_num,bch hb (bnew _ _),Lib.hid ⟨HN.out _,((bnew wr _).block _ hgl).trans HG.out.2⟩,HR⟩
    case measure=>simp [intOf]
  ·clear p0 p1 p4 p5 p6 p7 p8 p9 p10 p11 p12 p13
   cases b2
   ·go_wp2_with (first|(go_at_call 166;((with_reducible refine (c2_at (HN.out _) _ H2.out).mono ?_);rintro e w2 ⟨rfl,rfl⟩)))
    go_ret
    exact⟨by rw [← HR.out] <;> rfl,bch hb (bnew _ _)⟩
   ·go_wp2_with (first|(go_at_call 166;((with_reducible refine (c2_at (HN.out _) _ H2.out).mono ?_);rintro e w2 ⟨rfl,rfl⟩)))
    go_roundw
    case rel=>exact⟨2,by decide,by go_num,bch hb (bnew _ _),Lib.hid ⟨HN.out _,((bnew wr _).block _ hgl).trans HG.out.2⟩,HR⟩
    case measure=>simp [intOf]
  ·clear p0 p1 p2 p3 p6 p7 p8 p9 p10 p11 p12 p13
   cases b3
   ·go_wp2_with (first|(go_at_call 167;((with_reducible refine (c3_at (HN.out _) _ H3.out).mono ?_);rintro e w2 ⟨rfl,rfl⟩)))
    go_ret
    exact⟨by rw [← HR.out] <;> rfl,bch hb (bnew _ _)⟩
   ·go_wp2_with (first|(go_at_call 167;((with_reducible refine (c3_at (HN.out _) _ H3.out).mono ?_);rintro e w2 ⟨rfl,rfl⟩)))
    go_roundw
    case rel=>exact⟨3,by decide,by go_num,bch hb (bnew _ _),Lib.hid ⟨HN.out _,((bnew wr _).block _ hgl).trans HG.out.2⟩,HR⟩
    case measure=>simp [intOf]
  ·clear p0 p1 p2 p3 p4 p5 p8 p9 p10 p11 p12 p13
   cases b4
   ·go_wp2_with (first|(go_at_call 169;((with_reducible refine (c4_at (HN.out _) _ H4.out).mono ?_);rintro e w2 ⟨rfl,rfl⟩)))
    go_ret
    exact⟨by rw [← HR.out] <;> rfl,bch hb (bnew _ _)⟩
   ·go_wp2_with (first|(go_at_call 169;((with_reducible refine (c4_at (HN.out _) _ H4.out).mono ?_);rintro e w2 ⟨rfl,rfl⟩)))
    go_roundw
    case rel=>exact⟨4,by decide,by go_num,bch hb (bnew _ _),Lib.hid ⟨HN.out _,((bnew wr _).block _ hgl).trans HG.out.2⟩,HR⟩
    case measure=>simp [intOf]
  ·clear p0 p1 p2 p3 p4 p5 p6 p7 p10 p11 p12 p13
   cases b5
   ·go_wp2_with (first|(go_at_call 170;((with_reducible refine (c5_at (HN.out _) _ H5.out).mono ?_);rintro e w2 ⟨rfl,rfl⟩)))
    go_ret
    exact⟨by rw [← HR.out] <;> rfl,bch hb (bnew _ _)⟩
   ·go_wp2_with (first|(go_at_call 170;((with_reducible refine (c5_at (HN.out _) _ H5.out).mono ?_);rintro e w2 ⟨rfl,rfl⟩)))
    go_roundw
    case rel=>exact⟨5,by decide,by go_num,bch hb (bnew _ _),Lib.hid ⟨HN.out _,((bnew wr _).block _ hgl).trans HG.out.2⟩,HR⟩
    case measure=>simp [intOf]
  ·clear p0 p1 p2 p3 p4 p5 p6 p7 p8 p9 p12 p13
   cases b6
   ·go_wp2_with (first|(go_at_call 172;((with_reducible refine (c6_at (HN.out _) _ H6.out).mono ?_);rintro e w2 ⟨rfl,rfl⟩)))
    go_ret
    exact⟨by rw [← HR.out] <;> rfl,bch hb (bnew _ _)⟩
   ·go_wp2_with (first|(go_at_call 172;((with_reducible refine (c6_at (HN.out _) _ H6.out).mono ?_);rintro e w2 ⟨rfl,rfl⟩)))
    go_roundw
    case rel=>exact⟨6,by decide,by go_num,bch hb (bnew _ _),Lib.hid ⟨HN.out _,((bnew wr _).block _ hgl).trans HG.out.2⟩,HR⟩
    case measure=>simp [intOf]
  ·clear p0 p1 p2 p3 p4 p5 p6 p7 p8 p9 p10 p11
   cases b7
   ·go_wp2_with (first|(go_at_call 173;((with_reducible refine (c7_at (HN.out _) _ H7.out).mono ?_);rintro e w2 ⟨rfl,rfl⟩)))
    go_ret
    exact⟨by rw [← HR.out] <;> rfl,bch hb (bnew _ _)⟩
   ·go_wp2_with (first|(go_at_call 173;((with_reducible refine (c7_at (HN.out _) _ H7.out).mono ?_);rintro e w2 ⟨rfl,rfl⟩)))
    go_roundw
    case rel=>exact⟨7,by decide,by go_num,bch hb (bnew _ _),Lib.hid ⟨HN.out _,((bnew wr _).block _ hgl).trans HG.out.2⟩,HR⟩
    case measure=>simp [intOf]
  ·clear p0 p1 p2 p3 p4 p5 p6 p7 p8 p9 p10 p11 p12 p13
   go_wp2
   go_ret
   exact⟨by rw [← HR.out] <;> rfl,hb⟩
end Go.Proofs.YtohkgdfkklfgmaaGreatDoor.L4
end
section
namespace Go.Proofs.YtohkgdfkklfgmaaGreatDoor.L4
open Go.RowKit L3 L1
def chkF (f:Int) (reg:Bool) (dst src off imm:Int):Int :=
 firstBad [(f != -1,6),(!reg || f==0 || f==4,12),((uD f || dst==0) && (uS f reg || src==0),12),((uO f || off==0) && (uI f reg || imm==0),12),(isG dst && isG src,5),(sx 16 off==off,4),(rng f imm,4)]
theorem check_is (op:Int) (reg:Bool) (dst src off imm f R:Int) (w:World) (hw:Wid w) (hf:frm (ix op)=f) (hR:chkF f reg dst src off imm=R) :
  Calls Tryz.prog 114 #[.agg #[.int .i64 op,.bool reg,.int .i64 dst,.int .i64 src,.int .i64 off,.int .i64 imm]] w fun e w'=>e=.returned (.int .i64 R)∧Below w.heap.size w w' :=
 check_at op reg dst src off imm f R _ _ _ _ _ _ _ _ _ _ _ w hw hf rfl rfl rfl rfl rfl rfl rfl rfl rfl rfl rfl hR
theorem wid_below {w w':World} (h:Wid w) (hb:Below w.heap.size w w'):Wid w':=by
 obtain⟨t,fr,hw⟩:=h
 exact⟨t,fr,(hb.block _ (lt_of_block hw)).trans hw⟩
structure Three (w:World) (k1 k2 k3:Nat):Prop where
 a:w.heap[k1]?=some (.cells #[.int .i64 0,.bool true,.int .i64 1,.int .i64 2,.int .i64 0,.int .i64 0] 92)
 b:w.heap[k2]?=some (.cells #[.int .i64 0,.bool true,.int .i64 1,.int .i64 2,.int .i64 0,.int .i64 5] 92)
 c:w.heap[k3]?=some (.cells #[.int .i64 0,.bool true,.int .i64 1,.int .i64 11,.int .i64 0,.int .i64 0] 92)
 wid:Wid w
theorem Three.below {w w':World} {k1 k2 k3:Nat} (h:Three w k1 k2 k3) (hb:Below w.heap.size w w'):Three w' k1 k2 k3 :=
 ⟨(hb.block _ (lt_of_block h.a)).trans h.a,(hb.block _ (lt_of_block h.b)).trans h.b,(hb.block _ (lt_of_block h.c)).trans h.c,wid_below h.wid hb⟩
theorem Three.cells {w:World} {k1 k2 k3:Nat} (h:Three w k1 k2 k3) :
  (w.cell? ⟨k1,0,none⟩=some (.int .i64 0)∧w.cell? ⟨k1,1,none⟩=some (.bool true)∧w.cell? ⟨k1,2,none⟩=some (.int .i64 1)∧w.cell? ⟨k1,3,none⟩=some (.int .i64 2)∧w.cell? ⟨k1,4,none⟩=some (.int .i64 0)∧w.cell? ⟨k1,5,none⟩=some (.int .i64 0)) ∧
  (w.cell? ⟨k2,0,none⟩=some (.int .i64 0)∧w.cell? ⟨k2,1,none⟩=some (.bool true)∧w.cell? ⟨k2,2,none⟩=some (.int .i64 1)∧w.cell? ⟨k2,3,none⟩=some (.int .i64 2)∧w.cell? ⟨k2,4,none⟩=some (.int .i64 0)∧w.cell? ⟨k2,5,none⟩=some (.int .i64 5)) ∧
  (w.cell? ⟨k3,0,none⟩=some (.int .i64 0)∧w.cell? ⟨k3,1,none⟩=some (.bool true)∧w.cell? ⟨k3,2,none⟩=some (.int .i64 1)∧w.cell? ⟨k3,3,none⟩=some (.int .i64 11)∧w.cell? ⟨k3,4,none⟩=some (.int .i64 0)∧w.cell? ⟨k3,5,none⟩=some (.int .i64 0)) :=
 ⟨cells6 h.a,cells6 h.b,cells6 h.c⟩
end Go.Proofs.YtohkgdfkklfgmaaGreatDoor.L4
end
