/- LoadSame: for every two images, the law 'Same reports whether maps and instructions are the same' returns true, and its arguments read as before: the row and the card. Condition: the listed variables read as the program's text lays them (tied by the card). -/
import Derived.Test.YtdgnjhhieemcaaaGreatDoorMQSam
set_option maxRecDepth 100000
set_option maxHeartbeats 4000000
namespace Go.Proofs.YtdgnjhhieemcaaaGreatDoor
open Go.ChangeShapes Go.WideShapes Go.ChangeAt Go.RowKit
theorem sam_said:Rows.LoadSameSaid :=
 OpenClaim.holds_of_wide 7 Tryz.f7 rfl rfl rfl rfl rfl rfl rfl ⟨rfl,rfl,rfl,rfl,rfl⟩ rfl rfl rfl rfl rfl (by kernel_rfl) Tryz.func7 (by
   unfold joinedFacts
   iterate 20 refine (Bool.and_eq_true _ _).mpr ⟨?_,by as_aux_lemma=>kernel_rfl⟩
   as_aux_lemma=>kernel_rfl)
  (of_decide_eq_true (by kernel_rfl)) (by unfold Func.isWrapper;first|(rw [if_pos (by decide +kernel)];kernel_rfl)|(rw [if_neg (by decide +kernel)];exact⟨rfl,rfl⟩))
  (fun os started H enc _=>sam_lifted os started H enc)
theorem sam_card:Rows.LoadSameCardSaid :=
 Claim7.holds_tied_plain_at .later [] [.data,.data] true (true, "1948ad5c3172c6415f3f835ee057812db8b40dbfff205f0df3140f5eaf1b8acf") true
  sam_said (fun _ h=>by cases h) (by kernel_rfl) (fun _ h=>by cases h) loadSame_row_tie rfl ⟨rfl,rfl⟩ (by kernel_rfl) rfl
  (fun f fn hf hfn=>by
   obtain rfl:f=7:=Option.some.inj ((show Tryz.prog.funcNamed "slotcode/slotcodelaw18.LoadSame"=some 7 by kernel_rfl).symm.trans hf) |>.symm
   obtain rfl:fn=Tryz.f7:=(Option.some.inj (Tryz.func7.symm.trans hfn)).symm
   exact⟨by kernel_rfl,fun j t ht=>by
    rw [Tryz.params7] at ht
    have hm:t∈[29,29,54]:=by simpa using Array.mem_of_getElem? ht
    have hall:([29,29,54].all fun u=>!Tryz.prog.wantsStandIn u)=true:=by kernel_rfl
    exact (show Tryz.prog.wantsStandIn t=false by simpa using List.all_eq_true.1 hall t hm)⟩)
  (by kernel_rfl)
#print axioms sam_card
end Go.Proofs.YtdgnjhhieemcaaaGreatDoor
