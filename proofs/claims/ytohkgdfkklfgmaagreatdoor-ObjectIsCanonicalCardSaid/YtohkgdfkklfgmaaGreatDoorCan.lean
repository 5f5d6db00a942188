/- ObjectIsCanonical: for all bytes, the law 'bytes that are parsed are those of the result' returns true, and its arguments read as before. Condition: the listed variables read as the program's text lays them (tied by the card). -/
import Derived.Test.YtohkgdfkklfgmaaGreatDoorL16Ld
import Derived.Test.YtohkgdfkklfgmaaGreatDoorL16Law
import Derived.Test.YtohkgdfkklfgmaaGreatDoorCards
import Derived.Test.YtohkgdfkklfgmaaGreatDoorTie
import Derived.SevenTiedAt
set_option maxRecDepth 100000
set_option maxHeartbeats 4000000
namespace Go.Proofs.YtohkgdfkklfgmaaGreatDoor
open Go.ChangeShapes Go.WideShapes Go.ChangeAt Go.RowKit
theorem can_walk (w:World) (x0:Value) (g0:List UInt8) (hp0:L14.Rw L14.eB w x0 g0) (hT:L16.Tb w):Calls Tryz.prog 6 #[x0] w fun e w'=>e=.returned (.bool true)∧Below w.heap.size w w' :=
 L16.canonical_walk _ g0 w hp0 hT
theorem can_lifted (os:Os) (started:os.Started) (H:Type) (enc:TypeId × Value→H) :
  ReturnsInHanded {} Tryz.checked os 6 .any (fun w args=>(Rows.objectIsCanonicalSpec.pre enc Tryz.prog Tryz.f6 [] false w args∧laidMetH Tryz.prog laid2 w)∧sizedMet enc Tryz.prog Tryz.f6 (OpenSpec.ofChange Rows.objectIsCanonicalSpec) false w args)
   (Rows.objectIsCanonicalSpec.post enc Tryz.prog Tryz.f6 false true false false):=by
 refine returns_shaped_and (C:=Tryz.checked) (X:=fun w _=>laidMetH Tryz.prog laid2 w) (fun _ _ _ hh h=>h.of_heap hh) own started (by kernel_rfl) Tryz.func6
  (ChangeSpec.witness_shaped (enc:=enc) (C:=Tryz.checked) (os:=os) (X:=fun w _=>laidMetH Tryz.prog laid2 w) false (World.doorLaid Tryz.prog 4000 os) #[.slice none 0 0] 8 rfl (World.shaped_of_RefB (by kernel_rfl) (by kernel_rfl)) (by kernel_rfl) (by kernel_rfl) (by kernel_rfl) (door_met2 os _)) ?_
 intro W base args ds gs before hval0 hW hwt hL hsh
 have hval:∀ (j:Nat) t v,Tryz.f6.params[j]?=some t→args[j]?=some v→Value.okWide Tryz.prog W .any base t v:=hval0
 have hW':=hW
 obtain⟨p,q,hA0,hV,rfl,hfz,hnd⟩:=hW
 have hA:DataW.TrodAll enc Tryz.prog W 0 (fun _=>true) true Tryz.f6.params.toList args.toList ds p:=hA0
 rw [Tryz.params6] at hA hval hwt
 obtain⟨v0,vs0,d0,ds0,p0,q0,hargs,rfl,rfl,h0,r0⟩:=trodAll_cons hA
 obtain⟨rfl,rfl,rfl⟩:=trodAll_nil r0
 obtain rfl:args=#[v0]:=by cases args;simp_all
 obtain⟨rfl,rfl⟩:=trodVars_none hV
 have k0:=h0
 obtain⟨g0,hp0⟩:=L14.open_bs (hval 0 23 v0 rfl rfl) h0
 have hw0:L10.Wt 23 d0:=fun n hn=>by simpa using List.all_eq_true.1 hwt n (List.mem_append_left _ hn)
 clear hA0 hval0
 simp only [List.append_nil] at hW'
 have l0:∀ x∈p0,x.block<W.heap.size:=fun x hx=>by simpa using hW'.lt x (by simp [hx])
 refine (can_walk W v0 g0 hp0 (tabs_of2 hL)).mono fun e W' ⟨he,hg⟩=>?_
 subst he
 have hTA:DataW.TrodAll enc Tryz.prog W' 0 (fun b=>decide (b<W.heap.size)) true [23] [v0] [d0] (p0):=by
  simpa only [List.append_nil,List.nil_append] using (trodAll_cons_mk (Below.trod laidOut (by kernel_rfl) (of_decide_eq_true (by kernel_rfl)) k0 hg l0) trodAll_mk0)
 exact⟨_,rfl,law_post_at hW' rfl rfl Tryz.underlying4 rfl hTA hg⟩
theorem can_said:Rows.ObjectIsCanonicalSaid :=
 OpenClaim.holds_of_wide 6 Tryz.f6 rfl rfl rfl rfl rfl rfl rfl ⟨rfl,rfl,rfl,rfl,rfl⟩ rfl rfl rfl rfl rfl (by kernel_rfl) Tryz.func6 (by kernel_rfl)
  (of_decide_eq_true (by kernel_rfl)) (by unfold Func.isWrapper;first|(rw [if_pos (by decide +kernel)];kernel_rfl)|(rw [if_neg (by decide +kernel)];exact⟨rfl,rfl⟩))
  (fun os started H enc _=>can_lifted os started H enc)
theorem can_card:Rows.ObjectIsCanonicalCardSaid :=
 Claim7.holds_tied_plain_at .later [] [.data,.data] true (true, "42d7973af44d1df20a3a4a26caffc128f91ffd9c27999185967f060ce604dfc8") false
  can_said (fun _ h=>by cases h) (by kernel_rfl) (fun _ h=>by cases h) objectIsCanonical_row_tie rfl ⟨rfl,rfl⟩ (by kernel_rfl) rfl
  (fun f fn hf hfn=>by
   obtain rfl:f=6:=Option.some.inj ((show Tryz.prog.funcNamed "slotcode/slotcodelaw16.ObjectIsCanonical"=some 6 by kernel_rfl).symm.trans hf) |>.symm
   obtain rfl:fn=Tryz.f6:=(Option.some.inj (Tryz.func6.symm.trans hfn)).symm
   exact⟨by kernel_rfl,fun j t ht=>by
    rw [Tryz.params6] at ht
    have hm:t∈[23]:=by simpa using Array.mem_of_getElem? ht
    have hall:([23].all fun u=>!Tryz.prog.wantsStandIn u)=true:=by kernel_rfl
    exact (show Tryz.prog.wantsStandIn t=false by simpa using List.all_eq_true.1 hall t hm)⟩)
  (by kernel_rfl)
#print axioms can_card
end Go.Proofs.YtohkgdfkklfgmaaGreatDoor
