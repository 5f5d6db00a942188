/- AsmSame: for all pairs of objects, the law 'Same says whether two objects are the same' returns true, and its arguments read as before. Condition: the listed variables read as the program's text lays them (tied by the card). -/
import Derived.Test.YtgljoilddjmohaaGreatDoorL13Ls
import Derived.Test.YtgljoilddjmohaaGreatDoorL13Op
import Derived.Test.YtgljoilddjmohaaGreatDoorM35
import Derived.Test.YtgljoilddjmohaaGreatDoorCards
import Derived.Test.YtgljoilddjmohaaGreatDoorTie
import Derived.SevenTiedAt
set_option maxRecDepth 100000
set_option maxHeartbeats 4000000
namespace Go.Proofs.YtgljoilddjmohaaGreatDoor
open Go.ChangeShapes Go.WideShapes Go.ChangeAt Go.RowKit
theorem sam_walk (w:World) (m0 c0 t0:Value) (o0:L13.Ob) (ho0:L13.ObAt w m0 c0 t0 o0) (hc0:o0.code.length≤maxLen) (hr0:o0.maps.length≤8796093022208∧o0.rels.length≤8796093022208) (m1 c1 t1:Value) (o1:L13.Ob) (ho1:L13.ObAt w m1 c1 t1 o1) (hc1:o1.code.length≤maxLen) (hr1:o1.maps.length≤8796093022208∧o1.rels.length≤8796093022208) (hT:L13.T13 w):Calls Tryz.prog 7 #[.agg #[m0,c0,t0],.agg #[m1,c1,t1]] w fun e w'=>e=.returned (.bool true)∧Below w.heap.size w w' :=
 L13.asame_walk m0 c0 t0 m1 c1 t1 o0 o1 w hT ho0 ho1 hc0 hc1 hr0 hr1
theorem sam_lifted (os:Os) (started:os.Started) (H:Type) (enc:TypeId × Value→H) :
  ReturnsInHanded {} Tryz.checked os 7 .any (fun w args=>(Rows.asmSameSpec.pre enc Tryz.prog Tryz.f7 [] false w args∧laidMetH Tryz.prog laid2 w)∧sizedMet enc Tryz.prog Tryz.f7 (OpenSpec.ofChange Rows.asmSameSpec) false w args)
   (Rows.asmSameSpec.post enc Tryz.prog Tryz.f7 false true false false):=by
 refine returns_shaped_and (C:=Tryz.checked) (X:=fun w _=>laidMetH Tryz.prog laid2 w) (fun _ _ _ hh h=>h.of_heap hh) own started (by kernel_rfl) Tryz.func7
  (ChangeSpec.witness_shaped (enc:=enc) (C:=Tryz.checked) (os:=os) (X:=fun w _=>laidMetH Tryz.prog laid2 w) false (World.doorLaid Tryz.prog 4000 os) #[.agg #[.slice none 0 0,.slice none 0 0,.slice none 0 0],.agg #[.slice none 0 0,.slice none 0 0,.slice none 0 0]] 8 rfl (World.shaped_of_RefB (by kernel_rfl) (by kernel_rfl)) (by kernel_rfl) (by kernel_rfl) (by kernel_rfl) (door_met2 os _)) ?_
 intro W base args ds gs before hval0 hW hwt hL hsh
 have hval:∀ (j:Nat) t v,Tryz.f7.params[j]?=some t→args[j]?=some v→Value.okWide Tryz.prog W .any base t v:=hval0
 have hW':=hW
 obtain⟨p,q,hA0,hV,rfl,hfz,hnd⟩:=hW
 have hA:DataW.TrodAll enc Tryz.prog W 0 (fun _=>true) true Tryz.f7.params.toList args.toList ds p:=hA0
 rw [Tryz.params7] at hA hval hwt
 obtain⟨v0,vs0,d0,ds0,p0,q0,hargs,rfl,rfl,h0,r0⟩:=trodAll_cons hA
 obtain⟨v1,vs1,d1,ds1,p1,q1,rfl,rfl,rfl,h1,r1⟩:=trodAll_cons r0
 obtain⟨rfl,rfl,rfl⟩:=trodAll_nil r1
 obtain rfl:args=#[v0,v1]:=by cases args;simp_all
 obtain⟨rfl,rfl⟩:=trodVars_none hV
 have k0:=h0
 obtain⟨m0,c0,t0,o0,rfl,ho0,hc0,hr0⟩:=L13.open_obv (hval 0 38 v0 rfl rfl) h0
 have hw0:L10.Wt 38 d0:=fun n hn=>by simpa using List.all_eq_true.1 hwt n (List.mem_append_left _ hn)
 have k1:=h1
 obtain⟨m1,c1,t1,o1,rfl,ho1,hc1,hr1⟩:=L13.open_obv (hval 1 38 v1 rfl rfl) h1
 have hw1:L10.Wt 38 d1:=fun n hn=>by simpa using List.all_eq_true.1 hwt n (List.mem_append_right _ (List.mem_append_left _ hn))
 clear hA0 hval0
 simp only [List.append_nil] at hW'
 have l0:∀ x∈p0,x.block<W.heap.size:=fun x hx=>by simpa using hW'.lt x (by simp [hx])
 have l1:∀ x∈p1,x.block<W.heap.size:=fun x hx=>by simpa using hW'.lt x (by simp [hx])
 refine (sam_walk W m0 c0 t0 o0 ho0 hc0 (hr0 hw0) m1 c1 t1 o1 ho1 hc1 (hr1 hw1) (tabs_of2 hL hsh)).mono fun e W' ⟨he,hg⟩=>?_
 subst he
 have hTA:DataW.TrodAll enc Tryz.prog W' 0 (fun b=>decide (b<W.heap.size)) true [38,38] [.agg #[m0,c0,t0],.agg #[m1,c1,t1]] [d0,d1] (p0++p1):=by
  simpa only [List.append_nil,List.nil_append] using (trodAll_cons_mk (Below.trod laidOut (by kernel_rfl) (of_decide_eq_true (by kernel_rfl)) k0 hg l0) (trodAll_cons_mk (Below.trod laidOut (by kernel_rfl) (of_decide_eq_true (by kernel_rfl)) k1 hg l1) trodAll_mk0))
 exact⟨_,rfl,law_post_at hW' rfl rfl Tryz.underlying4 rfl hTA hg⟩
theorem sam_said:Rows.AsmSameSaid :=
 OpenClaim.holds_of_wide 7 Tryz.f7 rfl rfl rfl rfl rfl rfl rfl ⟨rfl,rfl,rfl,rfl,rfl⟩ rfl rfl rfl rfl rfl (by kernel_rfl) Tryz.func7 (by kernel_rfl)
  (of_decide_eq_true (by kernel_rfl)) (by unfold Func.isWrapper;first|(rw [if_pos (by decide +kernel)];kernel_rfl)|(rw [if_neg (by decide +kernel)];exact⟨rfl,rfl⟩))
  (fun os started H enc _=>sam_lifted os started H enc)
theorem sam_card:Rows.AsmSameCardSaid :=
 Claim7.holds_tied_plain_at .later [] [.data,.data] true (true, "72a05a26c9a718e84abf88ea120e425311ddcec2ef3eece1065559a5aba4dce9") true
  sam_said (fun _ h=>by cases h) (by kernel_rfl) (fun _ h=>by cases h) asmSame_row_tie rfl ⟨rfl,rfl⟩ (by kernel_rfl) rfl
  (fun f fn hf hfn=>by
   obtain rfl:f=7:=Option.some.inj ((show Tryz.prog.funcNamed "slotcode/slotcodelaw13.AsmSame"=some 7 by kernel_rfl).symm.trans hf) |>.symm
   obtain rfl:fn=Tryz.f7:=(Option.some.inj (Tryz.func7.symm.trans hfn)).symm
   exact⟨by kernel_rfl,fun j t ht=>by
    rw [Tryz.params7] at ht
    have hm:t∈[38,38]:=by simpa using Array.mem_of_getElem? ht
    have hall:([38,38].all fun u=>!Tryz.prog.wantsStandIn u)=true:=by kernel_rfl
    exact (show Tryz.prog.wantsStandIn t=false by simpa using List.all_eq_true.1 hall t hm)⟩)
  (by kernel_rfl)
#print axioms sam_card
end Go.Proofs.YtgljoilddjmohaaGreatDoor
