/- ValidBytes: for all bytes, the law 'Bytes returns the slot and the error of the reference' returns true, and its arguments read as before. Condition: the listed variables read as the program's text lays them (tied by the card). -/
import Derived.Test.YtihiggnglmhggaaGreatDoorCards
import Derived.Test.YtihiggnglmhggaaGreatDoorTie
import Derived.Test.YtihiggnglmhggaaGreatDoorMQByt
set_option maxRecDepth 100000
set_option maxHeartbeats 4000000
namespace Go.Proofs.YtihiggnglmhggaaGreatDoor
open Go.ChangeShapes Go.WideShapes Go.ChangeAt Go.RowKit
theorem byt_walk (w:World) (x0:Value) (g0:List UInt8) (hp0:L14.Rw L14.eB w x0 g0) (hT:L16.Tb w):Calls Tryz.prog 4 #[x0] w fun e w'=>e=.returned (.bool true)∧Below w.heap.size w w' :=
 L17.bytes_walk _ g0 w hp0 hT
theorem byt_lifted (os:Os) (started:os.Started) (H:Type) (enc:TypeId × Value→H) :
  ReturnsInHanded {} Tryz.checked os 4 .any (fun w args=>(Rows.validBytesSpec.pre enc Tryz.prog Tryz.f4 [] false w args∧laidMetH Tryz.prog laid2 w)∧sizedMet enc Tryz.prog Tryz.f4 (OpenSpec.ofChange Rows.validBytesSpec) false w args)
   (Rows.validBytesSpec.post enc Tryz.prog Tryz.f4 false true false false):=by
 refine returns_shaped_and (C:=Tryz.checked) (X:=fun w _=>laidMetH Tryz.prog laid2 w) (fun _ _ _ hh h=>h.of_heap hh) own started (by kernel_rfl) Tryz.func4
  (ChangeSpec.witness_shaped (enc:=enc) (C:=Tryz.checked) (os:=os) (X:=fun w _=>laidMetH Tryz.prog laid2 w) false (World.doorLaid Tryz.prog 4000 os) #[.slice none 0 0] 8 rfl (World.shaped_of_RefB (by kernel_rfl) (by kernel_rfl)) (by kernel_rfl) (by kernel_rfl) (by kernel_rfl) (door_met2 os _)) ?_
 intro W base args ds gs before hval0 hW hwt hL hsh
 have hval:∀ (j:Nat) t v,Tryz.f4.params[j]?=some t→args[j]?=some v→Value.okWide Tryz.prog W .any base t v:=hval0
 have hW':=hW
 obtain⟨p,q,hA0,hV,rfl,hfz,hnd⟩:=hW
 have hA:DataW.TrodAll enc Tryz.prog W 0 (fun _=>true) true Tryz.f4.params.toList args.toList ds p:=hA0
 rw [Tryz.params4] at hA hval hwt
 obtain⟨v0,vs0,d0,ds0,p0,q0,hargs,rfl,rfl,h0,r0⟩:=trodAll_cons hA
 obtain⟨rfl,rfl,rfl⟩:=trodAll_nil r0
 obtain rfl:args=#[v0]:=by cases args;simp_all
 obtain⟨rfl,rfl⟩:=trodVars_none hV
 have k0:=h0
 obtain⟨g0,hp0⟩:=L14.open_bs (hval 0 23 v0 rfl rfl) h0
 have hw0:L10.Wt 23 d0:=fun n hn=>by simpa using List.all_eq_true.1 hwt n (List.mem_append_left _ hn)
 clear hA0 hval0
 simp only [List.append_nil] at hW'
 have l0:∀ x∈p0,x.block<W.heap.size:=fun x hx=>by simpa using hW'.lt x (by simp [hx])
 refine (byt_walk W v0 g0 hp0 (tabs_of2 hL)).mono fun e W' ⟨he,hg⟩=>?_
 subst he
 have hTA:DataW.TrodAll enc Tryz.prog W' 0 (fun b=>decide (b<W.heap.size)) true [23] [v0] [d0] (p0):=by
  simpa only [List.append_nil,List.nil_append] using (trodAll_cons_mk (Below.trod laidOut (by kernel_rfl) (of_decide_eq_true (by kernel_rfl)) k0 hg l0) trodAll_mk0)
 exact⟨_,rfl,law_post_at hW' rfl rfl Tryz.underlying4 rfl hTA hg⟩
theorem byt_said:Rows.ValidBytesSaid :=
 OpenClaim.holds_of_wide 4 Tryz.f4 rfl rfl rfl rfl rfl rfl rfl ⟨rfl,rfl,rfl,rfl,rfl⟩ rfl rfl rfl rfl rfl (by kernel_rfl) Tryz.func4 (by kernel_rfl)
  (of_decide_eq_true (by kernel_rfl)) (by unfold Func.isWrapper;first|(rw [if_pos (by decide +kernel)];kernel_rfl)|(rw [if_neg (by decide +kernel)];exact⟨rfl,rfl⟩))
  (fun os started H enc _=>byt_lifted os started H enc)
theorem byt_card:Rows.ValidBytesCardSaid :=
 Claim7.holds_tied_plain_at .later [] [.data,.data] true (true, "a0fc58a5203a16e288cc2be7bf54ab12de23e3f81823125fd42458e08f63e28d") false
  byt_said (fun _ h=>by cases h) (by kernel_rfl) (fun _ h=>by cases h) validBytes_row_tie rfl ⟨rfl,rfl⟩ (by kernel_rfl) rfl
  (fun f fn hf hfn=>by
   obtain rfl:f=4:=Option.some.inj ((show Tryz.prog.funcNamed "slotcode/slotcodelaw17.ValidBytes"=some 4 by kernel_rfl).symm.trans hf) |>.symm
   obtain rfl:fn=Tryz.f4:=(Option.some.inj (Tryz.func4.symm.trans hfn)).symm
   exact⟨by kernel_rfl,fun j t ht=>by
    rw [Tryz.params4] at ht
    have hm:t∈[23]:=by simpa using Array.mem_of_getElem? ht
    have hall:([23].all fun u=>!Tryz.prog.wantsStandIn u)=true:=by kernel_rfl
    exact (show Tryz.prog.wantsStandIn t=false by simpa using List.all_eq_true.1 hall t hm)⟩)
  (by kernel_rfl)
#print axioms byt_card
end Go.Proofs.YtihiggnglmhggaaGreatDoor
