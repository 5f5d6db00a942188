/- Lemmas and walks of L4Small, L4Conds: what each theorem states; conditions stand in each theorem. -/
import Derived.Test.YtihiggnglmhggaaGreatDoorM10
import Derived.Test.YtihiggnglmhggaaGreatDoorM3
set_option maxHeartbeats 4000000
set_option maxRecDepth 100000
section
namespace Go.Proofs.YtihiggnglmhggaaGreatDoor.L4
open Go.RowKit L3
abbrev insA (op:Int) (reg:Bool) (dst src off imm:Int):Array Value:=#[.int .i64 op,.bool reg,.int .i64 dst,.int .i64 src,.int .i64 off,.int .i64 imm]
theorem slots_at (op f v:Int) (w:World) (hf:frm (ix op)=f) (hv:slo f=v):Calls Tryz.prog 42 #[.int .i64 op] w fun e w'=>e=.returned (.int .i64 v)∧Below w.heap.size w w':=by
 subst hv
 have hF:=frm_isF op
 rw [hf] at hF
 rcases hF with rfl|rfl|rfl|rfl|rfl|rfl|rfl|rfl|rfl|rfl|rfl|rfl|rfl
 all_goals
  have HF:=Lib.hid hf
  clear hf
  go_enter Tryz.func42,Tryz.ntmps42
  go_wp2_with (first|(go_at_call 80;((with_reducible refine (form_at op _ _ HF.out).mono ?_);rintro e w1 ⟨rfl,hb1⟩)))
  go_ret
  exact⟨rfl,hb1⟩
theorem writes_at (op:Int) (reg:Bool) (dst src off imm f v:Int) (w:World) (hf:frm (ix op)=f) (hv:wri f dst=v):Calls Tryz.prog 101 #[.agg #[.int .i64 op,.bool reg,.int .i64 dst,.int .i64 src,.int .i64 off,.int .i64 imm]] w fun e w'=>e=.returned (.int .i64 v)∧Below w.heap.size w w':=by
 have hF:=frm_isF op
 rw [hf] at hF
 rcases hF with rfl|rfl|rfl|rfl|rfl|rfl|rfl|rfl|rfl|rfl|rfl|rfl|rfl
 all_goals
  have HF:=Lib.hid hf
  simp [wri] at hv
  subst hv
  clear hf
  go_enter Tryz.func101,Tryz.ntmps101
  go_wp2_with (first|(go_at_call 80;((with_reducible refine (form_at op _ _ HF.out).mono ?_);rintro e w1 ⟨rfl,hb1⟩;have c2:=(hb1.cell (p:=⟨w.heap.size,2,none⟩) (by simp)).trans (World.cell?_alloc_at _ _ _ _ rfl))))
  go_ret
  exact⟨rfl,bch (bnew _ _) hb1⟩
def endF (f:Int):Bool:=f==3 || f==6
def jmpF (f:Int):Bool:=f==3 || f==4
theorem ends_at (op:Int) (reg:Bool) (dst src off imm f:Int) (v:Bool) (w:World) (hf:frm (ix op)=f) (hv:endF f=v):Calls Tryz.prog 103 #[.agg #[.int .i64 op,.bool reg,.int .i64 dst,.int .i64 src,.int .i64 off,.int .i64 imm]] w fun e w'=>e=.returned (.bool v)∧Below w.heap.size w w':=by
 subst hv
 have hF:=frm_isF op
 rw [hf] at hF
 rcases hF with rfl|rfl|rfl|rfl|rfl|rfl|rfl|rfl|rfl|rfl|rfl|rfl|rfl
 all_goals
  have HF:=Lib.hid hf
  clear hf
  go_enter Tryz.func103,Tryz.ntmps103
  go_wp2_with (first|(go_at_call 80;((with_reducible refine (form_at op _ _ HF.out).mono ?_);rintro e w1 ⟨rfl,hb1⟩)))
  go_ret
  exact⟨rfl,bch (bnew _ _) hb1⟩
theorem jumps_at (op:Int) (reg:Bool) (dst src off imm f:Int) (v:Bool) (w:World) (hf:frm (ix op)=f) (hv:jmpF f=v):Calls Tryz.prog 40 #[.agg #[.int .i64 op,.bool reg,.int .i64 dst,.int .i64 src,.int .i64 off,.int .i64 imm]] w fun e w'=>e=.returned (.bool v)∧Below w.heap.size w w':=by
 subst hv
 have hF:=frm_isF op
 rw [hf] at hF
 rcases hF with rfl|rfl|rfl|rfl|rfl|rfl|rfl|rfl|rfl|rfl|rfl|rfl|rfl
 all_goals
  have HF:=Lib.hid hf
  clear hf
  go_enter Tryz.func40,Tryz.ntmps40
  go_wp2_with (first|(go_at_call 80;((with_reducible refine (form_at op _ _ HF.out).mono ?_);rintro e w1 ⟨rfl,hb1⟩)))
  go_ret
  exact⟨rfl,bch (bnew _ _) hb1⟩
theorem rslots_at (op f v:Int) (w:World) (hf:frm (ix op)=f) (hv:slo f=v):Calls Tryz.prog 50 #[.int .i64 op] w fun e w'=>e=.returned (.int .i64 v)∧w=w':=by
 subst hv
 have hF:=frm_isF op
 rw [hf] at hF
 rcases hF with rfl|rfl|rfl|rfl|rfl|rfl|rfl|rfl|rfl|rfl|rfl|rfl|rfl
 all_goals
  have HF:=Lib.hid hf
  clear hf
  go_enter Tryz.func50,Tryz.ntmps50
  go_wp2_with (first|(go_at_call 29;((with_reducible refine (rform_at op _ _ HF.out).mono ?_);rintro e w1 ⟨rfl,rfl⟩)))
  go_ret
  exact⟨rfl,rfl⟩
def IntsAt (w:World) (k:Nat) (l:List Int):Prop:=∃ t,w.heap[k]?=some (.cells (l.map (Value.int .i64)).toArray t)
theorem in_at (x:Int) (l:List Int) (k n:Nat) (b:Bool) (w:World) (hn:l.length=n) (hl:n≤100) (hk:IntsAt w k l) (hb:l.contains x=b) :
  Calls Tryz.prog 65 #[.int .i64 x,.slice (some ⟨k,0,none⟩) n n] w fun e w'=>e=.returned (.bool b)∧w=w':=by
 subst hn
 obtain⟨t,hk⟩:=hk
 have HC:=Lib.hid (fun (j:Nat) (hj:j<l.length)=>show w.cell? ⟨k,j,none⟩=some (.int .i64 l[j]) by simp [World.cell?,hk,hj])
 have HB:=Lib.hid hb
 clear hk hb
 go_enter Tryz.func65,Tryz.ntmps65
 go_wp2
 go_loop [5] (fun i=>∃ j:Nat,j≤l.length∧i=.int .i64 j∧Hid ((l.drop j).contains x=b)) (fun i=>l.length-(intOf i).toNat)
 case atStart=>exact⟨0,Nat.zero_le _,rfl,HB⟩
 case round =>
  obtain⟨j,hj,rfl,HE⟩:=hrel
  by_cases hlt:j<l.length
  ·have hc:=HC.out j hlt
   have hD:(l.drop j).contains x=(x==l[j] || (l.drop (j+1)).contains x):=by
    rw [List.drop_eq_getElem_cons hlt,List.contains_cons]
   generalize l[j]=y at hc hD
   cases hy:(y==x)
   ·have HN:Hid ((l.drop (j+1)).contains x=b):=Lib.hid (by rw [← HE.out,hD,BEq.comm (a:=x),hy,Bool.false_or])
    clear hD
    go_wp2
    go_round
    case rel=>exact⟨j+1,by omega,by go_num,HN⟩
    case measure=>simp [intOf];omega
   ·have HN:Hid (b=true):=Lib.hid (by rw [← HE.out,hD,BEq.comm (a:=x),hy,Bool.true_or])
    clear hD
    go_wp2
    go_ret
    exact⟨by rw [HN.out] <;> rfl,rfl⟩
  ·have HN:Hid (b=false):=Lib.hid (by rw [← HE.out,List.drop_eq_nil_of_le (by omega)];rfl)
   go_wp2
   go_ret
   exact⟨by rw [HN.out] <;> rfl,rfl⟩
theorem ints_new (w:World) (l:List Int) (t:TypeId) (c:Array Value) (h:c=(l.map (Value.int .i64)).toArray):IntsAt (w.alloc (.cells c t)) w.heap.size l:=⟨t,by rw [heap_alloc_last,h]⟩
theorem in_D (x:Int) (b:Bool) (n:Nat) (w:World) (hn:n=w.heap.size) (h:[0,1,2,4,7,8,9,10,11].contains x=b):Calls Tryz.prog 65 #[.int .i64 x,.slice (some ⟨n,0,none⟩) 9 9] (w.alloc (.cells #[.int .i64 0,.int .i64 1,.int .i64 2,.int .i64 4,.int .i64 7,.int .i64 8,.int .i64 9,.int .i64 10,.int .i64 11] 3)) fun e w' =>
  e=.returned (.bool b)∧w.alloc (.cells #[.int .i64 0,.int .i64 1,.int .i64 2,.int .i64 4,.int .i64 7,.int .i64 8,.int .i64 9,.int .i64 10,.int .i64 11] 3)=w':=by
 subst hn
 exact in_at x [0,1,2,4,7,8,9,10,11] _ _ b _ rfl (by decide) (ints_new w [0,1,2,4,7,8,9,10,11] 3 _ rfl) h
theorem in_S (x:Int) (b:Bool) (n:Nat) (w:World) (hn:n=w.heap.size) (h:[2,7,9].contains x=b):Calls Tryz.prog 65 #[.int .i64 x,.slice (some ⟨n,0,none⟩) 3 3] (w.alloc (.cells #[.int .i64 2,.int .i64 7,.int .i64 9] 3)) fun e w' =>
  e=.returned (.bool b)∧w.alloc (.cells #[.int .i64 2,.int .i64 7,.int .i64 9] 3)=w':=by
 subst hn
 exact in_at x [2,7,9] _ _ b _ rfl (by decide) (ints_new w [2,7,9] 3 _ rfl) h
theorem in_A (x:Int) (b:Bool) (n:Nat) (w:World) (hn:n=w.heap.size) (h:[0,4].contains x=b):Calls Tryz.prog 65 #[.int .i64 x,.slice (some ⟨n,0,none⟩) 2 2] (w.alloc (.cells #[.int .i64 0,.int .i64 4] 3)) fun e w' =>
  e=.returned (.bool b)∧w.alloc (.cells #[.int .i64 0,.int .i64 4] 3)=w':=by
 subst hn
 exact in_at x [0,4] _ _ b _ rfl (by decide) (ints_new w [0,4] 3 _ rfl) h
theorem in_O (x:Int) (b:Bool) (n:Nat) (w:World) (hn:n=w.heap.size) (h:[3,4,7,8,9].contains x=b):Calls Tryz.prog 65 #[.int .i64 x,.slice (some ⟨n,0,none⟩) 5 5] (w.alloc (.cells #[.int .i64 3,.int .i64 4,.int .i64 7,.int .i64 8,.int .i64 9] 3)) fun e w' =>
  e=.returned (.bool b)∧w.alloc (.cells #[.int .i64 3,.int .i64 4,.int .i64 7,.int .i64 8,.int .i64 9] 3)=w':=by
 subst hn
 exact in_at x [3,4,7,8,9] _ _ b _ rfl (by decide) (ints_new w [3,4,7,8,9] 3 _ rfl) h
theorem in_I (x:Int) (b:Bool) (n:Nat) (w:World) (hn:n=w.heap.size) (h:[5,8,10,11].contains x=b):Calls Tryz.prog 65 #[.int .i64 x,.slice (some ⟨n,0,none⟩) 4 4] (w.alloc (.cells #[.int .i64 5,.int .i64 8,.int .i64 10,.int .i64 11] 3)) fun e w' =>
  e=.returned (.bool b)∧w.alloc (.cells #[.int .i64 5,.int .i64 8,.int .i64 10,.int .i64 11] 3)=w':=by
 subst hn
 exact in_at x [5,8,10,11] _ _ b _ rfl (by decide) (ints_new w [5,8,10,11] 3 _ rfl) h
theorem in_W (x:Int) (b:Bool) (n:Nat) (w:World) (hn:n=w.heap.size) (h:[0,1,2,7,10,11].contains x=b):Calls Tryz.prog 65 #[.int .i64 x,.slice (some ⟨n,0,none⟩) 6 6] (w.alloc (.cells #[.int .i64 0,.int .i64 1,.int .i64 2,.int .i64 7,.int .i64 10,.int .i64 11] 3)) fun e w' =>
  e=.returned (.bool b)∧w.alloc (.cells #[.int .i64 0,.int .i64 1,.int .i64 2,.int .i64 7,.int .i64 10,.int .i64 11] 3)=w':=by
 subst hn
 exact in_at x [0,1,2,7,10,11] _ _ b _ rfl (by decide) (ints_new w [0,1,2,7,10,11] 3 _ rfl) h
theorem rdst_at (op f:Int) (b:Bool) (w:World) (hf:frm (ix op)=f) (hb:uD f=b):Calls Tryz.prog 120 #[.int .i64 op] w fun e w'=>e=.returned (.bool b)∧Below w.heap.size w w':=by
 have HF:=Lib.hid hf
 have HB:Hid ([0,1,2,4,7,8,9,10,11].contains f=b):=Lib.hid hb
 clear hf hb
 go_enter Tryz.func120,Tryz.ntmps120
 go_wp2_with (first|(go_at_call 29;((with_reducible refine (rform_at op _ _ HF.out).mono ?_);rintro e w1 ⟨rfl,rfl⟩))|(go_at_call 65;((with_reducible refine (in_D _ _ _ _ (by simp) HB.out).mono ?_);rintro e w1 ⟨rfl,rfl⟩)))
 go_ret
 exact⟨rfl,bnew _ _⟩
theorem roff_at (op f:Int) (b:Bool) (w:World) (hf:frm (ix op)=f) (hb:uO f=b):Calls Tryz.prog 122 #[.int .i64 op] w fun e w'=>e=.returned (.bool b)∧Below w.heap.size w w':=by
 have HF:=Lib.hid hf
 have HB:Hid ([3,4,7,8,9].contains f=b):=Lib.hid hb
 clear hf hb
 go_enter Tryz.func122,Tryz.ntmps122
 go_wp2_with (first|(go_at_call 29;((with_reducible refine (rform_at op _ _ HF.out).mono ?_);rintro e w1 ⟨rfl,rfl⟩))|(go_at_call 65;((with_reducible refine (in_O _ _ _ _ (by simp) HB.out).mono ?_);rintro e w1 ⟨rfl,rfl⟩)))
 go_ret
 exact⟨rfl,bnew _ _⟩
theorem rsrc_at (op f:Int) (reg b:Bool) (w:World) (hf:frm (ix op)=f) (hb:uS f reg=b):Calls Tryz.prog 121 #[.int .i64 op,.bool reg] w fun e w'=>e=.returned (.bool b)∧Below w.heap.size w w':=by
 obtain⟨x,hx⟩:∃ x,[2,7,9].contains f=x:=⟨_,rfl⟩
 obtain⟨y,hy⟩:∃ y,[0,4].contains f=y:=⟨_,rfl⟩
 have HF:=Lib.hid hf
 have HX:=Lib.hid hx
 have HY:=Lib.hid hy
 have hb':(x || (reg && y))=b:=by rw [← hx,← hy];exact hb
 clear hf hb hx hy
 subst hb'
 cases x
 ·cases reg
  ·go_enter Tryz.func121,Tryz.ntmps121
   go_wp2_with (first|(go_at_call 29;((with_reducible refine (rform_at op _ _ HF.out).mono ?_);rintro e w1 ⟨rfl,rfl⟩))|(go_at_call 65;((with_reducible refine (in_S _ _ _ _ (by simp) HX.out).mono ?_);rintro e w1 ⟨rfl,rfl⟩)))
   go_ret
   exact⟨rfl,bnew _ _⟩
  ·go_enter Tryz.func121,Tryz.ntmps121
   go_wp2_with (first|(go_at_call 29;((with_reducible refine (rform_at op _ _ HF.out).mono ?_);rintro e w1 ⟨rfl,rfl⟩))|(go_at_call 65;((with_reducible refine (in_S _ _ _ _ (by simp) HX.out).mono ?_);rintro e w1 ⟨rfl,rfl⟩))|(go_at_call 65;((with_reducible refine (in_A _ _ _ _ (by simp) HY.out).mono ?_);rintro e w1 ⟨rfl,rfl⟩)))
   go_ret
   exact⟨rfl,bch (bnew _ _) (bnew _ _)⟩
 ·go_enter Tryz.func121,Tryz.ntmps121
  go_wp2_with (first|(go_at_call 29;((with_reducible refine (rform_at op _ _ HF.out).mono ?_);rintro e w1 ⟨rfl,rfl⟩))|(go_at_call 65;((with_reducible refine (in_S _ _ _ _ (by simp) HX.out).mono ?_);rintro e w1 ⟨rfl,rfl⟩)))
  go_ret
  exact⟨rfl,bnew _ _⟩
theorem rimm_at (op f:Int) (reg b:Bool) (w:World) (hf:frm (ix op)=f) (hb:uI f reg=b):Calls Tryz.prog 123 #[.int .i64 op,.bool reg] w fun e w'=>e=.returned (.bool b)∧Below w.heap.size w w':=by
 obtain⟨x,hx⟩:∃ x,[5,8,10,11].contains f=x:=⟨_,rfl⟩
 obtain⟨y,hy⟩:∃ y,[0,4].contains f=y:=⟨_,rfl⟩
 have HF:=Lib.hid hf
 have HX:=Lib.hid hx
 have HY:=Lib.hid hy
 have hb':(x || (!reg && y))=b:=by rw [← hx,← hy];exact hb
 clear hf hb hx hy
 subst hb'
 cases x
 ·cases reg
  ·go_enter Tryz.func123,Tryz.ntmps123
   go_wp2_with (first|(go_at_call 29;((with_reducible refine (rform_at op _ _ HF.out).mono ?_);rintro e w1 ⟨rfl,rfl⟩))|(go_at_call 65;((with_reducible refine (in_I _ _ _ _ (by simp) HX.out).mono ?_);rintro e w1 ⟨rfl,rfl⟩))|(go_at_call 65;((with_reducible refine (in_A _ _ _ _ (by simp) HY.out).mono ?_);rintro e w1 ⟨rfl,rfl⟩)))
   go_ret
   exact⟨rfl,bch (bnew _ _) (bnew _ _)⟩
  ·go_enter Tryz.func123,Tryz.ntmps123
   go_wp2_with (first|(go_at_call 29;((with_reducible refine (rform_at op _ _ HF.out).mono ?_);rintro e w1 ⟨rfl,rfl⟩))|(go_at_call 65;((with_reducible refine (in_I _ _ _ _ (by simp) HX.out).mono ?_);rintro e w1 ⟨rfl,rfl⟩)))
   go_ret
   exact⟨rfl,bnew _ _⟩
 ·go_enter Tryz.func123,Tryz.ntmps123
  go_wp2_with (first|(go_at_call 29;((with_reducible refine (rform_at op _ _ HF.out).mono ?_);rintro e w1 ⟨rfl,rfl⟩))|(go_at_call 65;((with_reducible refine (in_I _ _ _ _ (by simp) HX.out).mono ?_);rintro e w1 ⟨rfl,rfl⟩)))
  go_ret
  exact⟨rfl,bnew _ _⟩
theorem rwrites_at (op:Int) (reg:Bool) (dst src off imm f v:Int) (w:World) (hf:frm (ix op)=f) (hv:wri f dst=v):Calls Tryz.prog 35 #[.agg #[.int .i64 op,.bool reg,.int .i64 dst,.int .i64 src,.int .i64 off,.int .i64 imm]] w fun e w'=>e=.returned (.int .i64 v)∧Below w.heap.size w w':=by
 obtain⟨x,hx⟩:∃ x,[0,1,2,7,10,11].contains f=x:=⟨_,rfl⟩
 obtain⟨y,hy⟩:∃ y,(f==5)=y:=⟨_,rfl⟩
 have HF:=Lib.hid hf
 have HX:=Lib.hid hx
 rw [wri,hx,hy] at hv
 clear hf hx
 cases x
 ·cases y
  all_goals
   simp at hv
   subst hv
   go_enter Tryz.func35,Tryz.ntmps35
   go_wp2_with (first|(go_at_call 29;((with_reducible refine (rform_at op _ _ HF.out).mono ?_);rintro e w1 ⟨rfl,rfl⟩))|(go_at_call 65;((with_reducible refine (in_W _ _ _ _ (by simp) HX.out).mono ?_);rintro e w1 ⟨rfl,rfl⟩)))
   go_ret
   exact⟨rfl,bch (bnew _ _) (bnew _ _)⟩
 ·simp at hv
  subst hv
  go_enter Tryz.func35,Tryz.ntmps35
  go_wp2_with (first|(go_at_call 29;((with_reducible refine (rform_at op _ _ HF.out).mono ?_);rintro e w1 ⟨rfl,rfl⟩))|(go_at_call 65;((with_reducible refine (in_W _ _ _ _ (by simp) HX.out).mono ?_);rintro e w1 ⟨rfl,rfl⟩)))
  go_ret
  exact⟨rfl,bch (bnew _ _) (bnew _ _)⟩
def isG (n:Int):Bool:=decide (0≤n) && decide (n≤10)
theorem rreg_at (n:Int) (b:Bool) (w:World) (h:isG n=b):Calls Tryz.prog 124 #[.int .i64 n] w fun e w'=>e=.returned (.bool b)∧w=w':=by
 subst h
 unfold isG
 cases h1:decide (0≤n) <;> cases h2:decide (n≤10)
 all_goals
  go_enter Tryz.func124,Tryz.ntmps124
  go_wp2
  go_ret
  exact⟨rfl,rfl⟩
end Go.Proofs.YtihiggnglmhggaaGreatDoor.L4
end
section
namespace Go.Proofs.YtihiggnglmhggaaGreatDoor.L4
open Go.RowKit L3 L1
structure Held (w:World) (kx kf ku:Nat) (op:Int) (reg:Bool) (dst src off imm f:Int) (vD vS vO vI:Bool):Prop where
 x:w.heap[kx]?=some (.cells #[.int .i64 op,.bool reg,.int .i64 dst,.int .i64 src,.int .i64 off,.int .i64 imm] 45)
 f:w.heap[kf]?=some (.cells #[.int .i64 f] 3)
 u:w.heap[ku]?=some (.cells #[.bool vD,.bool vS,.bool vO,.bool vI] 240)
 wid:Wid w
theorem Held.below {w w':World} {kx kf ku:Nat} {op:Int} {reg:Bool} {dst src off imm f:Int} {vD vS vO vI:Bool} (h:Held w kx kf ku op reg dst src off imm f vD vS vO vI) (hb:Below w.heap.size w w') :
  Held w' kx kf ku op reg dst src off imm f vD vS vO vI:=by
 obtain⟨hx,hf,hu,t,fr,hw⟩:=h
 exact⟨(hb.block _ (lt_of_block hx)).trans hx,(hb.block _ (lt_of_block hf)).trans hf,(hb.block _ (lt_of_block hu)).trans hu,t,fr,(hb.block _ (lt_of_block hw)).trans hw⟩
theorem cells6 {w:World} {k:Nat} {a b c d e f:Value} {t:TypeId} (h:w.heap[k]?=some (.cells #[a,b,c,d,e,f] t)) :
  w.cell? ⟨k,0,none⟩=some a∧w.cell? ⟨k,1,none⟩=some b∧w.cell? ⟨k,2,none⟩=some c∧w.cell? ⟨k,3,none⟩=some d∧w.cell? ⟨k,4,none⟩=some e∧w.cell? ⟨k,5,none⟩=some f:=by
 simp [World.cell?,h]
theorem zero_at (u:Bool) (n:Int) (b:Bool) (w:World) (h:(u || n==0)=b):Calls Tryz.prog 189 #[.bool u,.int .i64 n] w fun e w'=>e=.returned (.bool b)∧w=w':=by
 subst h
 cases u
 ·cases hn:n==0
  all_goals
   go_enter Tryz.func189,Tryz.ntmps189
   go_wp2
   go_ret
   exact⟨rfl,rfl⟩
 ·go_enter Tryz.func189,Tryz.ntmps189
  go_wp2
  go_ret
  exact⟨rfl,rfl⟩
theorem reg_at (n:Int) (b:Bool) (w:World) (h:isG n=b):Calls Tryz.prog 192 #[.int .i64 n] w fun e w'=>e=.returned (.bool b)∧w=w':=by
 subst h
 have e:decide (n≤10)=decide (n<11):=by rw [Bool.eq_iff_iff];simp;omega
 unfold isG
 rw [e]
 cases h1:decide (0≤n) <;> cases h2:decide (n<11)
 all_goals
  clear e
  go_enter Tryz.func192,Tryz.ntmps192
  go_wp2
  go_ret
  exact⟨rfl,rfl⟩
def rng (f imm:Int):Bool:=if f==5 then decide (1≤imm) && decide (imm≤3) else if f==11 then decide (0≤imm) && decide (imm<255) else if f==10 then sx 64 imm==imm else sx 32 imm==imm
theorem fits_is (x b:Int) (v:Bool) (w:World) (hw:Wid w) (h:b=8∨b=16∨b=32∨b=64) (hv:(sx b x==x)=v) :
  Calls Tryz.prog 134 #[.int .i64 x,.int .i64 b] w fun e w'=>e=.returned (.bool v)∧w=w':=by
 rw [← hv]
 exact fits_yes x b w hw h
theorem range_at (f imm:Int) (b:Bool) (w:World) (hw:Wid w) (h:rng f imm=b):Calls Tryz.prog 195 #[.int .i64 f,.int .i64 imm] w fun e w'=>e=.returned (.bool b)∧w=w':=by
 unfold rng at h
 cases h5:f==5
 ·cases h11:f==11
  ·cases h10:f==10
   ·rw [h5,h11,h10] at h
    have H:Hid ((sx 32 imm==imm)=b):=Lib.hid h
    clear h
    go_enter Tryz.func195,Tryz.ntmps195
    go_wp2_with (first|(go_at_call 134;((with_reducible refine (fits_is _ _ _ _ hw (by decide) H.out).mono ?_);rintro e w1 ⟨rfl,rfl⟩)))
    go_ret
    exact⟨rfl,rfl⟩
   ·rw [h5,h11,h10] at h
    have H:Hid ((sx 64 imm==imm)=b):=Lib.hid h
    clear h
    go_enter Tryz.func195,Tryz.ntmps195
    go_wp2_with (first|(go_at_call 134;((with_reducible refine (fits_is _ _ _ _ hw (by decide) H.out).mono ?_);rintro e w1 ⟨rfl,rfl⟩)))
    go_ret
    exact⟨rfl,rfl⟩
  ·rw [h5,h11] at h
   simp only [Bool.false_eq_true,if_false,if_true] at h
   subst h
   cases h1:decide (0≤imm) <;> cases h2:decide (imm<255)
   all_goals
    go_enter Tryz.func195,Tryz.ntmps195
    go_wp2
    go_ret
    exact⟨rfl,rfl⟩
 ·rw [h5] at h
  simp only [if_true] at h
  subst h
  cases h1:decide (1≤imm) <;> cases h2:decide (imm≤3)
  all_goals
   go_enter Tryz.func195,Tryz.ntmps195
   go_wp2
   go_ret
   exact⟨rfl,rfl⟩
section
variable {w:World} {kx kf ku:Nat} {op:Int} {reg:Bool} {dst src off imm f:Int} {vD vS vO vI:Bool}
section
variable (H:Held w kx kf ku op reg dst src off imm f vD vS vO vI) (b:Bool)
include H b
theorem c1_at (h:(f != -1)=b):Calls Tryz.prog 186 #[.pointer (some ⟨kf,0,none⟩)] w fun e w'=>e=.returned (.bool b)∧w=w':=by
 have hc:=cell_of_one H.f
 clear H
 subst h
 go_enter Tryz.func186,Tryz.ntmps186
 go_wp2
 go_ret
 exact⟨rfl,rfl⟩
theorem c2_at (h:(!reg || f==0 || f==4)=b):Calls Tryz.prog 187 #[.pointer (some ⟨kx,0,none⟩),.pointer (some ⟨kf,0,none⟩)] w fun e w'=>e=.returned (.bool b)∧w=w':=by
 have hc:=cell_of_one H.f
 obtain⟨x0,x1,x2,x3,x4,x5⟩:=cells6 H.x
 clear H
 subst h
 cases reg
 ·go_enter Tryz.func187,Tryz.ntmps187
  go_wp2
  go_ret
  exact⟨rfl,rfl⟩
 ·cases h0:f==0 <;> cases h4:f==4
  all_goals
   go_enter Tryz.func187,Tryz.ntmps187
   go_wp2
   go_ret
   exact⟨rfl,rfl⟩
theorem c3_at (h:((vD || dst==0) && (vS || src==0))=b):Calls Tryz.prog 188 #[.pointer (some ⟨ku,0,none⟩),.pointer (some ⟨kx,0,none⟩)] w fun e w'=>e=.returned (.bool b)∧w=w':=by
 obtain⟨u0,u1,u2,u3,_⟩:=cells4 H.u
 obtain⟨x0,x1,x2,x3,x4,x5⟩:=cells6 H.x
 clear H
 obtain⟨a,ha⟩:∃ a,(vD || dst==0)=a:=⟨_,rfl⟩
 obtain⟨c,hc⟩:∃ c,(vS || src==0)=c:=⟨_,rfl⟩
 rw [ha,hc] at h
 have HA:=Lib.hid ha
 have HC:=Lib.hid hc
 clear ha hc
 subst h
 cases a
 ·go_enter Tryz.func188,Tryz.ntmps188
  go_wp2_with (first|(go_at_call 189;((with_reducible refine (zero_at _ _ _ _ HA.out).mono ?_);rintro e w1 ⟨rfl,rfl⟩)))
  go_ret
  exact⟨rfl,rfl⟩
 ·go_enter Tryz.func188,Tryz.ntmps188
  go_wp2_with (first|(go_at_call 189;((with_reducible refine (zero_at _ _ _ _ HA.out).mono ?_);rintro e w1 ⟨rfl,rfl⟩))|(go_at_call 189;((with_reducible refine (zero_at _ _ _ _ HC.out).mono ?_);rintro e w1 ⟨rfl,rfl⟩)))
  go_ret
  exact⟨rfl,rfl⟩
theorem c4_at (h:((vO || off==0) && (vI || imm==0))=b):Calls Tryz.prog 190 #[.pointer (some ⟨ku,0,none⟩),.pointer (some ⟨kx,0,none⟩)] w fun e w'=>e=.returned (.bool b)∧w=w':=by
 obtain⟨u0,u1,u2,u3,_⟩:=cells4 H.u
 obtain⟨x0,x1,x2,x3,x4,x5⟩:=cells6 H.x
 clear H
 obtain⟨a,ha⟩:∃ a,(vO || off==0)=a:=⟨_,rfl⟩
 rw [ha] at h
 have HA:=Lib.hid ha
 clear ha
 subst h
 cases a
 ·go_enter Tryz.func190,Tryz.ntmps190
  go_wp2_with (first|(go_at_call 189;((with_reducible refine (zero_at _ _ _ _ HA.out).mono ?_);rintro e w1 ⟨rfl,rfl⟩)))
  go_ret
  exact⟨rfl,rfl⟩
 ·cases vI
  ·cases hi:imm==0
   all_goals
    go_enter Tryz.func190,Tryz.ntmps190
    go_wp2_with (first|(go_at_call 189;((with_reducible refine (zero_at _ _ _ _ HA.out).mono ?_);rintro e w1 ⟨rfl,rfl⟩)))
    go_ret
    exact⟨rfl,rfl⟩
  ·go_enter Tryz.func190,Tryz.ntmps190
   go_wp2_with (first|(go_at_call 189;((with_reducible refine (zero_at _ _ _ _ HA.out).mono ?_);rintro e w1 ⟨rfl,rfl⟩)))
   go_ret
   exact⟨rfl,rfl⟩
theorem c5_at (h:(isG dst && isG src)=b):Calls Tryz.prog 191 #[.pointer (some ⟨kx,0,none⟩)] w fun e w'=>e=.returned (.bool b)∧w=w':=by
 obtain⟨x0,x1,x2,x3,x4,x5⟩:=cells6 H.x
 clear H
 obtain⟨a,ha⟩:∃ a,isG dst=a:=⟨_,rfl⟩
 obtain⟨c,hc⟩:∃ c,isG src=c:=⟨_,rfl⟩
 rw [ha,hc] at h
 have HA:=Lib.hid ha
 have HC:=Lib.hid hc
 clear ha hc
 subst h
 cases a
 ·go_enter Tryz.func191,Tryz.ntmps191
  go_wp2_with (first|(go_at_call 192;((with_reducible refine (reg_at _ _ _ HA.out).mono ?_);rintro e w1 ⟨rfl,rfl⟩)))
  go_ret
  exact⟨rfl,rfl⟩
 ·go_enter Tryz.func191,Tryz.ntmps191
  go_wp2_with (first|(go_at_call 192;((with_reducible refine (reg_at _ _ _ HA.out).mono ?_);rintro e w1 ⟨rfl,rfl⟩))|(go_at_call 192;((with_reducible refine (reg_at _ _ _ HC.out).mono ?_);rintro e w1 ⟨rfl,rfl⟩)))
  go_ret
  exact⟨rfl,rfl⟩
theorem c6_at (h:(sx 16 off==off)=b):Calls Tryz.prog 193 #[.pointer (some ⟨kx,0,none⟩)] w fun e w'=>e=.returned (.bool b)∧w=w':=by
 obtain⟨x0,x1,x2,x3,x4,x5⟩:=cells6 H.x
 have hw:=H.wid
 have HA:=Lib.hid h
 clear H h
 go_enter Tryz.func193,Tryz.ntmps193
 go_wp2_with (first|(go_at_call 134;((with_reducible refine (fits_is _ _ _ _ hw (by decide) HA.out).mono ?_);rintro e w1 ⟨rfl,rfl⟩)))
 go_ret
 exact⟨rfl,rfl⟩
theorem c7_at (h:rng f imm=b):Calls Tryz.prog 194 #[.pointer (some ⟨kf,0,none⟩),.pointer (some ⟨kx,0,none⟩)] w fun e w'=>e=.returned (.bool b)∧w=w':=by
 obtain⟨x0,x1,x2,x3,x4,x5⟩:=cells6 H.x
 have hc:=cell_of_one H.f
 have hw:=H.wid
 have HA:=Lib.hid h
 clear H h
 go_enter Tryz.func194,Tryz.ntmps194
 go_wp2_with (first|(go_at_call 195;((with_reducible refine (range_at _ _ _ _ hw HA.out).mono ?_);rintro e w1 ⟨rfl,rfl⟩)))
 go_ret
 exact⟨rfl,rfl⟩
end
end
end Go.Proofs.YtihiggnglmhggaaGreatDoor.L4
end
