/- Lemmas and walks of L4Uses, L4Small, L4Conds: what each theorem states; conditions stand in each theorem. -/
import Derived.Test.YtdgnjhhieemcaaaGreatDoorM7
import Derived.Test.YtdgnjhhieemcaaaGreatDoorM2
set_option maxHeartbeats 4000000
set_option maxRecDepth 100000
section
namespace Go.Proofs.YtdgnjhhieemcaaaGreatDoor.L4
open Go.RowKit L3
def uD (f:Int):Bool:=[0,1,2,4,7,8,9,10,11].contains f
def uS (f:Int) (reg:Bool):Bool:=[2,7,9].contains f || (reg && [0,4].contains f)
def uO (f:Int):Bool:=[3,4,7,8,9].contains f
def uI (f:Int) (reg:Bool):Bool:=[5,8,10,11].contains f || (!reg && [0,4].contains f)
def slo (f:Int):Int:=if f<0 then 0 else if 10≤f then 2 else 1
def wri (f dst:Int):Int:=if [0,1,2,7,10,11].contains f then dst else if f==5 then 0 else -1
def IsF (f:Int):Prop:=f=-1∨f=0∨f=1∨f=2∨f=3∨f=4∨f=5∨f=6∨f=7∨f=8∨f=9∨f=10∨f=11
theorem frm_isF (op:Int):IsF (frm (ix op)):=by
 have h:=ix_le op
 generalize ix op=k at h
 unfold IsF
 have:∀ k,k<87→frm k=-1∨frm k=0∨frm k=1∨frm k=2∨frm k=3∨frm k=4∨frm k=5∨frm k=6∨frm k=7∨frm k=8∨frm k=9∨frm k=10∨frm k=11:=by decide +kernel
 exact this k (by omega)
theorem form_at (op v:Int) (w:World) (hv:frm (ix op)=v):Calls Tryz.prog 62 #[.int .i64 op] w fun e w'=>e=.returned (.int .i64 v)∧Below w.heap.size w w':=by
 subst hv
 exact form_any op w
theorem two_blocks {w w1:World} {A B:Array Value} {t:TypeId} (h:Below ((w.alloc (.cells A t)).alloc (.cells B t)).heap.size ((w.alloc (.cells A t)).alloc (.cells B t)) w1) :
  w1.heap[w.heap.size]?=some (.cells A t)∧w1.heap[w.heap.size+1]?=some (.cells B t)∧Below w.heap.size w w1:=by
 refine⟨(h.block _ (by simp;omega)).trans ?_,(h.block _ (by simp)).trans ?_,bch (bch (bnew w _) (bnew _ _)) h⟩
 ·rw [Below.heap_alloc _ _ _ (by simp),heap_alloc_last]
 ·have:=heap_alloc_last (w.alloc (.cells A t)) (.cells B t)
  simpa using this
theorem cells4 {w:World} {k:Nat} {a b c d:Value} {t:TypeId} (h:w.heap[k]?=some (.cells #[a,b,c,d] t)) :
  w.cell? ⟨k,0,none⟩=some a∧w.cell? ⟨k,1,none⟩=some b∧w.cell? ⟨k,2,none⟩=some c∧w.cell? ⟨k,3,none⟩=some d ∧
  w.frozen? ⟨k,0,none⟩=false∧w.frozen? ⟨k,1,none⟩=false∧w.frozen? ⟨k,2,none⟩=false∧w.frozen? ⟨k,3,none⟩=false:=by
 simp [World.cell?,World.frozen?,h]
section
variable (op:Int) (reg:Bool) (w:World)
include op reg w
theorem uses_m (hf:frm (ix op)=(-1)):Calls Tryz.prog 240 #[.int .i64 op,.bool reg] w fun e w' =>
  e=.returned (.agg #[.bool (uD (-1)),.bool (uS (-1) reg),.bool (uO (-1)),.bool (uI (-1) reg)])∧Below w.heap.size w w':=by
 have HF:=Lib.hid hf
 clear hf
 go_enter Tryz.func240,Tryz.ntmps240
 go_wp2_with (first|(go_at_call 62;((with_reducible refine (form_at op _ _ HF.out).mono ?_);rintro e w1 ⟨rfl,hb1⟩;obtain⟨hA,hB,hb⟩:=two_blocks hb1;clear hb1;obtain⟨a0,a1,a2,a3,fa0,fa1,fa2,fa3⟩:=cells4 hA;obtain⟨b0,b1,b2,b3,fb0,fb1,fb2,fb3⟩:=cells4 hB;clear hA hB)))
 refine bodyPost_ret (v:=.agg #[.bool (uD (-1)),.bool (uS (-1) reg),.bool (uO (-1)),.bool (uI (-1) reg)]) ?_ rfl ⟨rfl,?_⟩
 ·simp [results,Tryz.results240,go_sem, *]
  try (cases reg <;> decide)
 ·repeat (with_reducible refine Below.setCell ?_ (by simp) _)
  exact hb
theorem uses_0 (hf:frm (ix op)=0):Calls Tryz.prog 240 #[.int .i64 op,.bool reg] w fun e w' =>
  e=.returned (.agg #[.bool (uD 0),.bool (uS 0 reg),.bool (uO 0),.bool (uI 0 reg)])∧Below w.heap.size w w':=by
 have HF:=Lib.hid hf
 clear hf
 go_enter Tryz.func240,Tryz.ntmps240
 go_wp2_with (first|(go_at_call 62;((with_reducible refine (form_at op _ _ HF.out).mono ?_);rintro e w1 ⟨rfl,hb1⟩;obtain⟨hA,hB,hb⟩:=two_blocks hb1;clear hb1;obtain⟨a0,a1,a2,a3,fa0,fa1,fa2,fa3⟩:=cells4 hA;obtain⟨b0,b1,b2,b3,fb0,fb1,fb2,fb3⟩:=cells4 hB;clear hA hB)))
 refine bodyPost_ret (v:=.agg #[.bool (uD 0),.bool (uS 0 reg),.bool (uO 0),.bool (uI 0 reg)]) ?_ rfl ⟨rfl,?_⟩
 ·simp [results,Tryz.results240,go_sem, *]
  try (cases reg <;> decide)
 ·repeat (with_reducible refine Below.setCell ?_ (by simp) _)
  exact hb
theorem uses_1 (hf:frm (ix op)=1):Calls Tryz.prog 240 #[.int .i64 op,.bool reg] w fun e w' =>
  e=.returned (.agg #[.bool (uD 1),.bool (uS 1 reg),.bool (uO 1),.bool (uI 1 reg)])∧Below w.heap.size w w':=by
 have HF:=Lib.hid hf
 clear hf
 go_enter Tryz.func240,Tryz.ntmps240
 go_wp2_with (first|(go_at_call 62;((with_reducible refine (form_at op _ _ HF.out).mono ?_);rintro e w1 ⟨rfl,hb1⟩;obtain⟨hA,hB,hb⟩:=two_blocks hb1;clear hb1;obtain⟨a0,a1,a2,a3,fa0,fa1,fa2,fa3⟩:=cells4 hA;obtain⟨b0,b1,b2,b3,fb0,fb1,fb2,fb3⟩:=cells4 hB;clear hA hB)))
 refine bodyPost_ret (v:=.agg #[.bool (uD 1),.bool (uS 1 reg),.bool (uO 1),.bool (uI 1 reg)]) ?_ rfl ⟨rfl,?_⟩
 ·simp [results,Tryz.results240,go_sem, *]
  try (cases reg <;> decide)
 ·repeat (with_reducible refine Below.setCell ?_ (by simp) _)
  exact hb
theorem uses_2 (hf:frm (ix op)=2):Calls Tryz.prog 240 #[.int .i64 op,.bool reg] w fun e w' =>
  e=.returned (.agg #[.bool (uD 2),.bool (uS 2 reg),.bool (uO 2),.bool (uI 2 reg)])∧Below w.heap.size w w':=by
 have HF:=Lib.hid hf
 clear hf
 go_enter Tryz.func240,Tryz.ntmps240
 go_wp2_with (first|(go_at_call 62;((with_reducible refine (form_at op _ _ HF.out).mono ?_);rintro e w1 ⟨rfl,hb1⟩;obtain⟨hA,hB,hb⟩:=two_blocks hb1;clear hb1;obtain⟨a0,a1,a2,a3,fa0,fa1,fa2,fa3⟩:=cells4 hA;obtain⟨b0,b1,b2,b3,fb0,fb1,fb2,fb3⟩:=cells4 hB;clear hA hB)))
 refine bodyPost_ret (v:=.agg #[.bool (uD 2),.bool (uS 2 reg),.bool (uO 2),.bool (uI 2 reg)]) ?_ rfl ⟨rfl,?_⟩
 ·simp [results,Tryz.results240,go_sem, *]
  try (cases reg <;> decide)
 ·repeat (with_reducible refine Below.setCell ?_ (by simp) _)
  exact hb
theorem uses_3 (hf:frm (ix op)=3):Calls Tryz.prog 240 #[.int .i64 op,.bool reg] w fun e w' =>
  e=.returned (.agg #[.bool (uD 3),.bool (uS 3 reg),.bool (uO 3),.bool (uI 3 reg)])∧Below w.heap.size w w':=by
 have HF:=Lib.hid hf
 clear hf
 go_enter Tryz.func240,Tryz.ntmps240
 go_wp2_with (first|(go_at_call 62;((with_reducible refine (form_at op _ _ HF.out).mono ?_);rintro e w1 ⟨rfl,hb1⟩;obtain⟨hA,hB,hb⟩:=two_blocks hb1;clear hb1;obtain⟨a0,a1,a2,a3,fa0,fa1,fa2,fa3⟩:=cells4 hA;obtain⟨b0,b1,b2,b3,fb0,fb1,fb2,fb3⟩:=cells4 hB;clear hA hB)))
 refine bodyPost_ret (v:=.agg #[.bool (uD 3),.bool (uS 3 reg),.bool (uO 3),.bool (uI 3 reg)]) ?_ rfl ⟨rfl,?_⟩
 ·simp [results,Tryz.results240,go_sem, *]
  try (cases reg <;> decide)
 ·repeat (with_reducible refine Below.setCell ?_ (by simp) _)
  exact hb
theorem uses_4 (hf:frm (ix op)=4):Calls Tryz.prog 240 #[.int .i64 op,.bool reg] w fun e w' =>
  e=.returned (.agg #[.bool (uD 4),.bool (uS 4 reg),.bool (uO 4),.bool (uI 4 reg)])∧Below w.heap.size w w':=by
 have HF:=Lib.hid hf
 clear hf
 go_enter Tryz.func240,Tryz.ntmps240
 go_wp2_with (first|(go_at_call 62;((with_reducible refine (form_at op _ _ HF.out).mono ?_);rintro e w1 ⟨rfl,hb1⟩;obtain⟨hA,hB,hb⟩:=two_blocks hb1;clear hb1;obtain⟨a0,a1,a2,a3,fa0,fa1,fa2,fa3⟩:=cells4 hA;obtain⟨b0,b1,b2,b3,fb0,fb1,fb2,fb3⟩:=cells4 hB;clear hA hB)))
 refine bodyPost_ret (v:=.agg #[.bool (uD 4),.bool (uS 4 reg),.bool (uO 4),.bool (uI 4 reg)]) ?_ rfl ⟨rfl,?_⟩
 ·simp [results,Tryz.results240,go_sem, *]
  try (cases reg <;> decide)
 ·repeat (with_reducible refine Below.setCell ?_ (by simp) _)
  exact hb
theorem uses_5 (hf:frm (ix op)=5):Calls Tryz.prog 240 #[.int .i64 op,.bool reg] w fun e w' =>
  e=.returned (.agg #[.bool (uD 5),.bool (uS 5 reg),.bool (uO 5),.bool (uI 5 reg)])∧Below w.heap.size w w':=by
 have HF:=Lib.hid hf
 clear hf
 go_enter Tryz.func240,Tryz.ntmps240
 go_wp2_with (first|(go_at_call 62;((with_reducible refine (form_at op _ _ HF.out).mono ?_);rintro e w1 ⟨rfl,hb1⟩;obtain⟨hA,hB,hb⟩:=two_blocks hb1;clear hb1;obtain⟨a0,a1,a2,a3,fa0,fa1,fa2,fa3⟩:=cells4 hA;obtain⟨b0,b1,b2,b3,fb0,fb1,fb2,fb3⟩:=cells4 hB;clear hA hB)))
 refine bodyPost_ret (v:=.agg #[.bool (uD 5),.bool (uS 5 reg),.bool (uO 5),.bool (uI 5 reg)]) ?_ rfl ⟨rfl,?_⟩
 ·simp [results,Tryz.results240,go_sem, *]
  try (cases reg <;> decide)
 ·repeat (with_reducible refine Below.setCell ?_ (by simp) _)
  exact hb
theorem uses_6 (hf:frm (ix op)=6):Calls Tryz.prog 240 #[.int .i64 op,.bool reg] w fun e w' =>
  e=.returned (.agg #[.bool (uD 6),.bool (uS 6 reg),.bool (uO 6),.bool (uI 6 reg)])∧Below w.heap.size w w':=by
 have HF:=Lib.hid hf
 clear hf
 go_enter Tryz.func240,Tryz.ntmps240
 go_wp2_with (first|(go_at_call 62;((with_reducible refine (form_at op _ _ HF.out).mono ?_);rintro e w1 ⟨rfl,hb1⟩;obtain⟨hA,hB,hb⟩:=two_blocks hb1;clear hb1;obtain⟨a0,a1,a2,a3,fa0,fa1,fa2,fa3⟩:=cells4 hA;obtain⟨b0,b1,b2,b3,fb0,fb1,fb2,fb3⟩:=cells4 hB;clear hA hB)))
 refine bodyPost_ret (v:=.agg #[.bool (uD 6),.bool (uS 6 reg),.bool (uO 6),.bool (uI 6 reg)]) ?_ rfl ⟨rfl,?_⟩
 ·simp [results,Tryz.results240,go_sem, *]
  try (cases reg <;> decide)
 ·repeat (with_reducible refine Below.setCell ?_ (by simp) _)
  exact hb
theorem uses_7 (hf:frm (ix op)=7):Calls Tryz.prog 240 #[.int .i64 op,.bool reg] w fun e w' =>
  e=.returned (.agg #[.bool (uD 7),.bool (uS 7 reg),.bool (uO 7),.bool (uI 7 reg)])∧Below w.heap.size w w':=by
 have HF:=Lib.hid hf
 clear hf
 go_enter Tryz.func240,Tryz.ntmps240
 go_wp2_with (first|(go_at_call 62;((with_reducible refine (form_at op _ _ HF.out).mono ?_);rintro e w1 ⟨rfl,hb1⟩;obtain⟨hA,hB,hb⟩:=two_blocks hb1;clear hb1;obtain⟨a0,a1,a2,a3,fa0,fa1,fa2,fa3⟩:=cells4 hA;obtain⟨b0,b1,b2,b3,fb0,fb1,fb2,fb3⟩:=cells4 hB;clear hA hB)))
 refine bodyPost_ret (v:=.agg #[.bool (uD 7),.bool (uS 7 reg),.bool (uO 7),.bool (uI 7 reg)]) ?_ rfl ⟨rfl,?_⟩
 ·simp [results,Tryz.results240,go_sem, *]
  try (cases reg <;> decide)
 ·repeat (with_reducible refine Below.setCell ?_ (by simp) _)
  exact hb
theorem uses_8 (hf:frm (ix op)=8):Calls Tryz.prog 240 #[.int .i64 op,.bool reg] w fun e w' =>
  e=.returned (.agg #[.bool (uD 8),.bool (uS 8 reg),.bool (uO 8),.bool (uI 8 reg)])∧Below w.heap.size w w':=by
 have HF:=Lib.hid hf
 clear hf
 go_enter Tryz.func240,Tryz.ntmps240
 go_wp2_with (first|(go_at_call 62;((with_reducible refine (form_at op _ _ HF.out).mono ?_);rintro e w1 ⟨rfl,hb1⟩;obtain⟨hA,hB,hb⟩:=two_blocks hb1;clear hb1;obtain⟨a0,a1,a2,a3,fa0,fa1,fa2,fa3⟩:=cells4 hA;obtain⟨b0,b1,b2,b3,fb0,fb1,fb2,fb3⟩:=cells4 hB;clear hA hB)))
 refine bodyPost_ret (v:=.agg #[.bool (uD 8),.bool (uS 8 reg),.bool (uO 8),.bool (uI 8 reg)]) ?_ rfl ⟨rfl,?_⟩
 ·simp [results,Tryz.results240,go_sem, *]
  try (cases reg <;> decide)
 ·repeat (with_reducible refine Below.setCell ?_ (by simp) _)
  exact hb
theorem uses_9 (hf:frm (ix op)=9):Calls Tryz.prog 240 #[.int .i64 op,.bool reg] w fun e w' =>
  e=.returned (.agg #[.bool (uD 9),.bool (uS 9 reg),.bool (uO 9),.bool (uI 9 reg)])∧Below w.heap.size w w':=by
 have HF:=Lib.hid hf
 clear hf
 go_enter Tryz.func240,Tryz.ntmps240
 go_wp2_with (first|(go_at_call 62;((with_reducible refine (form_at op _ _ HF.out).mono ?_);rintro e w1 ⟨rfl,hb1⟩;obtain⟨hA,hB,hb⟩:=two_blocks hb1;clear hb1;obtain⟨a0,a1,a2,a3,fa0,fa1,fa2,fa3⟩:=cells4 hA;obtain⟨b0,b1,b2,b3,fb0,fb1,fb2,fb3⟩:=cells4 hB;clear hA hB)))
 refine bodyPost_ret (v:=.agg #[.bool (uD 9),.bool (uS 9 reg),.bool (uO 9),.bool (uI 9 reg)]) ?_ rfl ⟨rfl,?_⟩
 ·simp [results,Tryz.results240,go_sem, *]
  try (cases reg <;> decide)
 ·repeat (with_reducible refine Below.setCell ?_ (by simp) _)
  exact hb
theorem uses_10 (hf:frm (ix op)=10):Calls Tryz.prog 240 #[.int .i64 op,.bool reg] w fun e w' =>
  e=.returned (.agg #[.bool (uD 10),.bool (uS 10 reg),.bool (uO 10),.bool (uI 10 reg)])∧Below w.heap.size w w':=by
 have HF:=Lib.hid hf
 clear hf
 go_enter Tryz.func240,Tryz.ntmps240
 go_wp2_with (first|(go_at_call 62;((with_reducible refine (form_at op _ _ HF.out).mono ?_);rintro e w1 ⟨rfl,hb1⟩;obtain⟨hA,hB,hb⟩:=two_blocks hb1;clear hb1;obtain⟨a0,a1,a2,a3,fa0,fa1,fa2,fa3⟩:=cells4 hA;obtain⟨b0,b1,b2,b3,fb0,fb1,fb2,fb3⟩:=cells4 hB;clear hA hB)))
 refine bodyPost_ret (v:=.agg #[.bool (uD 10),.bool (uS 10 reg),.bool (uO 10),.bool (uI 10 reg)]) ?_ rfl ⟨rfl,?_⟩
 ·simp [results,Tryz.results240,go_sem, *]
  try (cases reg <;> decide)
 ·repeat (with_reducible refine Below.setCell ?_ (by simp) _)
  exact hb
theorem uses_11 (hf:frm (ix op)=11):Calls Tryz.prog 240 #[.int .i64 op,.bool reg] w fun e w' =>
  e=.returned (.agg #[.bool (uD 11),.bool (uS 11 reg),.bool (uO 11),.bool (uI 11 reg)])∧Below w.heap.size w w':=by
 have HF:=Lib.hid hf
 clear hf
 go_enter Tryz.func240,Tryz.ntmps240
 go_wp2_with (first|(go_at_call 62;((with_reducible refine (form_at op _ _ HF.out).mono ?_);rintro e w1 ⟨rfl,hb1⟩;obtain⟨hA,hB,hb⟩:=two_blocks hb1;clear hb1;obtain⟨a0,a1,a2,a3,fa0,fa1,fa2,fa3⟩:=cells4 hA;obtain⟨b0,b1,b2,b3,fb0,fb1,fb2,fb3⟩:=cells4 hB;clear hA hB)))
 refine bodyPost_ret (v:=.agg #[.bool (uD 11),.bool (uS 11 reg),.bool (uO 11),.bool (uI 11 reg)]) ?_ rfl ⟨rfl,?_⟩
 ·simp [results,Tryz.results240,go_sem, *]
  try (cases reg <;> decide)
 ·repeat (with_reducible refine Below.setCell ?_ (by simp) _)
  exact hb
end
theorem uses_at (op f:Int) (reg:Bool) (w:World) (hf:frm (ix op)=f):Calls Tryz.prog 240 #[.int .i64 op,.bool reg] w fun e w' =>
  e=.returned (.agg #[.bool (uD f),.bool (uS f reg),.bool (uO f),.bool (uI f reg)])∧Below w.heap.size w w':=by
 have hF:=frm_isF op
 rw [hf] at hF
 rcases hF with rfl|rfl|rfl|rfl|rfl|rfl|rfl|rfl|rfl|rfl|rfl|rfl|rfl
 ·exact uses_m op reg w hf
 ·exact uses_0 op reg w hf
 ·exact uses_1 op reg w hf
 ·exact uses_2 op reg w hf
 ·exact uses_3 op reg w hf
 ·exact uses_4 op reg w hf
 ·exact uses_5 op reg w hf
 ·exact uses_6 op reg w hf
 ·exact uses_7 op reg w hf
 ·exact uses_8 op reg w hf
 ·exact uses_9 op reg w hf
 ·exact uses_10 op reg w hf
 ·exact uses_11 op reg w hf
end Go.Proofs.YtdgnjhhieemcaaaGreatDoor.L4
end
section
namespace Go.Proofs.YtdgnjhhieemcaaaGreatDoor.L4
open Go.RowKit L3
abbrev insA (op:Int) (reg:Bool) (dst src off imm:Int):Array Value:=#[.int .i64 op,.bool reg,.int .i64 dst,.int .i64 src,.int .i64 off,.int .i64 imm]
theorem slots_at (op f v:Int) (w:World) (hf:frm (ix op)=f) (hv:slo f=v):Calls Tryz.prog 148 #[.int .i64 op] w fun e w'=>e=.returned (.int .i64 v)∧Below w.heap.size w w':=by
 subst hv
 have hF:=frm_isF op
 rw [hf] at hF
 rcases hF with rfl|rfl|rfl|rfl|rfl|rfl|rfl|rfl|rfl|rfl|rfl|rfl|rfl
 all_goals
  have HF:=Lib.hid hf
  clear hf
  go_enter Tryz.func148,Tryz.ntmps148
  go_wp2_with (first|(go_at_call 62;((with_reducible refine (form_at op _ _ HF.out).mono ?_);rintro e w1 ⟨rfl,hb1⟩)))
  go_ret
  exact⟨rfl,hb1⟩
theorem writes_at (op:Int) (reg:Bool) (dst src off imm f v:Int) (w:World) (hf:frm (ix op)=f) (hv:wri f dst=v):Calls Tryz.prog 144 #[.agg #[.int .i64 op,.bool reg,.int .i64 dst,.int .i64 src,.int .i64 off,.int .i64 imm]] w fun e w'=>e=.returned (.int .i64 v)∧Below w.heap.size w w':=by
 have hF:=frm_isF op
 rw [hf] at hF
 rcases hF with rfl|rfl|rfl|rfl|rfl|rfl|rfl|rfl|rfl|rfl|rfl|rfl|rfl
 all_goals
  have HF:=Lib.hid hf
  simp [wri] at hv
  subst hv
  clear hf
  go_enter Tryz.func144,Tryz.ntmps144
  go_wp2_with (first|(go_at_call 62;((with_reducible refine (form_at op _ _ HF.out).mono ?_);rintro e w1 ⟨rfl,hb1⟩;have c2:=(hb1.cell (p:=⟨w.heap.size,2,none⟩) (by simp)).trans (World.cell?_alloc_at _ _ _ _ rfl))))
  go_ret
  exact⟨rfl,bch (bnew _ _) hb1⟩
def endF (f:Int):Bool:=f==3 || f==6
def jmpF (f:Int):Bool:=f==3 || f==4
theorem ends_at (op:Int) (reg:Bool) (dst src off imm f:Int) (v:Bool) (w:World) (hf:frm (ix op)=f) (hv:endF f=v):Calls Tryz.prog 146 #[.agg #[.int .i64 op,.bool reg,.int .i64 dst,.int .i64 src,.int .i64 off,.int .i64 imm]] w fun e w'=>e=.returned (.bool v)∧Below w.heap.size w w':=by
 subst hv
 have hF:=frm_isF op
 rw [hf] at hF
 rcases hF with rfl|rfl|rfl|rfl|rfl|rfl|rfl|rfl|rfl|rfl|rfl|rfl|rfl
 all_goals
  have HF:=Lib.hid hf
  clear hf
  go_enter Tryz.func146,Tryz.ntmps146
  go_wp2_with (first|(go_at_call 62;((with_reducible refine (form_at op _ _ HF.out).mono ?_);rintro e w1 ⟨rfl,hb1⟩)))
  go_ret
  exact⟨rfl,bch (bnew _ _) hb1⟩
theorem jumps_at (op:Int) (reg:Bool) (dst src off imm f:Int) (v:Bool) (w:World) (hf:frm (ix op)=f) (hv:jmpF f=v):Calls Tryz.prog 196 #[.agg #[.int .i64 op,.bool reg,.int .i64 dst,.int .i64 src,.int .i64 off,.int .i64 imm]] w fun e w'=>e=.returned (.bool v)∧Below w.heap.size w w':=by
 subst hv
 have hF:=frm_isF op
 rw [hf] at hF
 rcases hF with rfl|rfl|rfl|rfl|rfl|rfl|rfl|rfl|rfl|rfl|rfl|rfl|rfl
 all_goals
  have HF:=Lib.hid hf
  clear hf
  go_enter Tryz.func196,Tryz.ntmps196
  go_wp2_with (first|(go_at_call 62;((with_reducible refine (form_at op _ _ HF.out).mono ?_);rintro e w1 ⟨rfl,hb1⟩)))
  go_ret
  exact⟨rfl,bch (bnew _ _) hb1⟩
def isG (n:Int):Bool:=decide (0≤n) && decide (n≤10)
end Go.Proofs.YtdgnjhhieemcaaaGreatDoor.L4
end
section
namespace Go.Proofs.YtdgnjhhieemcaaaGreatDoor.L4
open Go.RowKit L3 L1
structure Held (w:World) (kx kf ku:Nat) (op:Int) (reg:Bool) (dst src off imm f:Int) (vD vS vO vI:Bool):Prop where
 x:w.heap[kx]?=some (.cells #[.int .i64 op,.bool reg,.int .i64 dst,.int .i64 src,.int .i64 off,.int .i64 imm] 45)
 f:w.heap[kf]?=some (.cells #[.int .i64 f] 3)
 u:w.heap[ku]?=some (.cells #[.bool vD,.bool vS,.bool vO,.bool vI] 316)
 wid:Wid w
theorem Held.below {w w':World} {kx kf ku:Nat} {op:Int} {reg:Bool} {dst src off imm f:Int} {vD vS vO vI:Bool} (h:Held w kx kf ku op reg dst src off imm f vD vS vO vI) (hb:Below w.heap.size w w') :
  Held w' kx kf ku op reg dst src off imm f vD vS vO vI:=by
 obtain⟨hx,hf,hu,t,fr,hw⟩:=h
 exact⟨(hb.block _ (lt_of_block hx)).trans hx,(hb.block _ (lt_of_block hf)).trans hf,(hb.block _ (lt_of_block hu)).trans hu,t,fr,(hb.block _ (lt_of_block hw)).trans hw⟩
theorem cells6 {w:World} {k:Nat} {a b c d e f:Value} {t:TypeId} (h:w.heap[k]?=some (.cells #[a,b,c,d,e,f] t)) :
  w.cell? ⟨k,0,none⟩=some a∧w.cell? ⟨k,1,none⟩=some b∧w.cell? ⟨k,2,none⟩=some c∧w.cell? ⟨k,3,none⟩=some d∧w.cell? ⟨k,4,none⟩=some e∧w.cell? ⟨k,5,none⟩=some f:=by
 simp [World.cell?,h]
theorem zero_at (u:Bool) (n:Int) (b:Bool) (w:World) (h:(u || n==0)=b):Calls Tryz.prog 244 #[.bool u,.int .i64 n] w fun e w'=>e=.returned (.bool b)∧w=w':=by
 subst h
 cases u
 ·cases hn:n==0
  all_goals
   go_enter Tryz.func244,Tryz.ntmps244
   go_wp2
   go_ret
   exact⟨rfl,rfl⟩
 ·go_enter Tryz.func244,Tryz.ntmps244
  go_wp2
  go_ret
  exact⟨rfl,rfl⟩
theorem reg_at (n:Int) (b:Bool) (w:World) (h:isG n=b):Calls Tryz.prog 247 #[.int .i64 n] w fun e w'=>e=.returned (.bool b)∧w=w':=by
 subst h
 have e:decide (n≤10)=decide (n<11):=by rw [Bool.eq_iff_iff];simp;omega
 unfold isG
 rw [e]
 cases h1:decide (0≤n) <;> cases h2:decide (n<11)
 all_goals
  clear e
  go_enter Tryz.func247,Tryz.ntmps247
  go_wp2
  go_ret
  exact⟨rfl,rfl⟩
def rng (f imm:Int):Bool:=if f==5 then decide (1≤imm) && decide (imm≤3) else if f==11 then decide (0≤imm) && decide (imm<255) else if f==10 then sx 64 imm==imm else sx 32 imm==imm
theorem fits_is (x b:Int) (v:Bool) (w:World) (hw:Wid w) (h:b=8∨b=16∨b=32∨b=64) (hv:(sx b x==x)=v) :
  Calls Tryz.prog 197 #[.int .i64 x,.int .i64 b] w fun e w'=>e=.returned (.bool v)∧w=w':=by
 rw [← hv]
 exact fits_yes x b w hw h
theorem range_at (f imm:Int) (b:Bool) (w:World) (hw:Wid w) (h:rng f imm=b):Calls Tryz.prog 250 #[.int .i64 f,.int .i64 imm] w fun e w'=>e=.returned (.bool b)∧w=w':=by
 unfold rng at h
 cases h5:f==5
 ·cases h11:f==11
  ·cases h10:f==10
   ·rw [h5,h11,h10] at h
    have H:Hid ((sx 32 imm==imm)=b):=Lib.hid h
    clear h
    go_enter Tryz.func250,Tryz.ntmps250
    go_wp2_with (first|(go_at_call 197;((with_reducible refine (fits_is _ _ _ _ hw (by decide) H.out).mono ?_);rintro e w1 ⟨rfl,rfl⟩)))
    go_ret
    exact⟨rfl,rfl⟩
   ·rw [h5,h11,h10] at h
    have H:Hid ((sx 64 imm==imm)=b):=Lib.hid h
    clear h
    go_enter Tryz.func250,Tryz.ntmps250
    go_wp2_with (first|(go_at_call 197;((with_reducible refine (fits_is _ _ _ _ hw (by decide) H.out).mono ?_);rintro e w1 ⟨rfl,rfl⟩)))
    go_ret
    exact⟨rfl,rfl⟩
  ·rw [h5,h11] at h
   simp only [Bool.false_eq_true,if_false,if_true] at h
   subst h
   cases h1:decide (0≤imm) <;> cases h2:decide (imm<255)
   all_goals
    go_enter Tryz.func250,Tryz.ntmps250
    go_wp2
    go_ret
    exact⟨rfl,rfl⟩
 ·rw [h5] at h
  simp only [if_true] at h
  subst h
  cases h1:decide (1≤imm) <;> cases h2:decide (imm≤3)
  all_goals
   go_enter Tryz.func250,Tryz.ntmps250
   go_wp2
   go_ret
   exact⟨rfl,rfl⟩
section
variable {w:World} {kx kf ku:Nat} {op:Int} {reg:Bool} {dst src off imm f:Int} {vD vS vO vI:Bool}
section
variable (H:Held w kx kf ku op reg dst src off imm f vD vS vO vI) (b:Bool)
include H b
theorem c1_at (h:(f != -1)=b):Calls Tryz.prog 241 #[.pointer (some ⟨kf,0,none⟩)] w fun e w'=>e=.returned (.bool b)∧w=w':=by
 have hc:=cell_of_one H.f
 clear H
 subst h
 go_enter Tryz.func241,Tryz.ntmps241
 go_wp2
 go_ret
 exact⟨rfl,rfl⟩
theorem c2_at (h:(!reg || f==0 || f==4)=b):Calls Tryz.prog 242 #[.pointer (some ⟨kx,0,none⟩),.pointer (some ⟨kf,0,none⟩)] w fun e w'=>e=.returned (.bool b)∧w=w':=by
 have hc:=cell_of_one H.f
 obtain⟨x0,x1,x2,x3,x4,x5⟩:=cells6 H.x
 clear H
 subst h
 cases reg
 ·go_enter Tryz.func242,Tryz.ntmps242
  go_wp2
  go_ret
  exact⟨rfl,rfl⟩
 ·cases h0:f==0 <;> cases h4:f==4
  all_goals
   go_enter Tryz.func242,Tryz.ntmps242
   go_wp2
   go_ret
   exact⟨rfl,rfl⟩
theorem c3_at (h:((vD || dst==0) && (vS || src==0))=b):Calls Tryz.prog 243 #[.pointer (some ⟨ku,0,none⟩),.pointer (some ⟨kx,0,none⟩)] w fun e w'=>e=.returned (.bool b)∧w=w':=by
 obtain⟨u0,u1,u2,u3,_⟩:=cells4 H.u
 obtain⟨x0,x1,x2,x3,x4,x5⟩:=cells6 H.x
 clear H
 obtain⟨a,ha⟩:∃ a,(vD || dst==0)=a:=⟨_,rfl⟩
 obtain⟨c,hc⟩:∃ c,(vS || src==0)=c:=⟨_,rfl⟩
 rw [ha,hc] at h
 have HA:=Lib.hid ha
 have HC:=Lib.hid hc
 clear ha hc
 subst h
 cases a
 ·go_enter Tryz.func243,Tryz.ntmps243
  go_wp2_with (first|(go_at_call 244;((with_reducible refine (zero_at _ _ _ _ HA.out).mono ?_);rintro e w1 ⟨rfl,rfl⟩)))
  go_ret
  exact⟨rfl,rfl⟩
 ·go_enter Tryz.func243,Tryz.ntmps243
  go_wp2_with (first|(go_at_call 244;((with_reducible refine (zero_at _ _ _ _ HA.out).mono ?_);rintro e w1 ⟨rfl,rfl⟩))|(go_at_call 244;((with_reducible refine (zero_at _ _ _ _ HC.out).mono ?_);rintro e w1 ⟨rfl,rfl⟩)))
  go_ret
  exact⟨rfl,rfl⟩
theorem c4_at (h:((vO || off==0) && (vI || imm==0))=b):Calls Tryz.prog 245 #[.pointer (some ⟨ku,0,none⟩),.pointer (some ⟨kx,0,none⟩)] w fun e w'=>e=.returned (.bool b)∧w=w':=by
 obtain⟨u0,u1,u2,u3,_⟩:=cells4 H.u
 obtain⟨x0,x1,x2,x3,x4,x5⟩:=cells6 H.x
 clear H
 obtain⟨a,ha⟩:∃ a,(vO || off==0)=a:=⟨_,rfl⟩
 rw [ha] at h
 have HA:=Lib.hid ha
 clear ha
 subst h
 cases a
 ·go_enter Tryz.func245,Tryz.ntmps245
  go_wp2_with (first|(go_at_call 244;((with_reducible refine (zero_at _ _ _ _ HA.out).mono ?_);rintro e w1 ⟨rfl,rfl⟩)))
  go_ret
  exact⟨rfl,rfl⟩
 ·cases vI
  ·cases hi:imm==0
   all_goals
    go_enter Tryz.func245,Tryz.ntmps245
    go_wp2_with (first|(go_at_call 244;((with_reducible refine (zero_at _ _ _ _ HA.out).mono ?_);rintro e w1 ⟨rfl,rfl⟩)))
    go_ret
    exact⟨rfl,rfl⟩
  ·go_enter Tryz.func245,Tryz.ntmps245
   go_wp2_with (first|(go_at_call 244;((with_reducible refine (zero_at _ _ _ _ HA.out).mono ?_);rintro e w1 ⟨rfl,rfl⟩)))
   go_ret
   exact⟨rfl,rfl⟩
theorem c5_at (h:(isG dst && isG src)=b):Calls Tryz.prog 246 #[.pointer (some ⟨kx,0,none⟩)] w fun e w'=>e=.returned (.bool b)∧w=w':=by
 obtain⟨x0,x1,x2,x3,x4,x5⟩:=cells6 H.x
 clear H
 obtain⟨a,ha⟩:∃ a,isG dst=a:=⟨_,rfl⟩
 obtain⟨c,hc⟩:∃ c,isG src=c:=⟨_,rfl⟩
 rw [ha,hc] at h
 have HA:=Lib.hid ha
 have HC:=Lib.hid hc
 clear ha hc
 subst h
 cases a
 ·go_enter Tryz.func246,Tryz.ntmps246
  go_wp2_with (first|(go_at_call 247;((with_reducible refine (reg_at _ _ _ HA.out).mono ?_);rintro e w1 ⟨rfl,rfl⟩)))
  go_ret
  exact⟨rfl,rfl⟩
 ·go_enter Tryz.func246,Tryz.ntmps246
  go_wp2_with (first|(go_at_call 247;((with_reducible refine (reg_at _ _ _ HA.out).mono ?_);rintro e w1 ⟨rfl,rfl⟩))|(go_at_call 247;((with_reducible refine (reg_at _ _ _ HC.out).mono ?_);rintro e w1 ⟨rfl,rfl⟩)))
  go_ret
  exact⟨rfl,rfl⟩
theorem c6_at (h:(sx 16 off==off)=b):Calls Tryz.prog 248 #[.pointer (some ⟨kx,0,none⟩)] w fun e w'=>e=.returned (.bool b)∧w=w':=by
 obtain⟨x0,x1,x2,x3,x4,x5⟩:=cells6 H.x
 have hw:=H.wid
 have HA:=Lib.hid h
 clear H h
 go_enter Tryz.func248,Tryz.ntmps248
 go_wp2_with (first|(go_at_call 197;((with_reducible refine (fits_is _ _ _ _ hw (by decide) HA.out).mono ?_);rintro e w1 ⟨rfl,rfl⟩)))
 go_ret
 exact⟨rfl,rfl⟩
theorem c7_at (h:rng f imm=b):Calls Tryz.prog 249 #[.pointer (some ⟨kf,0,none⟩),.pointer (some ⟨kx,0,none⟩)] w fun e w'=>e=.returned (.bool b)∧w=w':=by
 obtain⟨x0,x1,x2,x3,x4,x5⟩:=cells6 H.x
 have hc:=cell_of_one H.f
 have hw:=H.wid
 have HA:=Lib.hid h
 clear H h
 go_enter Tryz.func249,Tryz.ntmps249
 go_wp2_with (first|(go_at_call 250;((with_reducible refine (range_at _ _ _ _ hw HA.out).mono ?_);rintro e w1 ⟨rfl,rfl⟩)))
 go_ret
 exact⟨rfl,rfl⟩
end
end
end Go.Proofs.YtdgnjhhieemcaaaGreatDoor.L4
end
