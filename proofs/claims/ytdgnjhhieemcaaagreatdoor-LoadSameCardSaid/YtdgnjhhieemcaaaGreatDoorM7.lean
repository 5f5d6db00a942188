/- Lemmas and walks of L3Base, L3Get: what each theorem states; conditions stand in each theorem. -/
import Derived.Test.YtdgnjhhieemcaaaGreatDoorProg
import Derived.Handy
import Derived.Lib.Hide
import Derived.Lib.Strings
import Derived.OneCell
import Derived.Deep.WholeRow
import Derived.BigQuiet
import Derived.WalkSmall
set_option maxHeartbeats 1000000
set_option maxRecDepth 100000
section
namespace Go.Proofs.YtdgnjhhieemcaaaGreatDoor.L3
open Go.RowKit
theorem bch {w a b:World} (h:Below w.heap.size w a) (k:Below a.heap.size a b):Below w.heap.size w b:=h.trans (k.mono h.size)
def nmL:List (List UInt8) :=
 [[97,100,100,54,52],[115,117,98,54,52],[109,117,108,54,52],[100,105,118,54,52],[111,114,54,52],[97,110,100,54,52],[108,115,104,54,52],[114,115,104,54,52],[109,111,100,54,52],
 [120,111,114,54,52],[109,111,118,54,52],[97,114,115,104,54,52],[115,100,105,118,54,52],[115,109,111,100,54,52],[97,100,100,51,50],[115,117,98,51,50],[109,117,108,51,50],[100,
 105,118,51,50],[111,114,51,50],[97,110,100,51,50],[108,115,104,51,50],[114,115,104,51,50],[109,111,100,51,50],[120,111,114,51,50],[109,111,118,51,50],[97,114,115,104,51,50],
 [115,100,105,118,51,50],[115,109,111,100,51,50],[110,101,103,54,52],[110,101,103,51,50],[109,111,118,115,98,54,52],[109,111,118,115,104,54,52],[109,111,118,115,119,54,52],[109,
 111,118,115,98,51,50],[109,111,118,115,104,51,50],[108,101,49,54],[108,101,51,50],[108,101,54,52],[98,101,49,54],[98,101,51,50],[98,101,54,52],[98,115,119,97,112,49,54],[98,
 115,119,97,112,51,50],[98,115,119,97,112,54,52],[106,97],[106,101,113],[106,103,116],[106,103,101],[106,115,101,116],[106,110,101],[106,115,103,116],[106,115,103,101],[106,108,
 116],[106,108,101],[106,115,108,116],[106,115,108,101],[106,101,113,51,50],[106,103,116,51,50],[106,103,101,51,50],[106,115,101,116,51,50],[106,110,101,51,50],[106,115,103,116,
 51,50],[106,115,103,101,51,50],[106,108,116,51,50],[106,108,101,51,50],[106,115,108,116,51,50],[106,115,108,101,51,50],[99,97,108,108],[101,120,105,116],[108,100,120,98],[108,
 100,120,104],[108,100,120,119],[108,100,120,100,119],[108,100,120,115,98],[108,100,120,115,104],[108,100,120,115,119],[115,116,98],[115,116,104],[115,116,119],[115,116,100,119],
 [115,116,120,98],[115,116,120,104],[115,116,120,119],[115,116,120,100,119],[108,100,100,119],[108,100,109,97,112]]
def fmL:List Nat :=
 [0,0,0,0,0,0,0,0,0,0,0,0,0,0,0,0,0,0,0,0,0,0,0,0,0,0,0,0,1,1,2,2,2,2,2,1,1,1,1,1,1,1,1,1,3,4,4,4,4,4,4,4,4,4,4,4,4,4,4,4,4,4,4,4,4,4,4,5,6,7,7,7,7,
 7,7,7,8,8,8,8,9,9,9,9,10,11]
def btL:List Nat :=
 [64,64,64,64,64,64,64,64,64,64,64,64,64,64,32,32,32,32,32,32,32,32,32,32,32,32,32,32,64,32,64,64,64,32,32,16,32,64,16,32,64,16,32,64,0,64,64,64,64,64,64,64,64,64,64,
 64,32,32,32,32,32,32,32,32,32,32,32,0,0,8,16,32,64,8,16,32,8,16,32,64,8,16,32,64,64,64]
def cdL:List Nat :=
 [7,23,39,55,71,87,103,119,151,167,183,199,55,151,4,20,36,52,68,84,100,116,148,164,180,196,52,148,135,132,191,191,191,188,188,212,212,212,220,220,220,215,215,215,5,21,37,53,
 69,85,101,117,165,181,197,213,22,38,54,70,86,102,118,166,182,198,214,133,149,113,105,97,121,145,137,129,114,106,98,122,115,107,99,123,24,24]
def srL:List Nat :=
 [0,0,0,0,0,0,0,0,0,0,0,0,0,0,0,0,0,0,0,0,0,0,0,0,0,0,0,0,0,0,0,0,0,0,0,0,0,0,0,0,0,0,0,0,0,0,0,0,0,0,0,0,0,0,0,0,0,0,0,0,0,0,0,0,0,0,0,0,0,0,0,0,0,
 0,0,0,0,0,0,0,0,0,0,0,0,1]
def ofL:List Nat :=
 [0,0,0,0,0,0,0,0,0,0,0,0,1,1,0,0,0,0,0,0,0,0,0,0,0,0,1,1,0,0,8,16,32,8,16,0,0,0,0,0,0,0,0,0,0,0,0,0,0,0,0,0,0,0,0,0,0,0,0,0,0,0,0,0,0,0,0,0,0,0,0,0,
 0,0,0,0,0,0,0,0,0,0,0,0,0,0]
def imL:List Nat :=
 [0,0,0,0,0,0,0,0,0,0,0,0,0,0,0,0,0,0,0,0,0,0,0,0,0,0,0,0,0,0,0,0,0,0,0,16,32,64,16,32,64,16,32,64,0,0,0,0,0,0,0,0,0,0,0,0,0,0,0,0,0,0,0,0,0,0,0,0,0,0,
 0,0,0,0,0,0,0,0,0,0,0,0,0,0,0,0]
def nm (k:Nat):ByteArray:=⟨(nmL.getD k []).toArray⟩
def fm (k:Nat):Int:=fmL.getD k 0
def bt (k:Nat):Int:=btL.getD k 0
def cd (k:Nat):Int:=cdL.getD k 0
def sr (k:Nat):Int:=srL.getD k 0
def of (k:Nat):Int:=ofL.getD k 0
def im (k:Nat):Int:=imL.getD k 0
def rowC (k:Nat):Array Value:=#[.string (nm k),.int .i64 (fm k),.int .i64 (bt k),.int .u8 (cd k),.int .i64 (sr k),.int .i64 (of k),.int .i64 (im k)]
def tabC:Array Value:=((List.range 86).flatMap fun k=>(rowC k).toList).toArray
def ix (op:Int):Nat:=if 0≤op∧op<86 then op.toNat else 86
def evOp (P:Program) (a:Act) (o:Oper):Option Value :=
 match o.guard,o.op with
 | none,.move x=>some (a.eval x)
 | none,.assign x=>some (a.eval x)
 | none,.build t parts=>(P.built t (parts.toList.map fun p=>(p.1,a.eval p.2))).map Value.agg
 | _,_=>none
def evOps (P:Program):List Oper→Act→Option Act
 | [],a=>some a
 | o::r,a=>(evOp P a o).bind fun v=>evOps P r (a.put o.dst v)
theorem wpList_evOp {P:Program} {ops:Array Oper} {Q:Exit→Act→World→Prop} {o:Oper} {rest:List Oper} {a:Act} {w:World} {v:Value} (h:evOp P a o=some v)
  (hK:wpList P ops Q rest (a.put o.dst v) w):wpList P ops Q (o::rest) a w:=by
 unfold evOp at h
 split at h
 ·rename_i x hg ho
  cases h
  refine wpList_plain hg fun K hK'=>?_
  unfold Oper.wp
  simp only [execOp,ho,Sem.run_pure]
  exact hK' _ _ hK
 ·rename_i x hg ho
  cases h
  refine wpList_plain hg fun K hK'=>?_
  unfold Oper.wp
  simp only [execOp,ho,Sem.run_pure]
  exact hK' _ _ hK
 ·rename_i t parts hg ho
  have e:(parts.map fun (i,x)=>(i,a.eval x)).toList=parts.toList.map fun p=>(p.1,a.eval p.2):=by
   rw [Array.toList_map]
  obtain⟨cs,hc,rfl⟩:=Option.map_eq_some_iff.1 h
  rw [← e] at hc
  refine wpList_build hg t parts ho (by rw [hc];rfl) ?_
  rw [hc]
  exact hK
 ·cases h
theorem wpList_evOps {P:Program} {ops:Array Oper} {Q:Exit→Act→World→Prop} {rest:List Oper} {w:World} {a':Act}:∀ {l:List Oper} {a:Act},evOps P l a=some a'→wpList P ops Q rest a' w→wpList P ops Q (l++rest) a w
 | [],a,h,hK=>by cases h;exact hK
 | o::r,a,h,hK=>by
  obtain⟨v,hv,hr⟩:=Option.bind_eq_some_iff.1 h
  exact wpList_evOp hv (wpList_evOps hr hK)
theorem wpList_evTake {P:Program} {ops:Array Oper} {Q:Exit→Act→World→Prop} {w:World} (n:Nat) (rest:List Oper) {l:List Oper} {a:Act} (a':Act) (h:evOps P (l.take n) a=some a') (hr:l.drop n=rest) (hK:wpList P ops Q rest a' w):wpList P ops Q l a w:=by
 rw [← List.take_append_drop n l,hr]
 exact wpList_evOps h hK
theorem tab_rows:(List.range 86).map (fun k=>tabC.extract (k*7) (k*7+7))=(List.range 86).map rowC:=by kernel_rfl
theorem tab_at (k:Nat) (hk:k<86):tabC.extract (k*7) (k*7+7)=rowC k:=by
 have h:=congrArg (·[k]?) tab_rows
 simpa [hk] using h
theorem info40:(Tryz.prog.info? 165).map (·.size)=some 7:=by kernel_rfl
theorem run_index_tab (k:Nat) (hk:k<86) (w:World):(Instr.index 225 (.agg tabC) (.int .i64 (k:Int))).run Tryz.prog w=.ok (.agg (rowC k)) w:=by
 have hs:(Go.sizeOf 165).run Tryz.prog w=.ok 7 w:=by kernel_rfl
 have ha:(Go.isAgg 165).run Tryz.prog w=.ok true w:=by kernel_rfl
 have hlt:(0:Int)≤(k:Int)∧(k:Int)<((86:Nat):Int):=by omega
 simp only [Instr.index,asIntOf,Sem.run_bind,Sem.run_pure,Result.andThen_ok,run_underlying Tryz.underlying225,if_pos hlt,hs,part,ha,if_true,Int.toNat_natCast,tab_at k hk]
theorem wpList_index {P:Program} {ops:Array Oper} {Q:Exit→Act→World→Prop} {o:Oper} {rest:List Oper} {a:Act} {w:World} (hg:o.guard=none) (ty:TypeId) (x y:Operand) (ho:o.op=.index ty x y) (v:Value)
  (h:(Instr.index ty (a.eval x) (a.eval y)).run P w=.ok v w) (hK:wpList P ops Q rest (a.put o.dst v) w):wpList P ops Q (o::rest) a w:=by
 refine wpList_plain hg fun K hK'=>?_
 unfold Oper.wp
 simp only [execOp,ho,Sem.run_bind,h,Result.andThen_ok,Sem.run_pure]
 exact hK' _ _ hK
theorem wpList_done {P:Program} {ops:Array Oper} {Q:Exit→Act→World→Prop} {a:Act} {w:World} (h:Q .normal a w):wpList P ops Q [] a w:=h
theorem row_cells (k:Nat):(rowC k).all (·.oneCell')=true:=by simp [rowC,Value.oneCell']
theorem load_row (k:Nat) (w:World):(loadVar 165 ⟨w.heap.size,0,none⟩).run Tryz.prog (w.alloc (.cells (rowC k) 165))=.ok (.agg (rowC k)) (w.alloc (.cells (rowC k) 165)) :=
 run_loadVar_row _ _ 165 165 (rowC k) (0,0) _ (heap_alloc_last w _) Tryz.underlying165 rfl info40
def zeroC:Array Value:=rowC 86
theorem at_in (k:Nat) (hk:k<86) (w:World):Calls Tryz.prog 107 #[.int .i64 (k:Int)] w fun e w'=>e=.returned (.tuple #[.agg (rowC k),.bool true])∧Below w.heap.size w w':=by
 have h1:decide ((k:Int)<0)=false:=by rw [decide_eq_false_iff_not];omega
 have h2:decide ((86:Int)≤(k:Int))=false:=by rw [decide_eq_false_iff_not];omega
 go_enter Tryz.func107,Tryz.ntmps107
 generalize hR:Code.region 3 _ false=R
 go_wp2
 rename_i Q1 K1 hK1
 subst hR
 clear h1 h2
 refine wp_region_list ?_
 refine wpList_evTake 88 [⟨some 99,.index 225 (.tmp 97) (.tmp 98),_,_,_,none⟩,⟨none,.store 165 (.tmp 2) (.tmp 99),_,_,_,none⟩,⟨some 3,.assign (.const (.bool true)),_,_,_,none⟩]
  ⟨([.int .i64 (k:Int),undef,.pointer (some ⟨w.heap.size,0,none⟩),.bool false,.int .i64 (k:Int),.bool false,.bool false,.int .i64 (k:Int),.bool false,.bool false,undef]++((List.range 86).map fun j=>Value.agg (rowC j))++[.agg tabC,.int .i64 (k:Int),undef]).toArray,[]⟩ (by kernel_rfl) rfl ?_
 generalize (List.append _ _).toArray=OPS
 refine wpList_index rfl _ _ _ rfl (.agg (rowC k)) (run_index_tab k hk _) ?_
 refine wpList_store_row rfl _ _ _ rfl w.heap.size (rowC k) (by kernel_rfl) (by kernel_rfl) 165 zeroC (heap_alloc_last w _) (by kernel_rfl) rfl (row_cells k) ?_
 rw [World.setRow_alloc_new]
 refine wpList_evOp (v:=.bool true) rfl (wpList_done (hK1 _ _ (wp_ret ?_)))
 refine bodyPost_ret (v:=.tuple #[.agg (rowC k),.bool true]) ?_ rfl ⟨rfl,(Below.refl _ _).alloc (Nat.le_refl _) _⟩
 rw [results_cell_tmp rfl]
 generalize hp:Array.getD _ 2 undef=p
 obtain rfl:p=.pointer (some ⟨w.heap.size,0,none⟩):=hp.symm.trans (by kernel_rfl)
 generalize hq:Array.getD _ 3 undef=q
 obtain rfl:q=.bool true:=hq.symm.trans (by kernel_rfl)
 simp only [asAddr,Sem.run_pure,Result.andThen_ok,load_row]
theorem zero_res (w:World) (t:Array Value) (h2:t.getD 2 undef=.pointer (some ⟨w.heap.size,0,none⟩)) (h3:t.getD 3 undef=.bool false) :
  ((asAddr (t.getD 2 undef)).run Tryz.prog (w.alloc (.cells zeroC 165))).andThen (fun a w₁=>((loadVar 165 a).run Tryz.prog w₁).andThen fun v w₂=>.ok (Value.tuple #[v,t.getD 3 undef]) w₂)=.ok (Value.tuple #[.agg zeroC,.bool false]) (w.alloc (.cells zeroC 165)):=by
 rw [h2,h3]
 simp only [asAddr,Sem.run_pure,Result.andThen_ok,zeroC,load_row]
theorem at_out (op:Int) (hk:¬ (0≤op∧op<86)) (w:World):Calls Tryz.prog 107 #[.int .i64 op] w fun e w'=>e=.returned (.tuple #[.agg zeroC,.bool false])∧Below w.heap.size w w':=by
 cases h1:decide (op<0)
 ·have h2:decide ((86:Int)≤op)=true:=by rw [decide_eq_true_iff];rw [decide_eq_false_iff_not] at h1;omega
  go_enter Tryz.func107,Tryz.ntmps107
  generalize Code.region 3 _ false=R
  go_wp2
  refine bodyPost_ret (v:=.tuple #[.agg zeroC,.bool false]) ?_ rfl ⟨rfl,(Below.refl _ _).alloc (Nat.le_refl _) _⟩
  rw [results_cell_tmp rfl]
  refine zero_res w _ ?_ ?_ <;> kernel_rfl
 ·go_enter Tryz.func107,Tryz.ntmps107
  generalize Code.region 3 _ false=R
  go_wp2
  refine bodyPost_ret (v:=.tuple #[.agg zeroC,.bool false]) ?_ rfl ⟨rfl,(Below.refl _ _).alloc (Nat.le_refl _) _⟩
  rw [results_cell_tmp rfl]
  refine zero_res w _ ?_ ?_ <;> kernel_rfl
theorem ix_in {op:Int} (h:0≤op∧op<86):((ix op:Nat):Int)=op:=by unfold ix;rw [if_pos h];omega
theorem ix_lt {op:Int} (h:0≤op∧op<86):ix op<86:=by unfold ix;rw [if_pos h];omega
theorem ix_out {op:Int} (h:¬ (0≤op∧op<86)):ix op=86:=by unfold ix;rw [if_neg h]
theorem ix_nat {k:Nat} (h:k<86):ix (k:Int)=k:=by unfold ix;rw [if_pos (by omega)];omega
theorem ix_le (op:Int):ix op≤86:=by unfold ix;split <;> omega
theorem at_any (op:Int) (w:World):Calls Tryz.prog 107 #[.int .i64 op] w fun e w'=>e=.returned (.tuple #[.agg (rowC (ix op)),.bool (decide (ix op<86))])∧Below w.heap.size w w':=by
 by_cases h:0≤op∧op<86
 ·have hl:=ix_lt h
  rw [decide_eq_true hl]
  have:=at_in (ix op) hl w
  rwa [ix_in h] at this
 ·rw [ix_out h]
  exact at_out op h w
structure Is (j:Nat) (s:ByteArray) (f b c r o i:Int):Prop where
 nm:nm j=s
 fm:fm j=f
 bt:bt j=b
 cd:cd j=c
 sr:sr j=r
 of:of j=o
 im:im j=i
theorem Is.some (j:Nat):∃ s f b c r o i,Is j s f b c r o i:=⟨_,_,_,_,_,_,_,⟨rfl,rfl,rfl,rfl,rfl,rfl,rfl⟩⟩
theorem at_is (op:Int) {s:ByteArray} {f b c r o i:Int} {ok:Bool} (w:World) (h:Is (ix op) s f b c r o i) (hk:decide (ix op<86)=ok) :
  Calls Tryz.prog 107 #[.int .i64 op] w fun e w'=>e=.returned (.tuple #[.agg #[.string s,.int .i64 f,.int .i64 b,.int .u8 c,.int .i64 r,.int .i64 o,.int .i64 i],.bool ok])∧Below w.heap.size w w':=by
 obtain⟨rfl,rfl,rfl,rfl,rfl,rfl,rfl⟩:=h
 subst hk
 exact at_any op w
theorem below_drewN {B:Nat} {w w':World} (h:Below B w w') (m:Nat):Below B w (w'.drewN m):=⟨h.1,h.2,h.3,h.4,h.5⟩
theorem bnew (w:World) (o:Obj):Below w.heap.size w (w.alloc o):=(Below.refl _ _).alloc (Nat.le_refl _) _
theorem name_any (op:Int) (w:World):Calls Tryz.prog 295 #[.int .i64 op] w fun e w'=>e=.returned (.string (nm (ix op)))∧Below w.heap.size w w':=by
 obtain⟨s,f,b,c,r,o,i,hI⟩:=Is.some (ix op)
 obtain⟨ok,hok⟩:∃ ok,decide (ix op<86)=ok:=⟨_,rfl⟩
 have HI:=Lib.hid hI
 have HK:=Lib.hid hok
 rw [HI.out.nm]
 clear hI hok
 go_enter Tryz.func295,Tryz.ntmps295
 go_wp2_with (go_at_call 107;((with_reducible refine (at_is op _ HI.out HK.out).mono ?_);rintro e w1 ⟨rfl,hb1⟩))
 go_ret
 exact⟨rfl,hb1.alloc hb1.size _⟩
def frm (j:Nat):Int:=if j<86 then fm j else -1
theorem form_any (op:Int) (w:World):Calls Tryz.prog 62 #[.int .i64 op] w fun e w'=>e=.returned (.int .i64 (frm (ix op)))∧Below w.heap.size w w':=by
 obtain⟨s,f,b,c,r,o,i,hI⟩:=Is.some (ix op)
 have HI:=Lib.hid hI
 unfold frm
 rw [HI.out.fm]
 clear hI
 by_cases h:ix op<86
 ·rw [if_pos h]
  have HK:Hid (decide (ix op<86)=true):=Lib.hid (by rw [decide_eq_true_iff];exact h)
  clear h
  go_enter Tryz.func62,Tryz.ntmps62
  go_wp2_with (go_at_call 107;((with_reducible refine (at_is op _ HI.out HK.out).mono ?_);rintro e w1 ⟨rfl,hb1⟩))
  go_ret
  exact⟨rfl,hb1.alloc hb1.size _⟩
 ·rw [if_neg h]
  have HK:Hid (decide (ix op<86)=false):=Lib.hid (by rw [decide_eq_false_iff_not];exact h)
  clear h
  go_enter Tryz.func62,Tryz.ntmps62
  go_wp2_with (go_at_call 107;((with_reducible refine (at_is op _ HI.out HK.out).mono ?_);rintro e w1 ⟨rfl,hb1⟩))
  go_ret
  exact⟨rfl,hb1.alloc hb1.size _⟩
theorem fixed_any (op:Int) (w:World):Calls Tryz.prog 168 #[.int .i64 op] w fun e w'=>e=.returned (.tuple #[.int .i64 (sr (ix op)),.int .i64 (of (ix op)),.int .i64 (im (ix op))])∧Below w.heap.size w w':=by
 obtain⟨s,f,b,c,r,o,i,hI⟩:=Is.some (ix op)
 obtain⟨ok,hok⟩:∃ ok,decide (ix op<86)=ok:=⟨_,rfl⟩
 have HI:=Lib.hid hI
 have HK:=Lib.hid hok
 rw [HI.out.sr,HI.out.of,HI.out.im]
 clear hI hok
 go_enter Tryz.func168,Tryz.ntmps168
 go_wp2_with (go_at_call 107;((with_reducible refine (at_is op _ HI.out HK.out).mono ?_);rintro e w1 ⟨rfl,hb1⟩))
 go_quiet (fail)
 go_wp2
 go_ret3
 exact⟨rfl,below_drewN (hb1.alloc hb1.size _) _⟩
def isR (f:Int):Bool:=f==0 || f==4
theorem takes_at (s:ByteArray) (f b c r o i:Int) (t:Bool) (w:World) (h:isR f=t):Calls Tryz.prog 216 #[.agg #[.string s,.int .i64 f,.int .i64 b,.int .u8 c,.int .i64 r,.int .i64 o,.int .i64 i]] w fun e w'=>e=.returned (.bool t)∧w'=w.alloc (.cells #[.string s,.int .i64 f,.int .i64 b,.int .u8 c,.int .i64 r,.int .i64 o,.int .i64 i] 165):=by
 subst h
 unfold isR
 cases h1:f==0 <;> cases h2:f==4
 all_goals
  go_enter Tryz.func216,Tryz.ntmps216
  go_wp2
  go_ret
  exact⟨rfl,rfl⟩
def wiR (f src r:Int):Int:=if f==10 || f==11 then src else r
def wiO (f off o:Int):Int:=if f==0 || f==2 then off else o
def wiI (f imm i:Int):Int:=if f==1 && i != 0 then imm else i
theorem with_at (s:ByteArray) (f b c r o i src off imm r' o' i':Int) (w:World) (hr:wiR f src r=r') (ho:wiO f off o=o') (hi:wiI f imm i=i'):Calls Tryz.prog 288 #[.agg #[.string s,.int .i64 f,.int .i64 b,.int .u8 c,.int .i64 r,.int .i64 o,.int .i64 i],.int .i64 src,.int .i64 off,.int .i64 imm] w fun e w' =>
  e=.returned (.agg #[.string s,.int .i64 f,.int .i64 b,.int .u8 c,.int .i64 r',.int .i64 o',.int .i64 i'])∧Below w.heap.size w w':=by
 cases h0:f==0
 ·cases h2:f==2
  ·cases h1:f==1
   ·cases h10:f==10
    ·cases h11:f==11
     ·obtain rfl:r'=r:=by rw [← hr,wiR,h10,h11];rfl
      obtain rfl:o'=o:=by rw [← ho,wiO,h0,h2];rfl
      obtain rfl:i'=i:=by rw [← hi,wiI,h1];rfl
      clear hr ho hi
      go_enter Tryz.func288,Tryz.ntmps288
      go_wp2
      refine bodyPost_ret (v:=.agg #[.string s,.int .i64 f,.int .i64 b,.int .u8 c,.int .i64 r',.int .i64 o',.int .i64 i']) (by simp [results,Tryz.results288,go_sem]) rfl ⟨rfl,bch (bnew w _) (bnew _ _)⟩
     ·obtain rfl:f=11:=by simpa using h11
      obtain rfl:r'=src:=hr.symm
      obtain rfl:o'=o:=ho.symm
      obtain rfl:i'=i:=hi.symm
      clear hr ho hi h0 h1 h2 h10 h11
      go_enter Tryz.func288,Tryz.ntmps288
      go_wp2
      refine bodyPost_ret (v:=.agg #[.string s,.int .i64 11,.int .i64 b,.int .u8 c,.int .i64 r',.int .i64 o',.int .i64 i']) (by simp [results,Tryz.results288,go_sem]) rfl ⟨rfl,bch (bnew w _) (bnew _ _)⟩
    ·obtain rfl:f=10:=by simpa using h10
     obtain rfl:r'=src:=hr.symm
     obtain rfl:o'=o:=ho.symm
     obtain rfl:i'=i:=hi.symm
     clear hr ho hi h0 h1 h2 h10
     go_enter Tryz.func288,Tryz.ntmps288
     go_wp2
     refine bodyPost_ret (v:=.agg #[.string s,.int .i64 10,.int .i64 b,.int .u8 c,.int .i64 r',.int .i64 o',.int .i64 i']) (by simp [results,Tryz.results288,go_sem]) rfl ⟨rfl,bch (bnew w _) (bnew _ _)⟩
   ·obtain rfl:f=1:=by simpa using h1
    obtain rfl:r'=r:=hr.symm
    obtain rfl:o'=o:=ho.symm
    cases hz:i != 0
    ·obtain rfl:i'=i:=by rw [← hi,wiI,hz];rfl
     clear hr ho hi h0 h1 h2
     go_enter Tryz.func288,Tryz.ntmps288
     go_wp2
     refine bodyPost_ret (v:=.agg #[.string s,.int .i64 1,.int .i64 b,.int .u8 c,.int .i64 r',.int .i64 o',.int .i64 i']) (by simp [results,Tryz.results288,go_sem]) rfl ⟨rfl,bch (bnew w _) (bnew _ _)⟩
    ·obtain rfl:i'=imm:=by rw [← hi,wiI,hz];rfl
     clear hr ho hi h0 h1 h2
     go_enter Tryz.func288,Tryz.ntmps288
     go_wp2
     refine bodyPost_ret (v:=.agg #[.string s,.int .i64 1,.int .i64 b,.int .u8 c,.int .i64 r',.int .i64 o',.int .i64 i']) (by simp [results,Tryz.results288,go_sem]) rfl ⟨rfl,bch (bnew w _) (bnew _ _)⟩
  ·obtain rfl:f=2:=by simpa using h2
   obtain rfl:r'=r:=hr.symm
   obtain rfl:o'=off:=ho.symm
   obtain rfl:i'=i:=hi.symm
   clear hr ho hi h0 h2
   go_enter Tryz.func288,Tryz.ntmps288
   go_wp2
   refine bodyPost_ret (v:=.agg #[.string s,.int .i64 2,.int .i64 b,.int .u8 c,.int .i64 r',.int .i64 o',.int .i64 i']) (by simp [results,Tryz.results288,go_sem]) rfl ⟨rfl,bch (bnew w _) (bnew _ _)⟩
 ·obtain rfl:f=0:=by simpa using h0
  obtain rfl:r'=r:=hr.symm
  obtain rfl:o'=off:=ho.symm
  obtain rfl:i'=i:=hi.symm
  clear hr ho hi h0
  go_enter Tryz.func288,Tryz.ntmps288
  go_wp2
  refine bodyPost_ret (v:=.agg #[.string s,.int .i64 0,.int .i64 b,.int .u8 c,.int .i64 r',.int .i64 o',.int .i64 i']) (by simp [results,Tryz.results288,go_sem]) rfl ⟨rfl,bch (bnew w _) (bnew _ _)⟩
def cd8 (j:Nat):Int:=IntKind.u8.wrap (cd j+8)
def cdB (j:Nat) (reg:Bool):Bool:=decide (j<86) && (!reg || isR (fm j))
def cdV (j:Nat) (reg:Bool):Int:=if cdB j reg then (if reg then cd8 j else cd j) else 0
theorem code_at (op:Int) (reg:Bool) (v:Int) (ok:Bool) (w:World) (hv:cdV (ix op) reg=v) (hk:cdB (ix op) reg=ok):Calls Tryz.prog 167 #[.int .i64 op,.bool reg] w fun e w'=>e=.returned (.tuple #[.int .u8 v,.bool ok])∧Below w.heap.size w w':=by
 subst hv hk
 obtain⟨s,f,b,c,r,o,i,hI⟩:=Is.some (ix op)
 obtain⟨t,ht⟩:∃ t,isR f=t:=⟨_,rfl⟩
 obtain⟨ok,hok⟩:∃ ok,decide (ix op<86)=ok:=⟨_,rfl⟩
 have HI:=Lib.hid hI
 have HK:=Lib.hid hok
 have HT:=Lib.hid ht
 have hB:cdB (ix op) reg=(ok && (!reg || t)):=by rw [cdB,hok,hI.fm,ht]
 have hV:cdV (ix op) reg=if (ok && (!reg || t)) then (if reg then IntKind.u8.wrap (c+8) else c) else 0:=by rw [cdV,hB,cd8,hI.cd]
 rw [hB,hV]
 clear hI hok ht hB hV
 cases ok
 ·go_enter Tryz.func167,Tryz.ntmps167
  go_wp2_with (first|(go_at_call 107;((with_reducible refine (at_is op _ HI.out HK.out).mono ?_);rintro e w1 ⟨rfl,hb1⟩))|(go_at_call 216;((with_reducible refine (takes_at _ _ _ _ _ _ _ _ _ HT.out).mono ?_);rintro e w2 ⟨rfl,rfl⟩)))
  go_ret2
  exact⟨rfl,hb1.alloc hb1.size _⟩
 cases reg
 ·go_enter Tryz.func167,Tryz.ntmps167
  go_wp2_with (first|(go_at_call 107;((with_reducible refine (at_is op _ HI.out HK.out).mono ?_);rintro e w1 ⟨rfl,hb1⟩))|(go_at_call 216;((with_reducible refine (takes_at _ _ _ _ _ _ _ _ _ HT.out).mono ?_);rintro e w2 ⟨rfl,rfl⟩)))
  go_ret2
  exact⟨rfl,hb1.alloc hb1.size _⟩
 cases t
 ·go_enter Tryz.func167,Tryz.ntmps167
  go_wp2_with (first|(go_at_call 107;((with_reducible refine (at_is op _ HI.out HK.out).mono ?_);rintro e w1 ⟨rfl,hb1⟩))|(go_at_call 216;((with_reducible refine (takes_at _ _ _ _ _ _ _ _ _ HT.out).mono ?_);rintro e w2 ⟨rfl,rfl⟩)))
  go_ret2
  exact⟨rfl,bch (hb1.alloc hb1.size _) (bnew _ _)⟩
 ·go_enter Tryz.func167,Tryz.ntmps167
  go_wp2_with (first|(go_at_call 107;((with_reducible refine (at_is op _ HI.out HK.out).mono ?_);rintro e w1 ⟨rfl,hb1⟩))|(go_at_call 216;((with_reducible refine (takes_at _ _ _ _ _ _ _ _ _ HT.out).mono ?_);rintro e w2 ⟨rfl,rfl⟩)))
  go_ret2
  exact⟨rfl,bch (hb1.alloc hb1.size _) (bnew _ _)⟩
end Go.Proofs.YtdgnjhhieemcaaaGreatDoor.L3
end
