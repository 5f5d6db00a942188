/- What the great condition of the reference's Check comes to, stage by stage. No condition but that the numbers are of their kinds. -/
import Derived.Test.YtihiggnglmhggaaGreatDoorM11
import Derived.Deep.DeepCutAuto
set_option maxRecDepth 100000
set_option maxHeartbeats 2000000
namespace Go.Proofs.YtihiggnglmhggaaGreatDoor.L4
open Go.RowKit L3 L1
def rZ (f:Int) (reg vD vS vO vI:Bool) (dst src off imm:Int):Bool:=((((reg && f != 0 && f != 4) || (!vD && dst != 0)) || (!vS && src != 0)) || (!vO && off != 0)) || (!vI && imm != 0)
def rY (off:Int):Bool:=decide (off < -32768) || decide (32767<off)
def rX (f imm:Int):Bool:=(f==5 && (decide (imm<1) || decide (3<imm))) || (f==11 && (decide (imm<0) || decide (254<imm))) || (f != 10 && sx 32 imm != imm)
def rchk (n z g y x:Bool):Int:=if n then 6 else if z then 12 else if !g then 5 else if y then 4 else if x then 4 else 0
abbrev Rstage1:Array Oper:=#[⟨some 9,.fieldAddr 45 (.tmp 1) 1,0, "ref.go:47",#[],none⟩,⟨some 10,.load 4 (.tmp 9),4, "ref.go:47",#[⟨0,.data⟩],none⟩,⟨some 11,.move (.tmp 10),4, "ref.go:47",#[⟨1,.data⟩],none⟩,⟨some 12,.move (.tmp 3),3, "ref.go:47",#[⟨2,.guard⟩],some (2,true)⟩,⟨some 13,.binOp .neq 3 (.tmp 12) (.const (.int .i64 0)) 3,4, "ref.go:47",#[⟨3,.data⟩,⟨2,.guard⟩],some (2,true)⟩,⟨some 14,.pick (.tmp 11) (.tmp 13) (.const (.bool false)),4, "ref.go:47",#[⟨2,.data⟩,⟨4,.data⟩],none⟩,⟨some 15,.move (.tmp 14),4, "ref.go:47",#[⟨5,.data⟩,⟨2,.chain⟩],none⟩,⟨some 16,.move (.tmp 3),3, "ref.go:47",#[⟨6,.guard⟩],some (6,true)⟩,⟨some 17,.binOp .neq 3 (.tmp 16) (.const (.int .i64 4)) 3,4, "ref.go:47",#[⟨7,.data⟩,⟨6,.guard⟩],some (6,true)⟩,⟨some 18,.pick (.tmp 15) (.tmp 17) (.const (.bool false)),4, "ref.go:47",#[⟨6,.data⟩,⟨8,.data⟩],none⟩,⟨some 19,.move (.tmp 18),4, "ref.go:47",#[⟨9,.data⟩,⟨6,.chain⟩],none⟩,⟨some 20,.fieldAddr 45 (.tmp 1) 0,0, "ref.go:47",#[⟨10,.guard⟩],some (10,false)⟩,⟨some 21,.load 3 (.tmp 20),3, "ref.go:47",#[⟨11,.data⟩,⟨10,.guard⟩],some (10,false)⟩,⟨some 22,.call { callee:=.value (.func 120),args:=#[.tmp 21],argTypes:=#[3] },4, "ref.go:47",#[⟨12,.data⟩,⟨10,.chain⟩,⟨10,.guard⟩],some (10,false)⟩,⟨some 23,.unOp .not 4 (.tmp 22),4, "ref.go:47",#[⟨13,.data⟩,⟨10,.guard⟩],some (10,false)⟩,⟨some 24,.move (.tmp 23),4, "ref.go:47",#[⟨14,.data⟩,⟨13,.chain⟩,⟨10,.guard⟩],some (10,false)⟩,⟨some 25,.fieldAddr 45 (.tmp 1) 2,0, "ref.go:47",#[⟨15,.guard⟩],some (15,true)⟩,⟨some 26,.load 3 (.tmp 25),3, "ref.go:47",#[⟨16,.data⟩,⟨15,.guard⟩],some (15,true)⟩,⟨some 27,.binOp .neq 3 (.tmp 26) (.const (.int .i64 0)) 3,4, "ref.go:47",#[⟨17,.data⟩,⟨15,.guard⟩],some (15,true)⟩,⟨some 28,.pick (.tmp 24) (.tmp 27) (.const (.bool false)),4, "ref.go:47",#[⟨15,.data⟩,⟨18,.data⟩,⟨10,.guard⟩],some (10,false)⟩,⟨some 29,.pick (.tmp 19) (.const (.bool true)) (.tmp 28),4, "ref.go:47",#[⟨10,.data⟩,⟨19,.data⟩],none⟩,⟨some 30,.move (.tmp 29),4, "ref.go:47",#[⟨20,.data⟩,⟨15,.chain⟩],none⟩,⟨some 31,.fieldAddr 45 (.tmp 1) 0,0, "ref.go:47",#[⟨21,.guard⟩],some (21,false)⟩,⟨some 32,.load 3 (.tmp 31),3, "ref.go:47",#[⟨22,.data⟩,⟨21,.guard⟩],some (21,false)⟩,⟨some 33,.fieldAddr 45 (.tmp 1) 1,0, "ref.go:47",#[⟨21,.guard⟩],some (21,false)⟩,⟨some 34,.load 4 (.tmp 33),4, "ref.go:47",#[⟨24,.data⟩,⟨21,.guard⟩],some (21,false)⟩,⟨some 35,.call { callee:=.value (.func 121),args:=#[.tmp 32,.tmp 34],argTypes:=#[3,4] },4, "ref.go:47",#[⟨23,.data⟩,⟨25,.data⟩,⟨21,.chain⟩,⟨21,.guard⟩],some (21,false)⟩,⟨some 36,.unOp .not 4 (.tmp 35),4, "ref.go:47",#[⟨26,.data⟩,⟨21,.guard⟩],some (21,false)⟩,⟨some 37,.move (.tmp 36),4, "ref.go:47",#[⟨27,.data⟩,⟨26,.chain⟩,⟨21,.guard⟩],some (21,false)⟩,⟨some 38,.fieldAddr 45 (.tmp 1) 3,0, "ref.go:47",#[⟨28,.guard⟩],some (28,true)⟩,⟨some 39,.load 3 (.tmp 38),3, "ref.go:47",#[⟨29,.data⟩,⟨28,.guard⟩],some (28,true)⟩,⟨some 40,.binOp .neq 3 (.tmp 39) (.const (.int .i64 0)) 3,4, "ref.go:47",#[⟨30,.data⟩,⟨28,.guard⟩],some (28,true)⟩,⟨some 41,.pick (.tmp 37) (.tmp 40) (.const (.bool false)),4, "ref.go:47",#[⟨28,.data⟩,⟨31,.data⟩,⟨21,.guard⟩],some (21,false)⟩,⟨some 42,.pick (.tmp 30) (.const (.bool true)) (.tmp 41),4, "ref.go:47",#[⟨21,.data⟩,⟨32,.data⟩],none⟩,⟨some 43,.move (.tmp 42),4, "ref.go:47",#[⟨33,.data⟩,⟨28,.chain⟩],none⟩,⟨some 44,.fieldAddr 45 (.tmp 1) 0,0, "ref.go:47",#[⟨34,.guard⟩],some (34,false)⟩,⟨some 45,.load 3 (.tmp 44),3, "ref.go:47",#[⟨35,.data⟩,⟨34,.guard⟩],some (34,false)⟩,⟨some 46,.call { callee:=.value (.func 122),args:=#[.tmp 45],argTypes:=#[3] },4, "ref.go:47",#[⟨36,.data⟩,⟨34,.chain⟩,⟨34,.guard⟩],some (34,false)⟩,⟨some 47,.unOp .not 4 (.tmp 46),4, "ref.go:47",#[⟨37,.data⟩,⟨34,.guard⟩],some (34,false)⟩,⟨some 48,.move (.tmp 47),4, "ref.go:47",#[⟨38,.data⟩,⟨37,.chain⟩,⟨34,.guard⟩],some (34,false)⟩,⟨some 49,.fieldAddr 45 (.tmp 1) 4,0, "ref.go:47",#[⟨39,.guard⟩],some (39,true)⟩,⟨some 50,.load 3 (.tmp 49),3, "ref.go:47",#[⟨40,.data⟩,⟨39,.guard⟩],some (39,true)⟩,⟨some 51,.binOp .neq 3 (.tmp 50) (.const (.int .i64 0)) 3,4, "ref.go:47",#[⟨41,.data⟩,⟨39,.guard⟩],some (39,true)⟩,⟨some 52,.pick (.tmp 48) (.tmp 51) (.const (.bool false)),4, "ref.go:47",#[⟨39,.data⟩,⟨42,.data⟩,⟨34,.guard⟩],some (34,false)⟩,⟨some 53,.pick (.tmp 43) (.const (.bool true)) (.tmp 52),4, "ref.go:47",#[⟨34,.data⟩,⟨43,.data⟩],none⟩,⟨some 54,.move (.tmp 53),4, "ref.go:47",#[⟨44,.data⟩,⟨39,.chain⟩],none⟩,⟨some 55,.fieldAddr 45 (.tmp 1) 0,0, "ref.go:47",#[⟨45,.guard⟩],some (45,false)⟩,⟨some 56,.load 3 (.tmp 55),3, "ref.go:47",#[⟨46,.data⟩,⟨45,.guard⟩],some (45,false)⟩,⟨some 57,.fieldAddr 45 (.tmp 1) 1,0, "ref.go:47",#[⟨45,.guard⟩],some (45,false)⟩,⟨some 58,.load 4 (.tmp 57),4, "ref.go:47",#[⟨48,.data⟩,⟨45,.guard⟩],some (45,false)⟩,⟨some 59,.call { callee:=.value (.func 123),args:=#[.tmp 56,.tmp 58],argTypes:=#[3,4] },4, "ref.go:47",#[⟨47,.data⟩,⟨49,.data⟩,⟨45,.chain⟩,⟨45,.guard⟩],some (45,false)⟩,⟨some 60,.unOp .not 4 (.tmp 59),4, "ref.go:47",#[⟨50,.data⟩,⟨45,.guard⟩],some (45,false)⟩,⟨some 61,.move (.tmp 60),4, "ref.go:47",#[⟨51,.data⟩,⟨50,.chain⟩,⟨45,.guard⟩],some (45,false)⟩,⟨some 62,.fieldAddr 45 (.tmp 1) 5,0, "ref.go:47",#[⟨52,.guard⟩],some (52,true)⟩,⟨some 63,.load 2 (.tmp 62),2, "ref.go:47",#[⟨53,.data⟩,⟨52,.guard⟩],some (52,true)⟩,⟨some 64,.binOp .neq 2 (.tmp 63) (.const (.int .i64 0)) 2,4, "ref.go:47",#[⟨54,.data⟩,⟨52,.guard⟩],some (52,true)⟩,⟨some 65,.pick (.tmp 61) (.tmp 64) (.const (.bool false)),4, "ref.go:47",#[⟨52,.data⟩,⟨55,.data⟩,⟨45,.guard⟩],some (45,false)⟩,⟨some 66,.pick (.tmp 54) (.const (.bool true)) (.tmp 65),4, "ref.go:47",#[⟨45,.data⟩,⟨56,.data⟩],none⟩]
theorem extend_is (x v:Int) (w:World) (hv:sx 32 x=v) :
  Calls Tryz.prog 74 #[.int .u64 (IntKind.u64.wrap x),.int .i64 32] w fun e w'=>e=.returned (.int .i64 v)∧w=w':=by
 subst hv
 have h0:0≤IntKind.u64.wrap x:=by rw [IntKind.wrap_u64];omega
 have h1:IntKind.u64.wrap x<18446744073709551616:=by rw [IntKind.wrap_u64];omega
 have e:sx 32 x=sx 32 (IntKind.u64.wrap x):=by rw [IntKind.wrap_u64,sx_mod]
 rw [e]
 exact rextend_32 (IntKind.u64.wrap x) w h0 h1
structure Ins6 (w:World) (k:Nat) (op:Int) (reg:Bool) (dst src off imm:Int):Prop where
 x:w.heap[k]?=some (.cells #[.int .i64 op,.bool reg,.int .i64 dst,.int .i64 src,.int .i64 off,.int .i64 imm] 45)
theorem Ins6.below {w w':World} {k:Nat} {op:Int} {reg:Bool} {dst src off imm:Int} (h:Ins6 w k op reg dst src off imm) (hb:Below w.heap.size w w'):Ins6 w' k op reg dst src off imm:=⟨(hb.block _ (lt_of_block h.x)).trans h.x⟩
abbrev R16:Array Oper :=
 #[⟨some 9,.fieldAddr 45 (.tmp 1) 1,0, "ref.go:47",#[],none⟩,⟨some 10,.load 4 (.tmp 9),4, "ref.go:47",#[⟨0,.data⟩],none⟩,⟨some 11,.move (.tmp 10),4, "ref.go:47",#[⟨1,.data⟩],none⟩,⟨some 12,.move (.tmp 3),3, "ref.go:47",#[⟨2,.guard⟩],some (2,true)⟩,⟨some 13,.binOp .neq 3 (.tmp 12) (.const (.int .i64 0)) 3,4, "ref.go:47",#[⟨3,.data⟩,⟨2,.guard⟩],some (2,true)⟩,⟨some 14,.pick (.tmp 11) (.tmp 13) (.const (.bool false)),4, "ref.go:47",#[⟨2,.data⟩,⟨4,.data⟩],none⟩,⟨some 15,.move (.tmp 14),4, "ref.go:47",#[⟨5,.data⟩,⟨2,.chain⟩],none⟩,⟨some 16,.move (.tmp 3),3, "ref.go:47",#[⟨6,.guard⟩],some (6,true)⟩,⟨some 17,.binOp .neq 3 (.tmp 16) (.const (.int .i64 4)) 3,4, "ref.go:47",#[⟨7,.data⟩,⟨6,.guard⟩],some (6,true)⟩,⟨some 18,.pick (.tmp 15) (.tmp 17) (.const (.bool false)),4, "ref.go:47",#[⟨6,.data⟩,⟨8,.data⟩],none⟩,⟨some 19,.move (.tmp 18),4, "ref.go:47",#[⟨9,.data⟩,⟨6,.chain⟩],none⟩,⟨some 20,.fieldAddr 45 (.tmp 1) 0,0, "ref.go:47",#[⟨10,.guard⟩],some (10,false)⟩,⟨some 21,.load 3 (.tmp 20),3, "ref.go:47",#[⟨11,.data⟩,⟨10,.guard⟩],some (10,false)⟩,⟨some 22,.call { callee:=.value (.func 120),args:=#[.tmp 21],argTypes:=#[3] },4, "ref.go:47",#[⟨12,.data⟩,⟨10,.chain⟩,⟨10,.guard⟩],some (10,false)⟩,⟨some 23,.unOp .not 4 (.tmp 22),4, "ref.go:47",#[⟨13,.data⟩,⟨10,.guard⟩],some (10,false)⟩,⟨some 24,.move (.tmp 23),4, "ref.go:47",#[⟨14,.data⟩,⟨13,.chain⟩,⟨10,.guard⟩],some (10,false)⟩,⟨some 25,.fieldAddr 45 (.tmp 1) 2,0, "ref.go:47",#[⟨15,.guard⟩],some (15,true)⟩,⟨some 26,.load 3 (.tmp 25),3, "ref.go:47",#[⟨16,.data⟩,⟨15,.guard⟩],some (15,true)⟩,⟨some 27,.binOp .neq 3 (.tmp 26) (.const (.int .i64 0)) 3,4, "ref.go:47",#[⟨17,.data⟩,⟨15,.guard⟩],some (15,true)⟩,⟨some 28,.pick (.tmp 24) (.tmp 27) (.const (.bool false)),4, "ref.go:47",#[⟨15,.data⟩,⟨18,.data⟩,⟨10,.guard⟩],some (10,false)⟩,⟨some 29,.pick (.tmp 19) (.const (.bool true)) (.tmp 28),4, "ref.go:47",#[⟨10,.data⟩,⟨19,.data⟩],none⟩,⟨some 30,.move (.tmp 29),4, "ref.go:47",#[⟨20,.data⟩,⟨15,.chain⟩],none⟩,⟨some 31,.fieldAddr 45 (.tmp 1) 0,0, "ref.go:47",#[⟨21,.guard⟩],some (21,false)⟩,⟨some 32,.load 3 (.tmp 31),3, "ref.go:47",#[⟨22,.data⟩,⟨21,.guard⟩],some (21,false)⟩,⟨some 33,.fieldAddr 45 (.tmp 1) 1,0, "ref.go:47",#[⟨21,.guard⟩],some (21,false)⟩,⟨some 34,.load 4 (.tmp 33),4, "ref.go:47",#[⟨24,.data⟩,⟨21,.guard⟩],some (21,false)⟩,⟨some 35,.call { callee:=.value (.func 121),args:=#[.tmp 32,.tmp 34],argTypes:=#[3,4] },4, "ref.go:47",#[⟨23,.data⟩,⟨25,.data⟩,⟨21,.chain⟩,⟨21,.guard⟩],some (21,false)⟩,⟨some 36,.unOp .not 4 (.tmp 35),4, "ref.go:47",#[⟨26,.data⟩,⟨21,.guard⟩],some (21,false)⟩,⟨some 37,.move (.tmp 36),4, "ref.go:47",#[⟨27,.data⟩,⟨26,.chain⟩,⟨21,.guard⟩],some (21,false)⟩,⟨some 38,.fieldAddr 45 (.tmp 1) 3,0, "ref.go:47",#[⟨28,.guard⟩],some (28,true)⟩,⟨some 39,.load 3 (.tmp 38),3, "ref.go:47",#[⟨29,.data⟩,⟨28,.guard⟩],some (28,true)⟩,⟨some 40,.binOp .neq 3 (.tmp 39) (.const (.int .i64 0)) 3,4, "ref.go:47",#[⟨30,.data⟩,⟨28,.guard⟩],some (28,true)⟩,⟨some 41,.pick (.tmp 37) (.tmp 40) (.const (.bool false)),4, "ref.go:47",#[⟨28,.data⟩,⟨31,.data⟩,⟨21,.guard⟩],some (21,false)⟩,⟨some 42,.pick (.tmp 30) (.const (.bool true)) (.tmp 41),4, "ref.go:47",#[⟨21,.data⟩,⟨32,.data⟩],none⟩,⟨some 43,.move (.tmp 42),4, "ref.go:47",#[⟨33,.data⟩,⟨28,.chain⟩],none⟩,⟨some 44,.fieldAddr 45 (.tmp 1) 0,0, "ref.go:47",#[⟨34,.guard⟩],some (34,false)⟩,⟨some 45,.load 3 (.tmp 44),3, "ref.go:47",#[⟨35,.data⟩,⟨34,.guard⟩],some (34,false)⟩,⟨some 46,.call { callee:=.value (.func 122),args:=#[.tmp 45],argTypes:=#[3] },4, "ref.go:47",#[⟨36,.data⟩,⟨34,.chain⟩,⟨34,.guard⟩],some (34,false)⟩,⟨some 47,.unOp .not 4 (.tmp 46),4, "ref.go:47",#[⟨37,.data⟩,⟨34,.guard⟩],some (34,false)⟩,⟨some 48,.move (.tmp 47),4, "ref.go:47",#[⟨38,.data⟩,⟨37,.chain⟩,⟨34,.guard⟩],some (34,false)⟩,⟨some 49,.fieldAddr 45 (.tmp 1) 4,0, "ref.go:47",#[⟨39,.guard⟩],some (39,true)⟩,⟨some 50,.load 3 (.tmp 49),3, "ref.go:47",#[⟨40,.data⟩,⟨39,.guard⟩],some (39,true)⟩,⟨some 51,.binOp .neq 3 (.tmp 50) (.const (.int .i64 0)) 3,4, "ref.go:47",#[⟨41,.data⟩,⟨39,.guard⟩],some (39,true)⟩,⟨some 52,.pick (.tmp 48) (.tmp 51) (.const (.bool false)),4, "ref.go:47",#[⟨39,.data⟩,⟨42,.data⟩,⟨34,.guard⟩],some (34,false)⟩,⟨some 53,.pick (.tmp 43) (.const (.bool true)) (.tmp 52),4, "ref.go:47",#[⟨34,.data⟩,⟨43,.data⟩],none⟩,⟨some 54,.move (.tmp 53),4, "ref.go:47",#[⟨44,.data⟩,⟨39,.chain⟩],none⟩,⟨some 55,.fieldAddr 45 (.tmp 1) 0,0, "ref.go:47",#[⟨45,.guard⟩],some (45,false)⟩,⟨some 56,.load 3 (.tmp 55),3, "ref.go:47",#[⟨46,.data⟩,⟨45,.guard⟩],some (45,false)⟩,⟨some 57,.fieldAddr 45 (.tmp 1) 1,0, "ref.go:47",#[⟨45,.guard⟩],some (45,false)⟩,⟨some 58,.load 4 (.tmp 57),4, "ref.go:47",#[⟨48,.data⟩,⟨45,.guard⟩],some (45,false)⟩,⟨some 59,.call { callee:=.value (.func 123),args:=#[.tmp 56,.tmp 58],argTypes:=#[3,4] },4, "ref.go:47",#[⟨47,.data⟩,⟨49,.data⟩,⟨45,.chain⟩,⟨45,.guard⟩],some (45,false)⟩,⟨some 60,.unOp .not 4 (.tmp 59),4, "ref.go:47",#[⟨50,.data⟩,⟨45,.guard⟩],some (45,false)⟩,⟨some 61,.move (.tmp 60),4, "ref.go:47",#[⟨51,.data⟩,⟨50,.chain⟩,⟨45,.guard⟩],some (45,false)⟩,⟨some 62,.fieldAddr 45 (.tmp 1) 5,0, "ref.go:47",#[⟨52,.guard⟩],some (52,true)⟩,⟨some 63,.load 2 (.tmp 62),2, "ref.go:47",#[⟨53,.data⟩,⟨52,.guard⟩],some (52,true)⟩,⟨some 64,.binOp .neq 2 (.tmp 63) (.const (.int .i64 0)) 2,4, "ref.go:47",#[⟨54,.data⟩,⟨52,.guard⟩],some (52,true)⟩,⟨some 65,.pick (.tmp 61) (.tmp 64) (.const (.bool false)),4, "ref.go:47",#[⟨52,.data⟩,⟨55,.data⟩,⟨45,.guard⟩],some (45,false)⟩,⟨some 66,.pick (.tmp 54) (.const (.bool true)) (.tmp 65),4, "ref.go:47",#[⟨45,.data⟩,⟨56,.data⟩],none⟩]
def Tail (_:Unit) (T:List Oper):List Oper:=T
section
variable {Q:Exit→Act→World→Prop} {W:World} {kx:Nat} {op dst src off imm f:Int} {reg vD vS vO vI:Bool} {T:List Oper}
theorem rB1 (HF:Hid (frm (ix op)=f)) (HD:Hid (uD f=vD)) {z:Bool} (hK:Hid (∀ {u9 u10 u11 u12 u13 u14 u15 u16 u17 u18 u19 u20 u21 u22 u23 u24 u25 u26 u27 u28 u29:Value} {w':World},Below W.heap.size W w'→Ins6 w' kx op reg dst src off imm→wpList Tryz.prog Rstage1 Q (Tail () T) ⟨#[.agg #[.int .i64 op,.bool reg,.int .i64 dst,.int .i64 src,.int .i64 off,.int .i64 imm],.pointer (some ⟨kx,0,none⟩),.int .i64 0,.int .i64 f,.pointer (some ⟨kx,0,none⟩),.int .i64 op,.int .i64 f,.int .i64 f,.bool false,u9,u10,u11,u12,u13,u14,u15,u16,u17,u18,u19,u20,u21,u22,u23,u24,u25,u26,u27,u28,u29,.bool z,undef,undef,undef,undef,undef,undef,undef,undef,undef,undef,undef,undef,undef,undef,undef,undef,undef,undef,undef,undef,undef,undef,undef,undef,undef,undef,undef,undef,undef,undef,undef,undef,undef,undef,undef,undef,undef,undef,undef,undef,undef,undef,undef,undef,undef,undef,undef,undef,undef,undef,undef,undef,undef,undef,undef,undef,undef,undef,undef,undef,undef,undef,undef,undef,undef,undef,undef,undef,undef,undef,undef,undef,undef,undef,undef,undef,undef,undef,undef,undef,undef,undef,undef,undef,undef,undef,undef,undef,undef,undef,undef,undef,undef],[]⟩ w')) {u9 u10 u11 u12 u13 u14 u15 u16 u17 u18:Value} (c:Bool) (w:World) (hb:Below W.heap.size W w) (hx:Ins6 w kx op reg dst src off imm) (hz:(c || (!vD && dst != 0))=z) :
  wpList Tryz.prog Rstage1 Q (⟨some 20,.fieldAddr 45 (.tmp 1) 0,0, "ref.go:47",#[⟨10,.guard⟩],some (10,false)⟩ ::
  ⟨some 21,.load 3 (.tmp 20),3, "ref.go:47",#[⟨11,.data⟩,⟨10,.guard⟩],some (10,false)⟩ ::
  ⟨some 22,.call { callee:=.value (.func 120),args:=#[.tmp 21],argTypes:=#[3] },4, "ref.go:47",#[⟨12,.data⟩,⟨10,.chain⟩,⟨10,.guard⟩],some (10,false)⟩ ::
  ⟨some 23,.unOp .not 4 (.tmp 22),4, "ref.go:47",#[⟨13,.data⟩,⟨10,.guard⟩],some (10,false)⟩ ::
  ⟨some 24,.move (.tmp 23),4, "ref.go:47",#[⟨14,.data⟩,⟨13,.chain⟩,⟨10,.guard⟩],some (10,false)⟩ ::
  ⟨some 25,.fieldAddr 45 (.tmp 1) 2,0, "ref.go:47",#[⟨15,.guard⟩],some (15,true)⟩ ::
  ⟨some 26,.load 3 (.tmp 25),3, "ref.go:47",#[⟨16,.data⟩,⟨15,.guard⟩],some (15,true)⟩ ::
  ⟨some 27,.binOp .neq 3 (.tmp 26) (.const (.int .i64 0)) 3,4, "ref.go:47",#[⟨17,.data⟩,⟨15,.guard⟩],some (15,true)⟩ ::
  ⟨some 28,.pick (.tmp 24) (.tmp 27) (.const (.bool false)),4, "ref.go:47",#[⟨15,.data⟩,⟨18,.data⟩,⟨10,.guard⟩],some (10,false)⟩ ::
  ⟨some 29,.pick (.tmp 19) (.const (.bool true)) (.tmp 28),4, "ref.go:47",#[⟨10,.data⟩,⟨19,.data⟩],none⟩ ::
  ⟨some 30,.move (.tmp 29),4, "ref.go:47",#[⟨20,.data⟩,⟨15,.chain⟩],none⟩::Tail () T) ⟨#[.agg #[.int .i64 op,.bool reg,.int .i64 dst,.int .i64 src,.int .i64 off,.int .i64 imm],.pointer (some ⟨kx,0,none⟩),.int .i64 0,.int .i64 f,.pointer (some ⟨kx,0,none⟩),.int .i64 op,.int .i64 f,.int .i64 f,.bool false,u9,u10,u11,u12,u13,u14,u15,u16,u17,u18,.bool c,undef,undef,undef,undef,undef,undef,undef,undef,undef,undef,undef,undef,undef,undef,undef,undef,undef,undef,undef,undef,undef,undef,undef,undef,undef,undef,undef,undef,undef,undef,undef,undef,undef,undef,undef,undef,undef,undef,undef,undef,undef,undef,undef,undef,undef,undef,undef,undef,undef,undef,undef,undef,undef,undef,undef,undef,undef,undef,undef,undef,undef,undef,undef,undef,undef,undef,undef,undef,undef,undef,undef,undef,undef,undef,undef,undef,undef,undef,undef,undef,undef,undef,undef,undef,undef,undef,undef,undef,undef,undef,undef,undef,undef,undef,undef,undef,undef,undef,undef,undef,undef,undef,undef,undef],[]⟩ w:=by
 delta Rstage1
 obtain⟨x0,x1,x2,x3,x4,x5⟩:=cells6 hx.x
 cases c
 ·cases vD
  ·cases ee:(dst==0)
   ·have ne:(dst != 0)=true:=by rw [bne,ee];rfl
    obtain rfl:z=true:=by rw [← hz,ne];rfl
    clear hz
    go_wp2_with (first|(go_at_call 120;((with_reducible refine (rdst_at op _ _ _ HF.out HD.out).mono ?_);rintro e w1 ⟨rfl,hb1⟩;have hx1:=hx.below hb1;have hbb:=bch hb hb1;obtain⟨x0,x1,x2,x3,x4,x5⟩:=cells6 hx1.x)))
    exact hK.out hbb hx1
   ·have ne:(dst != 0)=false:=by rw [bne,ee];rfl
    obtain rfl:z=false:=by rw [← hz,ne];rfl
    clear hz
    go_wp2_with (first|(go_at_call 120;((with_reducible refine (rdst_at op _ _ _ HF.out HD.out).mono ?_);rintro e w1 ⟨rfl,hb1⟩;have hx1:=hx.below hb1;have hbb:=bch hb hb1;obtain⟨x0,x1,x2,x3,x4,x5⟩:=cells6 hx1.x)))
    exact hK.out hbb hx1
  ·obtain rfl:z=false:=by rw [← hz];rfl
   clear hz
   go_wp2_with (first|(go_at_call 120;((with_reducible refine (rdst_at op _ _ _ HF.out HD.out).mono ?_);rintro e w1 ⟨rfl,hb1⟩;have hx1:=hx.below hb1;have hbb:=bch hb hb1;obtain⟨x0,x1,x2,x3,x4,x5⟩:=cells6 hx1.x)))
   exact hK.out hbb hx1
 ·obtain rfl:z=true:=by rw [← hz];rfl
  clear hz
  go_wp2
  all_goals exact hK.out hb hx
theorem rB2 (HF:Hid (frm (ix op)=f)) (HS:Hid (uS f reg=vS)) {z:Bool} (hK:Hid (∀ {u9 u10 u11 u12 u13 u14 u15 u16 u17 u18 u19 u20 u21 u22 u23 u24 u25 u26 u27 u28 u29 u30 u31 u32 u33 u34 u35 u36 u37 u38 u39 u40 u41 u42:Value} {w':World},Below W.heap.size W w'→Ins6 w' kx op reg dst src off imm→wpList Tryz.prog Rstage1 Q (Tail () T) ⟨#[.agg #[.int .i64 op,.bool reg,.int .i64 dst,.int .i64 src,.int .i64 off,.int .i64 imm],.pointer (some ⟨kx,0,none⟩),.int .i64 0,.int .i64 f,.pointer (some ⟨kx,0,none⟩),.int .i64 op,.int .i64 f,.int .i64 f,.bool false,u9,u10,u11,u12,u13,u14,u15,u16,u17,u18,u19,u20,u21,u22,u23,u24,u25,u26,u27,u28,u29,u30,u31,u32,u33,u34,u35,u36,u37,u38,u39,u40,u41,u42,.bool z,undef,undef,undef,undef,undef,undef,undef,undef,undef,undef,undef,undef,undef,undef,undef,undef,undef,undef,undef,undef,undef,undef,undef,undef,undef,undef,undef,undef,undef,undef,undef,undef,undef,undef,undef,undef,undef,undef,undef,undef,undef,undef,undef,undef,undef,undef,undef,undef,undef,undef,undef,undef,undef,undef,undef,undef,undef,undef,undef,undef,undef,undef,undef,undef,undef,undef,undef,undef,undef,undef,undef,undef,undef,undef,undef,undef,undef,undef,undef,undef],[]⟩ w')) {u9 u10 u11 u12 u13 u14 u15 u16 u17 u18 u19 u20 u21 u22 u23 u24 u25 u26 u27 u28 u29:Value} (c:Bool) (w:World) (hb:Below W.heap.size W w) (hx:Ins6 w kx op reg dst src off imm) (hz:(c || (!vS && src != 0))=z) :
  wpList Tryz.prog Rstage1 Q (⟨some 31,.fieldAddr 45 (.tmp 1) 0,0, "ref.go:47",#[⟨21,.guard⟩],some (21,false)⟩ ::
  ⟨some 32,.load 3 (.tmp 31),3, "ref.go:47",#[⟨22,.data⟩,⟨21,.guard⟩],some (21,false)⟩ ::
  ⟨some 33,.fieldAddr 45 (.tmp 1) 1,0, "ref.go:47",#[⟨21,.guard⟩],some (21,false)⟩ ::
  ⟨some 34,.load 4 (.tmp 33),4, "ref.go:47",#[⟨24,.data⟩,⟨21,.guard⟩],some (21,false)⟩ ::
  ⟨some 35,.call { callee:=.value (.func 121),args:=#[.tmp 32,.tmp 34],argTypes:=#[3,4] },4, "ref.go:47",#[⟨23,.data⟩,⟨25,.data⟩,⟨21,.chain⟩,⟨21,.guard⟩],some (21,false)⟩ ::
  ⟨some 36,.unOp .not 4 (.tmp 35),4, "ref.go:47",#[⟨26,.data⟩,⟨21,.guard⟩],some (21,false)⟩ ::
  ⟨some 37,.move (.tmp 36),4, "ref.go:47",#[⟨27,.data⟩,⟨26,.chain⟩,⟨21,.guard⟩],some (21,false)⟩ ::
  ⟨some 38,.fieldAddr 45 (.tmp 1) 3,0, "ref.go:47",#[⟨28,.guard⟩],some (28,true)⟩ ::
  ⟨some 39,.load 3 (.tmp 38),3, "ref.go:47",#[⟨29,.data⟩,⟨28,.guard⟩],some (28,true)⟩ ::
  ⟨some 40,.binOp .neq 3 (.tmp 39) (.const (.int .i64 0)) 3,4, "ref.go:47",#[⟨30,.data⟩,⟨28,.guard⟩],some (28,true)⟩ ::
  ⟨some 41,.pick (.tmp 37) (.tmp 40) (.const (.bool false)),4, "ref.go:47",#[⟨28,.data⟩,⟨31,.data⟩,⟨21,.guard⟩],some (21,false)⟩ ::
  ⟨some 42,.pick (.tmp 30) (.const (.bool true)) (.tmp 41),4, "ref.go:47",#[⟨21,.data⟩,⟨32,.data⟩],none⟩ ::
  ⟨some 43,.move (.tmp 42),4, "ref.go:47",#[⟨33,.data⟩,⟨28,.chain⟩],none⟩::Tail () T) ⟨#[.agg #[.int .i64 op,.bool reg,.int .i64 dst,.int .i64 src,.int .i64 off,.int .i64 imm],.pointer (some ⟨kx,0,none⟩),.int .i64 0,.int .i64 f,.pointer (some ⟨kx,0,none⟩),.int .i64 op,.int .i64 f,.int .i64 f,.bool false,u9,u10,u11,u12,u13,u14,u15,u16,u17,u18,u19,u20,u21,u22,u23,u24,u25,u26,u27,u28,u29,.bool c,undef,undef,undef,undef,undef,undef,undef,undef,undef,undef,undef,undef,undef,undef,undef,undef,undef,undef,undef,undef,undef,undef,undef,undef,undef,undef,undef,undef,undef,undef,undef,undef,undef,undef,undef,undef,undef,undef,undef,undef,undef,undef,undef,undef,undef,undef,undef,undef,undef,undef,undef,undef,undef,undef,undef,undef,undef,undef,undef,undef,undef,undef,undef,undef,undef,undef,undef,undef,undef,undef,undef,undef,undef,undef,undef,undef,undef,undef,undef,undef,undef,undef,undef,undef,undef,undef,undef,undef,undef,undef,undef,undef,undef],[]⟩ w:=by
 delta Rstage1
 obtain⟨x0,x1,x2,x3,x4,x5⟩:=cells6 hx.x
 cases c
 ·cases vS
  ·cases ee:(src==0)
   ·have ne:(src != 0)=true:=by rw [bne,ee];rfl
    obtain rfl:z=true:=by rw [← hz,ne];rfl
    clear hz
    go_wp2_with (first|(go_at_call 121;((with_reducible refine (rsrc_at op _ reg _ _ HF.out HS.out).mono ?_);rintro e w1 ⟨rfl,hb1⟩;have hx1:=hx.below hb1;have hbb:=bch hb hb1;obtain⟨x0,x1,x2,x3,x4,x5⟩:=cells6 hx1.x)))
    exact hK.out hbb hx1
   ·have ne:(src != 0)=false:=by rw [bne,ee];rfl
    obtain rfl:z=false:=by rw [← hz,ne];rfl
    clear hz
    go_wp2_with (first|(go_at_call 121;((with_reducible refine (rsrc_at op _ reg _ _ HF.out HS.out).mono ?_);rintro e w1 ⟨rfl,hb1⟩;have hx1:=hx.below hb1;have hbb:=bch hb hb1;obtain⟨x0,x1,x2,x3,x4,x5⟩:=cells6 hx1.x)))
    exact hK.out hbb hx1
  ·obtain rfl:z=false:=by rw [← hz];rfl
   clear hz
   go_wp2_with (first|(go_at_call 121;((with_reducible refine (rsrc_at op _ reg _ _ HF.out HS.out).mono ?_);rintro e w1 ⟨rfl,hb1⟩;have hx1:=hx.below hb1;have hbb:=bch hb hb1;obtain⟨x0,x1,x2,x3,x4,x5⟩:=cells6 hx1.x)))
   exact hK.out hbb hx1
 ·obtain rfl:z=true:=by rw [← hz];rfl
  clear hz
  go_wp2
  all_goals exact hK.out hb hx
theorem rB3 (HF:Hid (frm (ix op)=f)) (HO:Hid (uO f=vO)) {z:Bool} (hK:Hid (∀ {u9 u10 u11 u12 u13 u14 u15 u16 u17 u18 u19 u20 u21 u22 u23 u24 u25 u26 u27 u28 u29 u30 u31 u32 u33 u34 u35 u36 u37 u38 u39 u40 u41 u42 u43 u44 u45 u46 u47 u48 u49 u50 u51 u52 u53:Value} {w':World},Below W.heap.size W w'→Ins6 w' kx op reg dst src off imm→wpList Tryz.prog Rstage1 Q (Tail () T) ⟨#[.agg #[.int .i64 op,.bool reg,.int .i64 dst,.int .i64 src,.int .i64 off,.int .i64 imm],.pointer (some ⟨kx,0,none⟩),.int .i64 0,.int .i64 f,.pointer (some ⟨kx,0,none⟩),.int .i64 op,.int .i64 f,.int .i64 f,.bool false,u9,u10,u11,u12,u13,u14,u15,u16,u17,u18,u19,u20,u21,u22,u23,u24,u25,u26,u27,u28,u29,u30,u31,u32,u33,u34,u35,u36,u37,u38,u39,u40,u41,u42,u43,u44,u45,u46,u47,u48,u49,u50,u51,u52,u53,.bool z,undef,undef,undef,undef,undef,undef,undef,undef,undef,undef,undef,undef,undef,undef,undef,undef,undef,undef,undef,undef,undef,undef,undef,undef,undef,undef,undef,undef,undef,undef,undef,undef,undef,undef,undef,undef,undef,undef,undef,undef,undef,undef,undef,undef,undef,undef,undef,undef,undef,undef,undef,undef,undef,undef,undef,undef,undef,undef,undef,undef,undef,undef,undef,undef,undef,undef,undef,undef,undef],[]⟩ w')) {u9 u10 u11 u12 u13 u14 u15 u16 u17 u18 u19 u20 u21 u22 u23 u24 u25 u26 u27 u28 u29 u30 u31 u32 u33 u34 u35 u36 u37 u38 u39 u40 u41 u42:Value} (c:Bool) (w:World) (hb:Below W.heap.size W w) (hx:Ins6 w kx op reg dst src off imm) (hz:(c || (!vO && off != 0))=z) :
  wpList Tryz.prog Rstage1 Q (⟨some 44,.fieldAddr 45 (.tmp 1) 0,0, "ref.go:47",#[⟨34,.guard⟩],some (34,false)⟩ ::
  ⟨some 45,.load 3 (.tmp 44),3, "ref.go:47",#[⟨35,.data⟩,⟨34,.guard⟩],some (34,false)⟩ ::
  ⟨some 46,.call { callee:=.value (.func 122),args:=#[.tmp 45],argTypes:=#[3] },4, "ref.go:47",#[⟨36,.data⟩,⟨34,.chain⟩,⟨34,.guard⟩],some (34,false)⟩ ::
  ⟨some 47,.unOp .not 4 (.tmp 46),4, "ref.go:47",#[⟨37,.data⟩,⟨34,.guard⟩],some (34,false)⟩ ::
  ⟨some 48,.move (.tmp 47),4, "ref.go:47",#[⟨38,.data⟩,⟨37,.chain⟩,⟨34,.guard⟩],some (34,false)⟩ ::
  ⟨some 49,.fieldAddr 45 (.tmp 1) 4,0, "ref.go:47",#[⟨39,.guard⟩],some (39,true)⟩ ::
  ⟨some 50,.load 3 (.tmp 49),3, "ref.go:47",#[⟨40,.data⟩,⟨39,.guard⟩],some (39,true)⟩ ::
  ⟨some 51,.binOp .neq 3 (.tmp 50) (.const (.int .i64 0)) 3,4, "ref.go:47",#[⟨41,.data⟩,⟨39,.guard⟩],some (39,true)⟩ ::
  ⟨some 52,.pick (.tmp 48) (.tmp 51) (.const (.bool false)),4, "ref.go:47",#[⟨39,.data⟩,⟨42,.data⟩,⟨34,.guard⟩],some (34,false)⟩ ::
  ⟨some 53,.pick (.tmp 43) (.const (.bool true)) (.tmp 52),4, "ref.go:47",#[⟨34,.data⟩,⟨43,.data⟩],none⟩ ::
  ⟨some 54,.move (.tmp 53),4, "ref.go:47",#[⟨44,.data⟩,⟨39,.chain⟩],none⟩::Tail () T) ⟨#[.agg #[.int .i64 op,.bool reg,.int .i64 dst,.int .i64 src,.int .i64 off,.int .i64 imm],.pointer (some ⟨kx,0,none⟩),.int .i64 0,.int .i64 f,.pointer (some ⟨kx,0,none⟩),.int .i64 op,.int .i64 f,.int .i64 f,.bool false,u9,u10,u11,u12,u13,u14,u15,u16,u17,u18,u19,u20,u21,u22,u23,u24,u25,u26,u27,u28,u29,u30,u31,u32,u33,u34,u35,u36,u37,u38,u39,u40,u41,u42,.bool c,undef,undef,undef,undef,undef,undef,undef,undef,undef,undef,undef,undef,undef,undef,undef,undef,undef,undef,undef,undef,undef,undef,undef,undef,undef,undef,undef,undef,undef,undef,undef,undef,undef,undef,undef,undef,undef,undef,undef,undef,undef,undef,undef,undef,undef,undef,undef,undef,undef,undef,undef,undef,undef,undef,undef,undef,undef,undef,undef,undef,undef,undef,undef,undef,undef,undef,undef,undef,undef,undef,undef,undef,undef,undef,undef,undef,undef,undef,undef,undef],[]⟩ w:=by
 delta Rstage1
 obtain⟨x0,x1,x2,x3,x4,x5⟩:=cells6 hx.x
 cases c
 ·cases vO
  ·cases ee:(off==0)
   ·have ne:(off != 0)=true:=by rw [bne,ee];rfl
    obtain rfl:z=true:=by rw [← hz,ne];rfl
    clear hz
    go_wp2_with (first|(go_at_call 122;((with_reducible refine (roff_at op _ _ _ HF.out HO.out).mono ?_);rintro e w1 ⟨rfl,hb1⟩;have hx1:=hx.below hb1;have hbb:=bch hb hb1;obtain⟨x0,x1,x2,x3,x4,x5⟩:=cells6 hx1.x)))
    exact hK.out hbb hx1
   ·have ne:(off != 0)=false:=by rw [bne,ee];rfl
    obtain rfl:z=false:=by rw [← hz,ne];rfl
    clear hz
    go_wp2_with (first|(go_at_call 122;((with_reducible refine (roff_at op _ _ _ HF.out HO.out).mono ?_);rintro e w1 ⟨rfl,hb1⟩;have hx1:=hx.below hb1;have hbb:=bch hb hb1;obtain⟨x0,x1,x2,x3,x4,x5⟩:=cells6 hx1.x)))
    exact hK.out hbb hx1
  ·obtain rfl:z=false:=by rw [← hz];rfl
   clear hz
   go_wp2_with (first|(go_at_call 122;((with_reducible refine (roff_at op _ _ _ HF.out HO.out).mono ?_);rintro e w1 ⟨rfl,hb1⟩;have hx1:=hx.below hb1;have hbb:=bch hb hb1;obtain⟨x0,x1,x2,x3,x4,x5⟩:=cells6 hx1.x)))
   exact hK.out hbb hx1
 ·obtain rfl:z=true:=by rw [← hz];rfl
  clear hz
  go_wp2
  all_goals exact hK.out hb hx
theorem rB4 (HF:Hid (frm (ix op)=f)) (HI:Hid (uI f reg=vI)) {z:Bool} (hK:Hid (∀ {u9 u10 u11 u12 u13 u14 u15 u16 u17 u18 u19 u20 u21 u22 u23 u24 u25 u26 u27 u28 u29 u30 u31 u32 u33 u34 u35 u36 u37 u38 u39 u40 u41 u42 u43 u44 u45 u46 u47 u48 u49 u50 u51 u52 u53 u54 u55 u56 u57 u58 u59 u60 u61 u62 u63 u64 u65:Value} {w':World},Below W.heap.size W w'→Ins6 w' kx op reg dst src off imm→wpList Tryz.prog Rstage1 Q (Tail () T) ⟨#[.agg #[.int .i64 op,.bool reg,.int .i64 dst,.int .i64 src,.int .i64 off,.int .i64 imm],.pointer (some ⟨kx,0,none⟩),.int .i64 0,.int .i64 f,.pointer (some ⟨kx,0,none⟩),.int .i64 op,.int .i64 f,.int .i64 f,.bool false,u9,u10,u11,u12,u13,u14,u15,u16,u17,u18,u19,u20,u21,u22,u23,u24,u25,u26,u27,u28,u29,u30,u31,u32,u33,u34,u35,u36,u37,u38,u39,u40,u41,u42,u43,u44,u45,u46,u47,u48,u49,u50,u51,u52,u53,u54,u55,u56,u57,u58,u59,u60,u61,u62,u63,u64,u65,.bool z,undef,undef,undef,undef,undef,undef,undef,undef,undef,undef,undef,undef,undef,undef,undef,undef,undef,undef,undef,undef,undef,undef,undef,undef,undef,undef,undef,undef,undef,undef,undef,undef,undef,undef,undef,undef,undef,undef,undef,undef,undef,undef,undef,undef,undef,undef,undef,undef,undef,undef,undef,undef,undef,undef,undef,undef,undef],[]⟩ w')) {u9 u10 u11 u12 u13 u14 u15 u16 u17 u18 u19 u20 u21 u22 u23 u24 u25 u26 u27 u28 u29 u30 u31 u32 u33 u34 u35 u36 u37 u38 u39 u40 u41 u42 u43 u44 u45 u46 u47 u48 u49 u50 u51 u52 u53:Value} (c:Bool) (w:World) (hb:Below W.heap.size W w) (hx:Ins6 w kx op reg dst src off imm) (hz:(c || (!vI && imm != 0))=z) :
  wpList Tryz.prog Rstage1 Q (⟨some 55,.fieldAddr 45 (.tmp 1) 0,0, "ref.go:47",#[⟨45,.guard⟩],some (45,false)⟩ ::
  ⟨some 56,.load 3 (.tmp 55),3, "ref.go:47",#[⟨46,.data⟩,⟨45,.guard⟩],some (45,false)⟩ ::
  ⟨some 57,.fieldAddr 45 (.tmp 1) 1,0, "ref.go:47",#[⟨45,.guard⟩],some (45,false)⟩ ::
  ⟨some 58,.load 4 (.tmp 57),4, "ref.go:47",#[⟨48,.data⟩,⟨45,.guard⟩],some (45,false)⟩ ::
  ⟨some 59,.call { callee:=.value (.func 123),args:=#[.tmp 56,.tmp 58],argTypes:=#[3,4] },4, "ref.go:47",#[⟨47,.data⟩,⟨49,.data⟩,⟨45,.chain⟩,⟨45,.guard⟩],some (45,false)⟩ ::
  ⟨some 60,.unOp .not 4 (.tmp 59),4, "ref.go:47",#[⟨50,.data⟩,⟨45,.guard⟩],some (45,false)⟩ ::
  ⟨some 61,.move (.tmp 60),4, "ref.go:47",#[⟨51,.data⟩,⟨50,.chain⟩,⟨45,.guard⟩],some (45,false)⟩ ::
  ⟨some 62,.fieldAddr 45 (.tmp 1) 5,0, "ref.go:47",#[⟨52,.guard⟩],some (52,true)⟩ ::
  ⟨some 63,.load 2 (.tmp 62),2, "ref.go:47",#[⟨53,.data⟩,⟨52,.guard⟩],some (52,true)⟩ ::
  ⟨some 64,.binOp .neq 2 (.tmp 63) (.const (.int .i64 0)) 2,4, "ref.go:47",#[⟨54,.data⟩,⟨52,.guard⟩],some (52,true)⟩ ::
  ⟨some 65,.pick (.tmp 61) (.tmp 64) (.const (.bool false)),4, "ref.go:47",#[⟨52,.data⟩,⟨55,.data⟩,⟨45,.guard⟩],some (45,false)⟩ ::
  ⟨some 66,.pick (.tmp 54) (.const (.bool true)) (.tmp 65),4, "ref.go:47",#[⟨45,.data⟩,⟨56,.data⟩],none⟩::Tail () T) ⟨#[.agg #[.int .i64 op,.bool reg,.int .i64 dst,.int .i64 src,.int .i64 off,.int .i64 imm],.pointer (some ⟨kx,0,none⟩),.int .i64 0,.int .i64 f,.pointer (some ⟨kx,0,none⟩),.int .i64 op,.int .i64 f,.int .i64 f,.bool false,u9,u10,u11,u12,u13,u14,u15,u16,u17,u18,u19,u20,u21,u22,u23,u24,u25,u26,u27,u28,u29,u30,u31,u32,u33,u34,u35,u36,u37,u38,u39,u40,u41,u42,u43,u44,u45,u46,u47,u48,u49,u50,u51,u52,u53,.bool c,undef,undef,undef,undef,undef,undef,undef,undef,undef,undef,undef,undef,undef,undef,undef,undef,undef,undef,undef,undef,undef,undef,undef,undef,undef,undef,undef,undef,undef,undef,undef,undef,undef,undef,undef,undef,undef,undef,undef,undef,undef,undef,undef,undef,undef,undef,undef,undef,undef,undef,undef,undef,undef,undef,undef,undef,undef,undef,undef,undef,undef,undef,undef,undef,undef,undef,undef,undef,undef],[]⟩ w:=by
 delta Rstage1
 obtain⟨x0,x1,x2,x3,x4,x5⟩:=cells6 hx.x
 cases c
 ·cases vI
  ·cases ee:(imm==0)
   ·have ne:(imm != 0)=true:=by rw [bne,ee];rfl
    obtain rfl:z=true:=by rw [← hz,ne];rfl
    clear hz
    go_wp2_with (first|(go_at_call 123;((with_reducible refine (rimm_at op _ reg _ _ HF.out HI.out).mono ?_);rintro e w1 ⟨rfl,hb1⟩;have hx1:=hx.below hb1;have hbb:=bch hb hb1;obtain⟨x0,x1,x2,x3,x4,x5⟩:=cells6 hx1.x)))
    exact hK.out hbb hx1
   ·have ne:(imm != 0)=false:=by rw [bne,ee];rfl
    obtain rfl:z=false:=by rw [← hz,ne];rfl
    clear hz
    go_wp2_with (first|(go_at_call 123;((with_reducible refine (rimm_at op _ reg _ _ HF.out HI.out).mono ?_);rintro e w1 ⟨rfl,hb1⟩;have hx1:=hx.below hb1;have hbb:=bch hb hb1;obtain⟨x0,x1,x2,x3,x4,x5⟩:=cells6 hx1.x)))
    exact hK.out hbb hx1
  ·obtain rfl:z=false:=by rw [← hz];rfl
   clear hz
   go_wp2_with (first|(go_at_call 123;((with_reducible refine (rimm_at op _ reg _ _ HF.out HI.out).mono ?_);rintro e w1 ⟨rfl,hb1⟩;have hx1:=hx.below hb1;have hbb:=bch hb hb1;obtain⟨x0,x1,x2,x3,x4,x5⟩:=cells6 hx1.x)))
   exact hK.out hbb hx1
 ·obtain rfl:z=true:=by rw [← hz];rfl
  clear hz
  go_wp2
  all_goals exact hK.out hb hx
theorem rA {z:Bool} (hK:Hid (∀ {u9 u10 u11 u12 u13 u14 u15 u16 u17 u18:Value} {w':World},Below W.heap.size W w'→Ins6 w' kx op reg dst src off imm→wpList Tryz.prog Rstage1 Q (Tail () T) ⟨#[.agg #[.int .i64 op,.bool reg,.int .i64 dst,.int .i64 src,.int .i64 off,.int .i64 imm],.pointer (some ⟨kx,0,none⟩),.int .i64 0,.int .i64 f,.pointer (some ⟨kx,0,none⟩),.int .i64 op,.int .i64 f,.int .i64 f,.bool false,u9,u10,u11,u12,u13,u14,u15,u16,u17,u18,.bool z,undef,undef,undef,undef,undef,undef,undef,undef,undef,undef,undef,undef,undef,undef,undef,undef,undef,undef,undef,undef,undef,undef,undef,undef,undef,undef,undef,undef,undef,undef,undef,undef,undef,undef,undef,undef,undef,undef,undef,undef,undef,undef,undef,undef,undef,undef,undef,undef,undef,undef,undef,undef,undef,undef,undef,undef,undef,undef,undef,undef,undef,undef,undef,undef,undef,undef,undef,undef,undef,undef,undef,undef,undef,undef,undef,undef,undef,undef,undef,undef,undef,undef,undef,undef,undef,undef,undef,undef,undef,undef,undef,undef,undef,undef,undef,undef,undef,undef,undef,undef,undef,undef,undef,undef],[]⟩ w')) (w:World) (hb:Below W.heap.size W w) (hx:Ins6 w kx op reg dst src off imm) (hz:(reg && f != 0 && f != 4)=z) :
  wpList Tryz.prog Rstage1 Q (⟨some 9,.fieldAddr 45 (.tmp 1) 1,0, "ref.go:47",#[],none⟩ ::
  ⟨some 10,.load 4 (.tmp 9),4, "ref.go:47",#[⟨0,.data⟩],none⟩ ::
  ⟨some 11,.move (.tmp 10),4, "ref.go:47",#[⟨1,.data⟩],none⟩ ::
  ⟨some 12,.move (.tmp 3),3, "ref.go:47",#[⟨2,.guard⟩],some (2,true)⟩ ::
  ⟨some 13,.binOp .neq 3 (.tmp 12) (.const (.int .i64 0)) 3,4, "ref.go:47",#[⟨3,.data⟩,⟨2,.guard⟩],some (2,true)⟩ ::
  ⟨some 14,.pick (.tmp 11) (.tmp 13) (.const (.bool false)),4, "ref.go:47",#[⟨2,.data⟩,⟨4,.data⟩],none⟩ ::
  ⟨some 15,.move (.tmp 14),4, "ref.go:47",#[⟨5,.data⟩,⟨2,.chain⟩],none⟩ ::
  ⟨some 16,.move (.tmp 3),3, "ref.go:47",#[⟨6,.guard⟩],some (6,true)⟩ ::
  ⟨some 17,.binOp .neq 3 (.tmp 16) (.const (.int .i64 4)) 3,4, "ref.go:47",#[⟨7,.data⟩,⟨6,.guard⟩],some (6,true)⟩ ::
  ⟨some 18,.pick (.tmp 15) (.tmp 17) (.const (.bool false)),4, "ref.go:47",#[⟨6,.data⟩,⟨8,.data⟩],none⟩ ::
  ⟨some 19,.move (.tmp 18),4, "ref.go:47",#[⟨9,.data⟩,⟨6,.chain⟩],none⟩::Tail () T) ⟨#[.agg #[.int .i64 op,.bool reg,.int .i64 dst,.int .i64 src,.int .i64 off,.int .i64 imm],.pointer (some ⟨kx,0,none⟩),.int .i64 0,.int .i64 f,.pointer (some ⟨kx,0,none⟩),.int .i64 op,.int .i64 f,.int .i64 f,.bool false,undef,undef,undef,undef,undef,undef,undef,undef,undef,undef,undef,undef,undef,undef,undef,undef,undef,undef,undef,undef,undef,undef,undef,undef,undef,undef,undef,undef,undef,undef,undef,undef,undef,undef,undef,undef,undef,undef,undef,undef,undef,undef,undef,undef,undef,undef,undef,undef,undef,undef,undef,undef,undef,undef,undef,undef,undef,undef,undef,undef,undef,undef,undef,undef,undef,undef,undef,undef,undef,undef,undef,undef,undef,undef,undef,undef,undef,undef,undef,undef,undef,undef,undef,undef,undef,undef,undef,undef,undef,undef,undef,undef,undef,undef,undef,undef,undef,undef,undef,undef,undef,undef,undef,undef,undef,undef,undef,undef,undef,undef,undef,undef,undef,undef,undef],[]⟩ w:=by
 delta Rstage1
 obtain⟨x0,x1,x2,x3,x4,x5⟩:=cells6 hx.x
 cases reg
 ·obtain rfl:z=false:=hz.symm
  clear hz
  go_wp2
  all_goals exact hK.out hb hx
 ·cases e0:(f==0)
  ·have n0:(f != 0)=true:=by rw [bne,e0];rfl
   cases e4:(f==4)
   ·have n4:(f != 4)=true:=by rw [bne,e4];rfl
    obtain rfl:z=true:=by rw [← hz,n0,n4];rfl
    clear hz
    go_wp2
    all_goals exact hK.out hb hx
   ·have n4:(f != 4)=false:=by rw [bne,e4];rfl
    obtain rfl:z=false:=by rw [← hz,n0,n4];rfl
    clear hz
    go_wp2
    all_goals exact hK.out hb hx
  ·have n0:(f != 0)=false:=by rw [bne,e0];rfl
   obtain rfl:z=false:=by rw [← hz,n0];rfl
   clear hz
   go_wp2
   all_goals exact hK.out hb hx
theorem r4_at (HF:Hid (frm (ix op)=f)) (HD:Hid (uD f=vD)) (HS:Hid (uS f reg=vS)) (HO:Hid (uO f=vO)) (HI:Hid (uI f reg=vI)) {z:Bool} (hz:rZ f reg vD vS vO vI dst src off imm=z)
  (hQ:∀ {u9 u10 u11 u12 u13 u14 u15 u16 u17 u18 u19 u20 u21 u22 u23 u24 u25 u26 u27 u28 u29 u30 u31 u32 u33 u34 u35 u36 u37 u38 u39 u40 u41 u42 u43 u44 u45 u46 u47 u48 u49 u50 u51 u52 u53 u54 u55 u56 u57 u58 u59 u60 u61 u62 u63 u64 u65:Value} {w':World},Below W.heap.size W w'→Ins6 w' kx op reg dst src off imm→Q .normal ⟨#[.agg #[.int .i64 op,.bool reg,.int .i64 dst,.int .i64 src,.int .i64 off,.int .i64 imm],.pointer (some ⟨kx,0,none⟩),.int .i64 0,.int .i64 f,.pointer (some ⟨kx,0,none⟩),.int .i64 op,.int .i64 f,.int .i64 f,.bool false,u9,u10,u11,u12,u13,u14,u15,u16,u17,u18,u19,u20,u21,u22,u23,u24,u25,u26,u27,u28,u29,u30,u31,u32,u33,u34,u35,u36,u37,u38,u39,u40,u41,u42,u43,u44,u45,u46,u47,u48,u49,u50,u51,u52,u53,u54,u55,u56,u57,u58,u59,u60,u61,u62,u63,u64,u65,.bool z,undef,undef,undef,undef,undef,undef,undef,undef,undef,undef,undef,undef,undef,undef,undef,undef,undef,undef,undef,undef,undef,undef,undef,undef,undef,undef,undef,undef,undef,undef,undef,undef,undef,undef,undef,undef,undef,undef,undef,undef,undef,undef,undef,undef,undef,undef,undef,undef,undef,undef,undef,undef,undef,undef,undef,undef,undef],[]⟩ w') (w:World) (hb:Below W.heap.size W w) (hx:Ins6 w kx op reg dst src off imm) :
  wpList Tryz.prog R16 Q R16.toList ⟨#[.agg #[.int .i64 op,.bool reg,.int .i64 dst,.int .i64 src,.int .i64 off,.int .i64 imm],.pointer (some ⟨kx,0,none⟩),.int .i64 0,.int .i64 f,.pointer (some ⟨kx,0,none⟩),.int .i64 op,.int .i64 f,.int .i64 f,.bool false,undef,undef,undef,undef,undef,undef,undef,undef,undef,undef,undef,undef,undef,undef,undef,undef,undef,undef,undef,undef,undef,undef,undef,undef,undef,undef,undef,undef,undef,undef,undef,undef,undef,undef,undef,undef,undef,undef,undef,undef,undef,undef,undef,undef,undef,undef,undef,undef,undef,undef,undef,undef,undef,undef,undef,undef,undef,undef,undef,undef,undef,undef,undef,undef,undef,undef,undef,undef,undef,undef,undef,undef,undef,undef,undef,undef,undef,undef,undef,undef,undef,undef,undef,undef,undef,undef,undef,undef,undef,undef,undef,undef,undef,undef,undef,undef,undef,undef,undef,undef,undef,undef,undef,undef,undef,undef,undef,undef,undef,undef,undef,undef,undef,undef,undef],[]⟩ w:=by
 subst hz
 refine rA (Lib.hid (fun hb1 hx1=>?_)) w hb hx rfl
 refine rB1 HF HD (Lib.hid (fun hb2 hx2=>?_)) _ _ hb1 hx1 rfl
 refine rB2 HF HS (Lib.hid (fun hb3 hx3=>?_)) _ _ hb2 hx2 rfl
 refine rB3 HF HO (Lib.hid (fun hb4 hx4=>?_)) _ _ hb3 hx3 rfl
 refine rB4 HF HI (Lib.hid (fun hb5 hx5=>?_)) _ _ hb4 hx4 rfl
 exact hQ hb5 hx5
end
end Go.Proofs.YtihiggnglmhggaaGreatDoor.L4
