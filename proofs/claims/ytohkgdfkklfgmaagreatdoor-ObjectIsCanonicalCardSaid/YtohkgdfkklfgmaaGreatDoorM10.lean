/- Lemmas and walks of L9Ln, L9Rfac, L9Rsm, L9Rspl, L9Rdef, L9Rmem: what each theorem states; conditions stand in each theorem. -/
import Derived.Test.YtohkgdfkklfgmaaGreatDoorM5
import Derived.Test.YtohkgdfkklfgmaaGreatDoorM1
import Derived.Test.YtohkgdfkklfgmaaGreatDoorM2
import Derived.Test.YtohkgdfkklfgmaaGreatDoorM3
import Derived.StillTail
import Derived.StillTactics
import Derived.WalkSpells
import Derived.Laws.CopyOwn
import Derived.BigRegion
section
namespace Go.Proofs.YtohkgdfkklfgmaaGreatDoor.L9
structure Ins where
 op:Int
 reg:Bool
 dst:Int
 src:Int
 off:Int
 imm:Int
structure Df where
 nm:ByteArray
 key:Int
 val:Int
 ent:Int
structure Rs where
 kind:Int
 d:Df
 x:Ins
 tg:ByteArray
 mp:ByteArray
def eB:ByteArray:=⟨#[]⟩
def Ins.z:Ins:=⟨0,false,0,0,0,0⟩
def Df.z:Df:=⟨⟨#[]⟩,0,0,0⟩
def Rs.z:Rs:=⟨0,Df.z,Ins.z,⟨#[]⟩,⟨#[]⟩⟩
abbrev Rs.cs (r:Rs):List Value:=[.int .i64 r.kind,.string r.d.nm,.int .i64 r.d.key,.int .i64 r.d.val,.int .i64 r.d.ent,.int .i64 r.x.op,.bool r.x.reg,.int .i64 r.x.dst,.int .i64 r.x.src,.int .i64 r.x.off,.int .i64 r.x.imm,.string r.tg,.string r.mp]
def tCom:ByteArray:=⟨#[44]⟩
def tOpn:ByteArray:=⟨#[91]⟩
def tShu:ByteArray:=⟨#[93]⟩
def tPlu:ByteArray:=⟨#[43]⟩
def tMin:ByteArray:=⟨#[45]⟩
def tCol:ByteArray:=⟨#[58]⟩
def brk (t:ByteArray):Bool:=decide (t=tCom) || decide (t=tOpn) || decide (t=tShu) || decide (t=tPlu) || decide (t=tMin)
def fls (st:List ByteArray × ByteArray):List ByteArray:=if st.2.size=0 then st.1 else st.1++[st.2]
def spS (st:List ByteArray × ByteArray) (t:ByteArray):List ByteArray × ByteArray:=if brk t then (fls st,if t=tMin then tMin else eB) else (st.1,st.2++t)
def spF (ts:List ByteArray):List ByteArray × ByteArray:=ts.foldl spS ([],eB)
def spl (ts:List ByteArray):List ByteArray:=fls (spF ts)
def joi (ts:List ByteArray):ByteArray:=ts.foldl (·++·) eB
def offAt (m:ByteArray) (i:Nat):Bool:=decide (m.data.toList.getD i 0=43) || (decide (m.data.toList.getD i 0=45) && decide (0<i) && decide (m.data.toList.getD (i-1) 0≠44))
def offV (m:ByteArray):Bool:=(List.range (m.size-1)).any (offAt m)
def reV (s:ByteArray):Int × Int:=if (L2.rg s).2 then (((L2.rg s).1:Int),0) else (0,5)
def naV (s:ByteArray):Int:=if L2.vd s then 0 else 7
def nuV (s:ByteArray) (b:Int):Int × Int:=L1.ps s.data.toList b
def heV (s:ByteArray):Int:=if s=⟨#[108,111,111,107,117,112]⟩ then 1 else if s=⟨#[117,112,100,97,116,101]⟩ then 2 else if s=⟨#[100,101,108,101,116,101]⟩ then 3 else 0
def fiV (s:ByteArray):Int:=match (List.range 86).find? (fun k=>decide (L3.nm k=s)) with
 | some k=>(k:Int)
 | none=>-1
def g0 (l:List ByteArray) (i:Nat):ByteArray:=l.getD i eB
def meV (l:List ByteArray) (off:Bool):Int × Int × List ByteArray × Int :=
 if (reV (g0 l 0)).2≠0∨off=false then ((reV (g0 l 0)).1,0,l.drop 1,(reV (g0 l 0)).2)
 else ((reV (g0 l 0)).1,(nuV (g0 l 1) 16).1,l.drop 2,(nuV (g0 l 1) 16).2)
def seV (x:Ins) (s:ByteArray):Ins × Int:=if (L2.rg s).2 then ({ x with reg:=true,src:=((L2.rg s).1:Int) },0) else ({ x with imm:=(nuV s 32).1 },(nuV s 32).2)
def opV (f op:Int) (l:List ByteArray) (off:Bool):Rs × Int :=
 let r:Rs:=⟨2,Df.z,⟨op,false,0,0,0,0⟩,eB,eB⟩
 if f=3 then ({ r with tg:=g0 l 0 },naV (g0 l 0))
 else if f=5 then ({ r with x:={ r.x with imm:=heV (g0 l 0) } },if heV (g0 l 0)=0 then 7 else 0)
 else if f=6 then (r,0)
 else if f=8∨f=9 then
  let m:=meV l off
  let r1:Rs:={ r with x:={ r.x with dst:=m.1,off:=m.2.1 } }
  if m.2.2.2≠0 then (r1,m.2.2.2)
  else if f=9 then ({ r1 with x:={ r1.x with src:=(reV (g0 m.2.2.1 0)).1 } },(reV (g0 m.2.2.1 0)).2)
  else ({ r1 with x:={ r1.x with imm:=(nuV (g0 m.2.2.1 0) 32).1 } },(nuV (g0 m.2.2.1 0) 32).2)
 else
  let r2:Rs:={ r with x:={ r.x with dst:=(reV (g0 l 0)).1 } }
  if (reV (g0 l 0)).2≠0 then (r2,(reV (g0 l 0)).2)
  else if f=0 then ({ r2 with x:=(seV r2.x (g0 l 1)).1 },(seV r2.x (g0 l 1)).2)
  else if f=4 then
   if (seV r2.x (g0 l 1)).2=0 then ({ r2 with x:=(seV r2.x (g0 l 1)).1,tg:=g0 l 2 },naV (g0 l 2))
   else ({ r2 with x:=(seV r2.x (g0 l 1)).1 },(seV r2.x (g0 l 1)).2)
  else if f=2 then ({ r2 with x:={ r2.x with src:=(reV (g0 l 1)).1 } },(reV (g0 l 1)).2)
  else if f=7 then
   let m:=meV (l.drop 1) off
   ({ r2 with x:={ r2.x with src:=m.1,off:=m.2.1 } },m.2.2.2)
  else if f=10 then ({ r2 with x:={ r2.x with imm:=(nuV (g0 l 1) 64).1 } },(nuV (g0 l 1) 64).2)
  else if f=11 then ({ r2 with mp:=g0 l 1 },naV (g0 l 1))
  else (r2,0)
def sww:ByteArray:=⟨#[119,44,119]⟩
def swmw:ByteArray:=⟨#[119,44,45,119]⟩
def sw:ByteArray:=⟨#[119]⟩
def swww:ByteArray:=⟨#[119,44,119,44,119]⟩
def swmww:ByteArray:=⟨#[119,44,45,119,44,119]⟩
def swM0:ByteArray:=⟨#[119,44,91,119,93]⟩
def swMp:ByteArray:=⟨#[119,44,91,119,43,119,93]⟩
def swMm:ByteArray:=⟨#[119,44,91,119,45,119,93]⟩
def sM0w:ByteArray:=⟨#[91,119,93,44,119]⟩
def sMpw:ByteArray:=⟨#[91,119,43,119,93,44,119]⟩
def sMmw:ByteArray:=⟨#[91,119,45,119,93,44,119]⟩
def sM0mw:ByteArray:=⟨#[91,119,93,44,45,119]⟩
def sMpmw:ByteArray:=⟨#[91,119,43,119,93,44,45,119]⟩
def sMmmw:ByteArray:=⟨#[91,119,45,119,93,44,45,119]⟩
def shV (f:Int):List ByteArray :=
 if f=0∨f=10 then [sww,swmw] else if f=2∨f=11 then [sww] else if f=1∨f=3∨f=5 then [sw] else if f=4 then [swww,swmww]
 else if f=7 then [swM0,swMp,swMm] else if f=8 then [sM0w,sMpw,sMmw,sM0mw,sMpmw,sMmmw] else if f=9 then [sM0w,sMpw,sMmw] else [eB]
def wdB (t:ByteArray):Bool:=L8.isW t.data.toList
def shpB (ts:List ByteArray):ByteArray:=⟨(L8.shp (ts.map (·.data.toList))).toArray⟩
def sizV (d:Df):Bool:=decide (1≤d.key) && decide (d.key≤64) && decide (1≤d.val) && decide (d.val≤256) && decide (1≤d.ent) && decide (d.ent≤1024)
def nuE (s t u:ByteArray):Int:=if (nuV s 32).2≠0 then (nuV s 32).2 else if (nuV t 32).2≠0 then (nuV t 32).2 else (nuV u 32).2
def dfV (ts:List ByteArray):Df:=⟨g0 ts 0,(nuV (g0 ts 1) 32).1,(nuV (g0 ts 2) 32).1,(nuV (g0 ts 3) 32).1⟩
def deV (ts:List ByteArray):Rs × Int :=
 if shpB ts≠⟨#[119,119,119,119]⟩ then (Rs.z,2)
 else if naV (g0 ts 0)≠0 then (Rs.z,7)
 else if nuE (g0 ts 1) (g0 ts 2) (g0 ts 3)≠0 then (Rs.z,nuE (g0 ts 1) (g0 ts 2) (g0 ts 3))
 else if sizV (dfV ts)=false then (Rs.z,9)
 else ({ Rs.z with kind:=1,d:=dfV ts },0)
def lab:List ByteArray→List ByteArray→Int × List ByteArray × List ByteArray
 | acc,a::b::r=>if wdB a=true∧b=tCol then (if L2.vd a then lab (acc++[a]) r else (7,acc,a::b::r)) else (0,acc,a::b::r)
 | acc,[a]=>(0,acc,[a])
 | acc,[]=>(0,acc,[])
def mapT:ByteArray:=⟨#[109,97,112]⟩
def cdV (t:ByteArray) (q:List ByteArray):Rs × Int :=
 if t=mapT then deV q
 else if fiV t<0 then (Rs.z,6)
 else if (shV (L3.frm (L3.ix (fiV t)))).any (fun x=>decide (x=shpB q))=false then (Rs.z,2)
 else opV (L3.frm (L3.ix (fiV t))) (fiV t) (spl q) (offV (joi q))
end Go.Proofs.YtohkgdfkklfgmaaGreatDoor.L9
end
section
namespace Go.Proofs.YtohkgdfkklfgmaaGreatDoor.L9
def IsWd (t:ByteArray):Prop:=t.size≠0∧brk t=false∧wdB t=true∧∀ c∈t.data.toList,L8.wb c=true
def At (t:ByteArray) (c:UInt8):Prop:=if c=119 then IsWd t else t=⟨#[c]⟩
end Go.Proofs.YtohkgdfkklfgmaaGreatDoor.L9
end
section
namespace Go.Proofs.YtohkgdfkklfgmaaGreatDoor.L9
open Go.RowKit
attribute [local go_sem] Oper.semAt_some
theorem rsizes_at (d:Df) (b:Bool) (w:World) (h:sizV d=b) :
  Calls Tryz.prog 26 #[.agg #[.string d.nm,.int .i64 d.key,.int .i64 d.val,.int .i64 d.ent]] w fun e w'=>e=.returned (.bool b)∧Below w.heap.size w w':=by
 subst h
 obtain⟨nm,k,v,n⟩:=d
 have b0:=L8.bnew w (.cells #[.string nm,.int .i64 k,.int .i64 v,.int .i64 n] 62)
 go_enter Tryz.func26,Tryz.ntmps26
 go_wp2
 all_goals
  go_ret
  exact⟨L2.ret_bool (by rw [Bool.eq_iff_iff];simp [sizV];try omega),b0⟩
end Go.Proofs.YtohkgdfkklfgmaaGreatDoor.L9
end
section
namespace Go.Proofs.YtohkgdfkklfgmaaGreatDoor.L9
open Go.RowKit
attribute [local go_sem] Oper.semAt_some
theorem Tryz.info9:(Tryz.prog.info? 9).map (fun i=>(i.zero,i.size,i.bytes))=some (some (.string ⟨#[]⟩),1,16):=by kernel_rfl
end Go.Proofs.YtohkgdfkklfgmaaGreatDoor.L9
end
section
namespace Go.Proofs.YtohkgdfkklfgmaaGreatDoor.L9
open Go.RowKit
attribute [local go_sem] Oper.semAt_some
theorem frozen_all {w:World} {k:Nat} {cs:Array Value} {t:TypeId} (h:w.heap[k]?=some (.cells cs t)) (i:Nat):w.frozen? ⟨k,i,none⟩=false:=by simp [World.frozen?,h]
theorem cells14 {w:World} {k:Nat} {a b c d e f g h i j l m n o:Value} {t:TypeId} (hh:w.heap[k]?=some (.cells #[a,b,c,d,e,f,g,h,i,j,l,m,n,o] t)) :
  w.cell? ⟨k,0,none⟩=some a∧w.cell? ⟨k,1,none⟩=some b∧w.cell? ⟨k,2,none⟩=some c∧w.cell? ⟨k,3,none⟩=some d∧w.cell? ⟨k,4,none⟩=some e∧w.cell? ⟨k,5,none⟩=some f∧w.cell? ⟨k,6,none⟩=some g∧w.cell? ⟨k,7,none⟩=some h∧w.cell? ⟨k,8,none⟩=some i∧w.cell? ⟨k,9,none⟩=some j∧w.cell? ⟨k,10,none⟩=some l∧w.cell? ⟨k,11,none⟩=some m∧w.cell? ⟨k,12,none⟩=some n∧w.cell? ⟨k,13,none⟩=some o:=by
 simp [World.cell?,hh]
theorem cells3 {w:World} {k:Nat} {a b c:Value} {t:TypeId} (h:w.heap[k]?=some (.cells #[a,b,c] t)):w.cell? ⟨k,0,none⟩=some a∧w.cell? ⟨k,1,none⟩=some b∧w.cell? ⟨k,2,none⟩=some c:=by
 simp [World.cell?,h]
theorem cells4 {w:World} {k:Nat} {a b c d:Value} {t:TypeId} (h:w.heap[k]?=some (.cells #[a,b,c,d] t)):w.cell? ⟨k,0,none⟩=some a∧w.cell? ⟨k,1,none⟩=some b∧w.cell? ⟨k,2,none⟩=some c∧w.cell? ⟨k,3,none⟩=some d:=by
 simp [World.cell?,h]
theorem row_up {w w':World} {k:Nat} {cs:Array Value} {t:TypeId} (h:w.heap[k]?=some (.cells cs t)) (hb:Below w.heap.size w w'):w'.heap[k]?=some (.cells cs t):=(hb.block _ (lt_of_block h)).trans h
end Go.Proofs.YtohkgdfkklfgmaaGreatDoor.L9
end
section
namespace Go.Proofs.YtohkgdfkklfgmaaGreatDoor.L9
open Go.RowKit
attribute [local go_sem] Oper.semAt_some
abbrev c6 (op:Int) (reg:Bool) (dst src off imm:Int):Array Value:=#[.int .i64 op,.bool reg,.int .i64 dst,.int .i64 src,.int .i64 off,.int .i64 imm]
end Go.Proofs.YtohkgdfkklfgmaaGreatDoor.L9
end
