/- What a line's items are: labels, and a declaration or an instruction, by the texts of its tokens. It speaks of no program and has no condition. -/
import Derived.Test.YtbneaihpnfkcdaaDoorL8Rsub
import Derived.Test.YtbneaihpnfkcdaaDoorL1Rparse
import Derived.Test.YtbneaihpnfkcdaaDoorL2Valid
import Derived.Test.YtbneaihpnfkcdaaDoorL3Rnm
import Derived.Test.YtbneaihpnfkcdaaDoorL3Rfn
namespace Go.Proofs.YtbneaihpnfkcdaaDoor.L9

/-- An instruction; a declaration; what a line has. -/
structure Ins where
  op : Int
  reg : Bool
  dst : Int
  src : Int
  off : Int
  imm : Int
structure Df where
  nm : ByteArray
  key : Int
  val : Int
  ent : Int
structure Rs where
  kind : Int
  d : Df
  x : Ins
  tg : ByteArray
  mp : ByteArray
def eB : ByteArray := ⟨#[]⟩
def Ins.z : Ins := ⟨0, false, 0, 0, 0, 0⟩
def Df.z : Df := ⟨⟨#[]⟩, 0, 0, 0⟩
def Rs.z : Rs := ⟨0, Df.z, Ins.z, ⟨#[]⟩, ⟨#[]⟩⟩
abbrev Rs.cs (r : Rs) : List Value := [.int .i64 r.kind, .string r.d.nm, .int .i64 r.d.key, .int .i64 r.d.val, .int .i64 r.d.ent, .int .i64 r.x.op, .bool r.x.reg, .int .i64 r.x.dst, .int .i64 r.x.src, .int .i64 r.x.off, .int .i64 r.x.imm, .string r.tg, .string r.mp]

def tCom : ByteArray := ⟨#[44]⟩
def tOpn : ByteArray := ⟨#[91]⟩
def tShu : ByteArray := ⟨#[93]⟩
def tPlu : ByteArray := ⟨#[43]⟩
def tMin : ByteArray := ⟨#[45]⟩
def tCol : ByteArray := ⟨#[58]⟩
/-- Is it a character that ends an operand? -/
def brk (t : ByteArray) : Bool := decide (t = tCom) || decide (t = tOpn) || decide (t = tShu) || decide (t = tPlu) || decide (t = tMin)
def fls (st : List ByteArray × ByteArray) : List ByteArray := if st.2.size = 0 then st.1 else st.1 ++ [st.2]
def spS (st : List ByteArray × ByteArray) (t : ByteArray) : List ByteArray × ByteArray := if brk t then (fls st, if t = tMin then tMin else eB) else (st.1, st.2 ++ t)
def spF (ts : List ByteArray) : List ByteArray × ByteArray := ts.foldl spS ([], eB)
/-- The operands' texts. -/
def spl (ts : List ByteArray) : List ByteArray := fls (spF ts)
def joi (ts : List ByteArray) : ByteArray := ts.foldl (· ++ ·) eB
/-- Does a sign stand at a place of the joined text, inside of an operand? -/
def offAt (m : ByteArray) (i : Nat) : Bool := decide (m.data.toList.getD i 0 = 43) || (decide (m.data.toList.getD i 0 = 45) && decide (0 < i) && decide (m.data.toList.getD (i - 1) 0 ≠ 44))
def offV (m : ByteArray) : Bool := (List.range (m.size - 1)).any (offAt m)

def reV (s : ByteArray) : Int × Int := if (L2.rg s).2 then (((L2.rg s).1 : Int), 0) else (0, 5)
def naV (s : ByteArray) : Int := if L2.vd s then 0 else 7
def nuV (s : ByteArray) (b : Int) : Int × Int := L1.ps s.data.toList b
def heV (s : ByteArray) : Int := if s = ⟨#[108, 111, 111, 107, 117, 112]⟩ then 1 else if s = ⟨#[117, 112, 100, 97, 116, 101]⟩ then 2 else if s = ⟨#[100, 101, 108, 101, 116, 101]⟩ then 3 else 0
/-- The number of the operation with a name, or -1. -/
def fiV (s : ByteArray) : Int := match (List.range 86).find? (fun k => decide (L3.nm k = s)) with
  | some k => (k : Int)
  | none => -1
def g0 (l : List ByteArray) (i : Nat) : ByteArray := l.getD i eB
/-- A register and an offset: their numbers, the operands behind them, the error. -/
def meV (l : List ByteArray) (off : Bool) : Int × Int × List ByteArray × Int :=
  if (reV (g0 l 0)).2 ≠ 0 ∨ off = false then ((reV (g0 l 0)).1, 0, l.drop 1, (reV (g0 l 0)).2)
  else ((reV (g0 l 0)).1, (nuV (g0 l 1) 16).1, l.drop 2, (nuV (g0 l 1) 16).2)
def seV (x : Ins) (s : ByteArray) : Ins × Int := if (L2.rg s).2 then ({ x with reg := true, src := ((L2.rg s).1 : Int) }, 0) else ({ x with imm := (nuV s 32).1 }, (nuV s 32).2)
/-- An instruction of a form, out of its operands, and the error. -/
def opV (f op : Int) (l : List ByteArray) (off : Bool) : Rs × Int :=
  let r : Rs := ⟨2, Df.z, ⟨op, false, 0, 0, 0, 0⟩, eB, eB⟩
  if f = 3 then ({ r with tg := g0 l 0 }, naV (g0 l 0))
  else if f = 5 then ({ r with x := { r.x with imm := heV (g0 l 0) } }, if heV (g0 l 0) = 0 then 7 else 0)
  else if f = 6 then (r, 0)
  else if f = 8 ∨ f = 9 then
    let m := meV l off
    let r1 : Rs := { r with x := { r.x with dst := m.1, off := m.2.1 } }
    if m.2.2.2 ≠ 0 then (r1, m.2.2.2)
    else if f = 9 then ({ r1 with x := { r1.x with src := (reV (g0 m.2.2.1 0)).1 } }, (reV (g0 m.2.2.1 0)).2)
    else ({ r1 with x := { r1.x with imm := (nuV (g0 m.2.2.1 0) 32).1 } }, (nuV (g0 m.2.2.1 0) 32).2)
  else
    let r2 : Rs := { r with x := { r.x with dst := (reV (g0 l 0)).1 } }
    if (reV (g0 l 0)).2 ≠ 0 then (r2, (reV (g0 l 0)).2)
    else if f = 0 then ({ r2 with x := (seV r2.x (g0 l 1)).1 }, (seV r2.x (g0 l 1)).2)
    else if f = 4 then
      if (seV r2.x (g0 l 1)).2 = 0 then ({ r2 with x := (seV r2.x (g0 l 1)).1, tg := g0 l 2 }, naV (g0 l 2))
      else ({ r2 with x := (seV r2.x (g0 l 1)).1 }, (seV r2.x (g0 l 1)).2)
    else if f = 2 then ({ r2 with x := { r2.x with src := (reV (g0 l 1)).1 } }, (reV (g0 l 1)).2)
    else if f = 7 then
      let m := meV (l.drop 1) off
      ({ r2 with x := { r2.x with src := m.1, off := m.2.1 } }, m.2.2.2)
    else if f = 10 then ({ r2 with x := { r2.x with imm := (nuV (g0 l 1) 64).1 } }, (nuV (g0 l 1) 64).2)
    else if f = 11 then ({ r2 with mp := g0 l 1 }, naV (g0 l 1))
    else (r2, 0)
/-- How many operands are asked for. -/
def need (f : Int) (off : Bool) : Nat :=
  if f = 6 then 0 else if f = 1 ∨ f = 3 ∨ f = 5 then 1 else if f = 4 then 3 else if f = 7 ∨ f = 8 ∨ f = 9 then (if off then 3 else 2) else 2

/-- The shapes of a form's operands. -/
def sww : ByteArray := ⟨#[119, 44, 119]⟩
def swmw : ByteArray := ⟨#[119, 44, 45, 119]⟩
def sw : ByteArray := ⟨#[119]⟩
def swww : ByteArray := ⟨#[119, 44, 119, 44, 119]⟩
def swmww : ByteArray := ⟨#[119, 44, 45, 119, 44, 119]⟩
def swM0 : ByteArray := ⟨#[119, 44, 91, 119, 93]⟩
def swMp : ByteArray := ⟨#[119, 44, 91, 119, 43, 119, 93]⟩
def swMm : ByteArray := ⟨#[119, 44, 91, 119, 45, 119, 93]⟩
def sM0w : ByteArray := ⟨#[91, 119, 93, 44, 119]⟩
def sMpw : ByteArray := ⟨#[91, 119, 43, 119, 93, 44, 119]⟩
def sMmw : ByteArray := ⟨#[91, 119, 45, 119, 93, 44, 119]⟩
def sM0mw : ByteArray := ⟨#[91, 119, 93, 44, 45, 119]⟩
def sMpmw : ByteArray := ⟨#[91, 119, 43, 119, 93, 44, 45, 119]⟩
def sMmmw : ByteArray := ⟨#[91, 119, 45, 119, 93, 44, 45, 119]⟩
def shV (f : Int) : List ByteArray :=
  if f = 0 ∨ f = 10 then [sww, swmw] else if f = 2 ∨ f = 11 then [sww] else if f = 1 ∨ f = 3 ∨ f = 5 then [sw] else if f = 4 then [swww, swmww]
  else if f = 7 then [swM0, swMp, swMm] else if f = 8 then [sM0w, sMpw, sMmw, sM0mw, sMpmw, sMmmw] else if f = 9 then [sM0w, sMpw, sMmw] else [eB]

def wdB (t : ByteArray) : Bool := L8.isW t.data.toList
def shpB (ts : List ByteArray) : ByteArray := ⟨(L8.shp (ts.map (·.data.toList))).toArray⟩
def sizV (d : Df) : Bool := decide (1 ≤ d.key) && decide (d.key ≤ 64) && decide (1 ≤ d.val) && decide (d.val ≤ 256) && decide (1 ≤ d.ent) && decide (d.ent ≤ 1024)
/-- The first error of some numerals. -/
def nuE (s t u : ByteArray) : Int := if (nuV s 32).2 ≠ 0 then (nuV s 32).2 else if (nuV t 32).2 ≠ 0 then (nuV t 32).2 else (nuV u 32).2
def dfV (ts : List ByteArray) : Df := ⟨g0 ts 0, (nuV (g0 ts 1) 32).1, (nuV (g0 ts 2) 32).1, (nuV (g0 ts 3) 32).1⟩
def deV (ts : List ByteArray) : Rs × Int :=
  if shpB ts ≠ ⟨#[119, 119, 119, 119]⟩ then (Rs.z, 2)
  else if naV (g0 ts 0) ≠ 0 then (Rs.z, 7)
  else if nuE (g0 ts 1) (g0 ts 2) (g0 ts 3) ≠ 0 then (Rs.z, nuE (g0 ts 1) (g0 ts 2) (g0 ts 3))
  else if sizV (dfV ts) = false then (Rs.z, 9)
  else ({ Rs.z with kind := 1, d := dfV ts }, 0)
/-- The labels, and what stands behind them. -/
def lab : List ByteArray → List ByteArray → Int × List ByteArray × List ByteArray
  | acc, a :: b :: r => if wdB a = true ∧ b = tCol then (if L2.vd a then lab (acc ++ [a]) r else (7, acc, a :: b :: r)) else (0, acc, a :: b :: r)
  | acc, [a] => (0, acc, [a])
  | acc, [] => (0, acc, [])
def mapT : ByteArray := ⟨#[109, 97, 112]⟩
/-- What stands behind the labels. -/
def cdV (t : ByteArray) (q : List ByteArray) : Rs × Int :=
  if t = mapT then deV q
  else if fiV t < 0 then (Rs.z, 6)
  else if (shV (L3.frm (L3.ix (fiV t)))).any (fun x => decide (x = shpB q)) = false then (Rs.z, 2)
  else opV (L3.frm (L3.ix (fiV t))) (fiV t) (spl q) (offV (joi q))
/-- A line's labels, its declaration or instruction, the error. -/
def lnV (ts : List ByteArray) : List ByteArray × Rs × Int :=
  let p := lab [] ts
  if p.1 ≠ 0 then ([], Rs.z, p.1) else
  match p.2.2 with
  | [] => (p.2.1, Rs.z, 0)
  | t :: q => if wdB t = false then ([], Rs.z, 2) else if (cdV t q).2 ≠ 0 then ([], Rs.z, (cdV t q).2) else (p.2.1, (cdV t q).1, 0)
def txB (s : ByteArray) : List ByteArray := (L8.tkX s (L8.tks s)).map (·.1)
def liV (s : ByteArray) : List ByteArray × Rs × Int := if 0 ≤ L8.bad s then ([], Rs.z, 2) else lnV (txB s)
end Go.Proofs.YtbneaihpnfkcdaaDoor.L9
