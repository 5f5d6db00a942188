package disasm_test

import (
	"bytes"
	"encoding/hex"
	"fmt"
	"math"
	"math/rand"
	"slices"
	"strconv"
	"strings"
	"sync"
	"testing"

	"slotcode/api"
	"slotcode/asm"
	"slotcode/disasm"
	"slotcode/insn"
	"slotcode/lex"
	"slotcode/object"
	"slotcode/parse"
	"slotcode/print"
	"slotcode/prog"
	"slotcode/slot"
	"slotcode/valid"
)

// Numbers of operations, as the table of chapter 3 has them.
const (
	mov64, ja, jeq, lastJump, call, exit, ldxb, lddw, ldmap, count = 10, 44, 45, 66, 67, 68, 69, 84, 85, 86
)

// isJump reports whether an operation has a target.
func isJump(op int) bool { return op >= ja && op <= lastJump }

// disassembled returns what Program has to return: the instructions are decoded one after the other, each jump searches the slot that it
// leads to, and each target counts those in front of it.
func disassembled(o api.Object) (api.Program, int, api.Errno) {
	if at, e := valid.Check(o); e != api.OK {
		return api.Program{}, at, e
	}
	var l []api.Ins
	var starts []int
	for s := 0; s < len(o.Code)/8; {
		x, n, _ := slot.Decode(o.Code[8*s:])
		l, starts = append(l, x), append(starts, s)
		s += n
	}
	isTarget := make([]bool, len(l))
	targetOf := func(i int) int { return slices.Index(starts, starts[i]+1+l[i].Off) } // jumps have one slot
	for i, x := range l {
		if isJump(x.Op) {
			isTarget[targetOf(i)] = true
		}
	}
	label := func(i int) string {
		n := 0
		for _, is := range isTarget[:i] {
			if is {
				n++
			}
		}
		return "L" + strconv.Itoa(n)
	}
	p := api.Program{Maps: o.Maps}
	for i, x := range l {
		s := api.Stmt{Ins: x}
		if isTarget[i] {
			s.Labels = []string{label(i)}
		}
		if isJump(x.Op) {
			s.Ins.Off, s.Target = 0, label(targetOf(i))
		}
		for _, r := range o.Relocs {
			if r.Slot == starts[i] {
				s.Map = o.Maps[r.Symbol].Name
			}
		}
		p.Stmts = append(p.Stmts, s)
	}
	return p, 0, api.OK
}

// normal returns what Normal has to return: each statement asks all others whether they refer to one of its labels.
func normal(p api.Program) api.Program {
	if _, e := prog.Check(p); e != api.OK {
		return api.Program{}
	}
	isTarget := func(s api.Stmt) bool {
		return slices.ContainsFunc(p.Stmts, func(from api.Stmt) bool { return slices.Contains(s.Labels, from.Target) })
	}
	renamed := map[string]string{}
	n := 0
	q := api.Program{Maps: p.Maps}
	for _, s := range p.Stmts {
		var label []string
		if isTarget(s) {
			label = []string{"L" + strconv.Itoa(n)}
			n++
			for _, old := range s.Labels {
				renamed[old] = label[0]
			}
		}
		q.Stmts = append(q.Stmts, api.Stmt{Labels: label, Ins: s.Ins, Map: s.Map, Target: s.Target})
	}
	for i, s := range q.Stmts {
		if s.Target != "" {
			q.Stmts[i].Target = renamed[s.Target]
		}
	}
	return q
}

// packed returns what Bytes has to return.
func packed(text string) ([]byte, int, api.Errno) {
	o, line, e := asm.Text(text)
	if e != api.OK {
		return nil, line, e
	}
	b, e := object.Pack(o)
	if e != api.OK {
		panic("the object of a text is not correct")
	}
	return b, 0, api.OK
}

func sameObject(a, b api.Object) bool {
	return slices.Equal(a.Maps, b.Maps) && bytes.Equal(a.Code, b.Code) && slices.Equal(a.Relocs, b.Relocs)
}

// sameProgram compares programs, apart from nil and empty lists.
func sameProgram(p, q api.Program) bool {
	return slices.Equal(p.Maps, q.Maps) && slices.EqualFunc(p.Stmts, q.Stmts, func(s, t api.Stmt) bool {
		return slices.Equal(s.Labels, t.Labels) && s.Ins == t.Ins && s.Target == t.Target && s.Map == t.Map
	})
}

func cloneObject(o api.Object) api.Object {
	return api.Object{Maps: slices.Clone(o.Maps), Code: bytes.Clone(o.Code), Relocs: slices.Clone(o.Relocs)}
}

func cloneProgram(p api.Program) api.Program {
	q := api.Program{Maps: slices.Clone(p.Maps)}
	for _, s := range p.Stmts {
		s.Labels = slices.Clone(s.Labels)
		q.Stmts = append(q.Stmts, s)
	}
	return q
}

// short returns the beginning of the text of a value, which may be long.
func short(x any) string {
	switch x := x.(type) {
	case api.Object:
		return fmt.Sprintf("{%d maps, %d bytes %x, relocations %s}", len(x.Maps), len(x.Code), x.Code[:min(len(x.Code), 80)], short(x.Relocs))
	case api.Program:
		return fmt.Sprintf("{%d maps %s, %d statements %s}", len(x.Maps), short(x.Maps[:min(len(x.Maps), 9)]), len(x.Stmts), short(x.Stmts[:min(len(x.Stmts), 30)]))
	case []byte:
		return hex.EncodeToString(x[:min(len(x), 150)])
	}
	s := fmt.Sprint(x)
	if len(s) > 800 {
		return s[:800] + "…"
	}
	return s
}

// wantProgram compares Program, and Text if the object has bytes, with what they have to return: P19.1 and P19.2.
func wantProgram(t *testing.T, o api.Object, want api.Program, wantSlot int, wantE api.Errno) {
	t.Helper()
	before := cloneObject(o)
	if p, at, e := disasm.Program(o); !sameProgram(p, want) || at != wantSlot || e != wantE {
		t.Errorf("Program(%s) = %s, %d, %v; want %s, %d, %v", short(o), short(p), at, e, short(want), wantSlot, wantE)
	}
	if !sameObject(o, before) {
		t.Errorf("Program changed %s to %s", short(before), short(o))
	}
	if b, e := object.Pack(o); e == api.OK {
		wantText(t, b, print.Program(want), wantSlot, wantE)
	}
}

// wantText compares Text with what it has to return: P19.2.
func wantText(t *testing.T, b []byte, want string, wantSlot int, wantE api.Errno) {
	t.Helper()
	before := bytes.Clone(b)
	if text, at, e := disasm.Text(b); text != want || at != wantSlot || e != wantE {
		t.Errorf("Text(%s) = %q, %d, %v; want %q, %d, %v", short(b), short(text), at, e, short(want), wantSlot, wantE)
	}
	if !bytes.Equal(b, before) {
		t.Errorf("Text changed %s to %s", short(before), short(b))
	}
}

// wantNormal compares Normal with what it has to return: P19.3.
func wantNormal(t *testing.T, p, want api.Program) {
	t.Helper()
	before := cloneProgram(p)
	if q := disasm.Normal(p); !sameProgram(q, want) {
		t.Errorf("Normal(%s) = %s; want %s", short(p), short(q), short(want))
	}
	if !sameProgram(p, before) {
		t.Errorf("Normal changed %s to %s", short(before), short(p))
	}
}

// wantBytes compares Bytes with what it has to return: P19.4.
func wantBytes(t *testing.T, text string, want []byte, wantLine int, wantE api.Errno) {
	t.Helper()
	if b, line, e := disasm.Bytes(text); !bytes.Equal(b, want) || line != wantLine || e != wantE {
		t.Errorf("Bytes(%q) = %s, %d, %v; want %s, %d, %v", short(text), short(b), line, e, short(want), wantLine, wantE)
	}
}

// checkObject compares Program and Text with the model for an object, and the way back if it is valid: P19.1, P19.2 and P19.5. It tells
// the error.
func checkObject(t *testing.T, o api.Object) api.Errno {
	t.Helper()
	p, at, e := disassembled(o)
	wantProgram(t, o, p, at, e)
	if e != api.OK {
		return e
	}
	got, _, _ := disasm.Program(o)
	if again, _, e := asm.Assemble(got); !sameObject(again, o) || e != api.OK {
		t.Errorf("%s is assembled to %s, %v; want %s", short(got), short(again), e, short(o))
	}
	wantNormal(t, got, p) // labels are in order already
	b, _ := object.Pack(o)
	text, _, _ := disasm.Text(b)
	wantBytes(t, text, b, 0, api.OK)
	return api.OK
}

// checkProgram compares Normal with the model for a program, and with the program of its object if it is well-formed: P19.3 and P19.5. It
// tells the error of assembling.
func checkProgram(t *testing.T, p api.Program) api.Errno {
	t.Helper()
	want := normal(p)
	wantNormal(t, p, want)
	wantNormal(t, disasm.Normal(p), want)
	o, _, e := asm.Assemble(p)
	if e != api.OK {
		return e
	}
	wantProgram(t, o, want, 0, api.OK)
	again, _, e := asm.Assemble(disasm.Normal(p))
	if !sameObject(again, o) || e != api.OK {
		t.Errorf("the normal form of %s is assembled to %s, %v; want %s", short(p), short(again), e, short(o))
	}
	b, _ := object.Pack(o)
	wantBytes(t, print.Program(p), b, 0, api.OK)
	return checkObject(t, o)
}

// checkText compares Bytes with the model for a text: P19.4. It tells the error.
func checkText(t *testing.T, text string) api.Errno {
	t.Helper()
	b, line, e := packed(text)
	wantBytes(t, text, b, line, e)
	if e != api.OK {
		return e
	}
	p, _, _, _ := prog.Parse(text)
	return checkProgram(t, p)
}

// build returns the program with the maps and the instructions of lines, whether it is correct or not.
func build(lines ...string) api.Program {
	var p api.Program
	var labels []string
	for _, s := range lines {
		items, e := parse.Line(s)
		if e != api.OK {
			panic("the test has the line " + s)
		}
		for _, item := range items {
			switch x := item.(type) {
			case parse.Label:
				labels = append(labels, x.Name)
			case parse.Map:
				p.Maps = append(p.Maps, x.Def)
			case parse.Code:
				p.Stmts = append(p.Stmts, api.Stmt{Labels: labels, Ins: x.Ins, Target: x.Target, Map: x.Map})
				labels = nil
			}
		}
	}
	return p
}

// split returns the program with the lines of a text that are separated by bars.
func split(text string) api.Program { return build(strings.Split(text, "|")...) }

// unhex returns the bytes of a text with digits of base 16 and white space.
func unhex(s string) []byte {
	b, err := hex.DecodeString(strings.Join(strings.Fields(s), ""))
	if err != nil {
		panic(s)
	}
	return b
}

// join returns the slots of correct instructions.
func join(l ...api.Ins) []byte {
	b, at, e := slot.Join(l)
	if e != api.OK {
		panic(fmt.Sprint(l[at], e))
	}
	return b
}

// op returns an instruction without fields.
func op(n int) api.Ins { return api.Ins{Op: n} }

// jump returns an instruction that jumps to a distance.
func jump(n, off int) api.Ins { return api.Ins{Op: n, Off: off} }

// maps returns n maps, which differ in all fields.
func maps(n int) []api.Def {
	var l []api.Def
	for i := range n {
		l = append(l, api.Def{Name: "m" + strconv.Itoa(i), Key: 1 + i%64, Value: 256 - i, Entries: 1 + 4*i})
	}
	return l
}

// lists returns all lists of up to n elements out of some.
func lists[T any](some []T, n int) [][]T {
	all := [][]T{nil}
	for from := 0; len(all[from]) < n; from++ {
		for _, x := range some {
			all = append(all, append(slices.Clone(all[from]), x))
		}
	}
	return all
}

// whole is a program with an instruction of each form, with statements with no label, with one and with several, with labels to which
// nothing refers, and with jumps in both directions.
const whole = `map m 4 8 16
map unused 64 256 1024 ; nothing refers to it
map n 1 2 3
a: b: add64 r1, -5
c:
sub32 r1, r2
neg64 r3
movsb64 r4, r5
d: ja f
lddw r6, 0x123456789abcdef0
e: ldmap r1, n
jeq r1, r10, b
jlt32 r2, 7, d
f: call update
ldxw r7, [r8-2]
stb [r9+1], -1
g:
h: i: stxdw [r10-8], r0
ldmap r2, m
ldmap r3, n
jne r0, 0, j
ja g
j: exit
`

// wholeCode is the code of the object of whole.
const wholeCode = `
07 01 00 00 fb ff ff ff
1c 21 00 00 00 00 00 00
87 03 00 00 00 00 00 00
bf 54 08 00 00 00 00 00
05 00 06 00 00 00 00 00
18 06 00 00 f0 de bc 9a
00 00 00 00 78 56 34 12
18 11 00 00 00 00 00 00
00 00 00 00 00 00 00 00
1d a1 f6 ff 00 00 00 00
a6 02 f9 ff 07 00 00 00
85 00 00 00 02 00 00 00
61 87 fe ff 00 00 00 00
72 09 01 00 ff ff ff ff
7b 0a f8 ff 00 00 00 00
18 12 00 00 00 00 00 00
00 00 00 00 00 00 00 00
18 13 00 00 00 00 00 00
00 00 00 00 00 00 00 00
55 00 01 00 00 00 00 00
05 00 f9 ff 00 00 00 00
95 00 00 00 00 00 00 00
`

// wholeText is the text of the program of the object of whole.
const wholeText = `map m 4 8 16
map unused 64 256 1024
map n 1 2 3
L0:
add64 r1, -5
sub32 r1, r2
neg64 r3
movsb64 r4, r5
L1:
ja L2
lddw r6, 1311768467463790320
ldmap r1, n
jeq r1, r10, L0
jlt32 r2, 7, L1
L2:
call update
ldxw r7, [r8-2]
stb [r9+1], -1
L3:
stxdw [r10-8], r0
ldmap r2, m
ldmap r3, n
jne r0, 0, L4
ja L3
L4:
exit
`

// wholeObject returns the object of whole.
func wholeObject() api.Object {
	return api.Object{
		Maps:   []api.Def{{Name: "m", Key: 4, Value: 8, Entries: 16}, {Name: "unused", Key: 64, Value: 256, Entries: 1024}, {Name: "n", Key: 1, Value: 2, Entries: 3}},
		Code:   unhex(wholeCode),
		Relocs: []api.Reloc{{Slot: 7, Symbol: 2}, {Slot: 15, Symbol: 0}, {Slot: 17, Symbol: 2}},
	}
}

// wholeProgram returns the program whole.
func wholeProgram() api.Program { return build(lex.Lines(whole)...) }

// wholeNormal returns the program of the object of whole.
func wholeNormal() api.Program {
	return api.Program{
		Maps: wholeObject().Maps,
		Stmts: []api.Stmt{
			{Labels: []string{"L0"}, Ins: api.Ins{Op: 0, Dst: 1, Imm: -5}},
			{Ins: api.Ins{Op: 15, Reg: true, Dst: 1, Src: 2}},
			{Ins: api.Ins{Op: 28, Dst: 3}},
			{Ins: api.Ins{Op: 30, Dst: 4, Src: 5}},
			{Labels: []string{"L1"}, Ins: op(ja), Target: "L2"},
			{Ins: api.Ins{Op: lddw, Dst: 6, Imm: 0x123456789abcdef0}},
			{Ins: api.Ins{Op: ldmap, Dst: 1}, Map: "n"},
			{Ins: api.Ins{Op: jeq, Reg: true, Dst: 1, Src: 10}, Target: "L0"},
			{Ins: api.Ins{Op: 63, Dst: 2, Imm: 7}, Target: "L1"},
			{Labels: []string{"L2"}, Ins: api.Ins{Op: call, Imm: 2}},
			{Ins: api.Ins{Op: 71, Dst: 7, Src: 8, Off: -2}},
			{Ins: api.Ins{Op: 76, Dst: 9, Off: 1, Imm: -1}},
			{Labels: []string{"L3"}, Ins: api.Ins{Op: 83, Dst: 10, Off: -8}},
			{Ins: api.Ins{Op: ldmap, Dst: 2}, Map: "m"},
			{Ins: api.Ins{Op: ldmap, Dst: 3}, Map: "n"},
			{Ins: op(49), Target: "L4"},
			{Ins: op(ja), Target: "L3"},
			{Labels: []string{"L4"}, Ins: op(exit)},
		},
	}
}

// TestExamples: the examples of the chapter and of the document.
func TestExamples(t *testing.T) {
	o, _, _ := asm.Text("a: b: jeq r0, 0, b\nexit")
	p, at, e := disasm.Program(o)
	if at != 0 || e != api.OK || len(p.Stmts) != 2 || !slices.Equal(p.Stmts[0].Labels, []string{"L0"}) || p.Stmts[0].Target != "L0" || len(p.Stmts[1].Labels) > 0 {
		t.Errorf("Program = %v, %d, %v", p, at, e)
	}
	wantNormal(t, split("a: b: jeq r0, 0, b|exit"), split("L0: jeq r0, 0, L0|exit"))
	loop := api.Object{Code: unhex("05 00 ff ff 00 00 00 00")}
	wantProgram(t, loop, api.Program{Stmts: []api.Stmt{{Labels: []string{"L0"}, Ins: op(ja), Target: "L0"}}}, 0, api.OK)
	b, line, e := disasm.Bytes("x: ja x")
	want, _ := object.Pack(loop)
	if !bytes.Equal(b, want) || line != 0 || e != api.OK {
		t.Errorf("Bytes = %x, %d, %v", b, line, e)
	}
	wantText(t, b, "L0:\nja L0\n", 0, api.OK)
	// The bytes of exit, written out.
	b = unhex(`53 4c 43 31 01 00 05 00 60 00 00 00 00 00 00 00
		01 00 00 00 50 00 00 00 08 00 00 00  02 00 00 00 58 00 00 00 00 00 00 00  03 00 00 00 58 00 00 00 00 00 00 00
		04 00 00 00 58 00 00 00 00 00 00 00  05 00 00 00 58 00 00 00 01 00 00 00  00 00 00 00
		95 00 00 00 00 00 00 00  00 00 00 00 00 00 00 00`)
	wantText(t, b, "exit\n", 0, api.OK)
	wantBytes(t, "exit", b, 0, api.OK)
}

// TestWhole: P19.1 to P19.5, all of a program written out.
func TestWhole(t *testing.T) {
	o := wholeObject()
	wantProgram(t, o, wholeNormal(), 0, api.OK)
	wantNormal(t, wholeProgram(), wholeNormal())
	wantNormal(t, wholeNormal(), wholeNormal())
	b, _ := object.Pack(o)
	wantText(t, b, wholeText, 0, api.OK)
	wantBytes(t, whole, b, 0, api.OK)
	wantBytes(t, wholeText, b, 0, api.OK)
	checkObject(t, o)
	checkProgram(t, wholeProgram())
}

// TestWrongObjects: P19.1 and P19.2, for each condition of chapter 17, the slot and the error of valid.Check, and a zero Program.
func TestWrongObjects(t *testing.T) {
	end := join(op(exit))
	ref := api.Ins{Op: ldmap, Imm: 1}
	for _, c := range []struct {
		o  api.Object
		at int
		e  api.Errno
	}{
		{api.Object{}, 0, api.ErrSlot},
		{api.Object{Maps: maps(3)}, 0, api.ErrSlot},
		{api.Object{Maps: maps(3), Code: end[:7]}, 0, api.ErrSlot},
		{api.Object{Code: slices.Concat(end, end)[:15]}, 0, api.ErrSlot},
		{api.Object{Maps: []api.Def{{Name: "r1", Key: 1, Value: 1, Entries: 1}}, Code: end}, 0, api.ErrName},
		{api.Object{Maps: []api.Def{{Name: "m", Key: 65, Value: 1, Entries: 1}}, Code: end}, 0, api.ErrMap},
		{api.Object{Maps: append(maps(2), maps(1)...), Code: end}, 0, api.ErrDuplicate},
		{api.Object{Maps: maps(257)[255:], Code: end}, 0, api.ErrMap}, // the last Value is 0
		{api.Object{Code: bytes.Repeat(end, 65536)}, 0, api.ErrSize},
		{api.Object{Maps: maps(2), Code: join(op(ldmap), op(exit)), Relocs: []api.Reloc{{Slot: 0, Symbol: 2}}}, 0, api.ErrReloc},
		{api.Object{Maps: maps(2), Code: join(op(ldmap), op(exit)), Relocs: []api.Reloc{{Slot: 0, Symbol: -1}}}, 0, api.ErrReloc},
		{api.Object{Code: unhex("9500000000000000 ff00000000000000")}, 1, api.ErrOp},
		{api.Object{Code: unhex("9500000000000000 9500000000000000 1800000000000000")}, 2, api.ErrSlot},
		{api.Object{Code: unhex("9500000000000000 950b000000000000")}, 1, api.ErrRegister},
		{api.Object{Code: unhex("9500000000000000 9501000000000000")}, 1, api.ErrField},
		{api.Object{Maps: maps(2), Code: join(op(lddw), ref, op(exit)), Relocs: []api.Reloc{{Slot: 2, Symbol: 1}}}, 2, api.ErrField},
		{api.Object{Maps: maps(2), Code: join(op(mov64), op(ldmap), op(exit))}, 1, api.ErrReloc},
		{api.Object{Maps: maps(2), Code: join(op(mov64), op(ldmap), op(exit)), Relocs: []api.Reloc{{Slot: 2, Symbol: 1}}}, 1, api.ErrReloc},
		{api.Object{Maps: maps(2), Code: join(op(ldmap), op(lddw), op(exit)), Relocs: []api.Reloc{{Slot: 0, Symbol: 1}, {Slot: 2, Symbol: 1}}}, 2, api.ErrReloc},
		{api.Object{Code: join(op(lddw), jump(ja, -2), op(exit))}, 2, api.ErrJump},
		{api.Object{Code: join(op(exit), jump(jeq, 1), op(exit))}, 1, api.ErrJump},
		{api.Object{Code: join(op(exit), op(mov64), api.Ins{Op: ldxb, Dst: 10}, op(exit))}, 2, api.ErrWrite},
		{api.Object{Code: join(op(exit), op(lddw), op(mov64))}, 3, api.ErrEnd},
	} {
		wantProgram(t, c.o, api.Program{}, c.at, c.e)
		if at, e := valid.Check(c.o); at != c.at || e != c.e {
			t.Errorf("valid.Check(%s) = %d, %v; want %d, %v", short(c.o), at, e, c.at, c.e)
		}
	}
}

// TestWrongBytes: P19.2, bytes that are no object, or that of another object, with each byte changed and with bytes left out.
func TestWrongBytes(t *testing.T) {
	for _, o := range []api.Object{
		wholeObject(),
		{Code: join(op(exit))},
		{Maps: maps(2), Code: join(op(mov64), op(ldmap), jump(ja, -4)), Relocs: []api.Reloc{{Slot: 1, Symbol: 1}}},
		{Maps: maps(2), Code: join(op(mov64), op(ldmap), op(exit))},
		{Maps: maps(2), Code: join(op(mov64), jump(ja, 5), op(exit))},
	} {
		b, e := object.Pack(o)
		if e != api.OK {
			t.Fatal(e)
		}
		for n := range b {
			wantText(t, b[:n], "", 0, api.ErrBox)
			wantText(t, b[n+1:], "", 0, api.ErrBox)
			for _, c := range []byte{0, 1, 2, 5, 10, 0x18, 0x85, 0x95, 0xff} {
				near := slices.Clone(b)
				near[n] = c
				checkBytes(t, near)
			}
		}
		wantText(t, append(slices.Clone(b), 0), "", 0, api.ErrBox)
	}
	for _, s := range []string{"", "\x00", "SLC1", "exit", whole, strings.Repeat("\x95\x00\x00\x00\x00\x00\x00\x00", 12), strings.Repeat("x", 1<<21)} {
		wantText(t, []byte(s), "", 0, api.ErrBox)
	}
	wantText(t, nil, "", 0, api.ErrBox)
}

// checkBytes compares Text with the model for the object with some bytes, and with valid.Bytes; and Bytes inverts it.
func checkBytes(t *testing.T, b []byte) {
	t.Helper()
	o, e := object.Parse(b)
	var p api.Program
	at := 0
	if e == api.OK {
		p, at, e = disassembled(o)
	}
	wantText(t, b, print.Program(p), at, e)
	if other, f := valid.Bytes(b); other != at || f != e {
		t.Errorf("valid.Bytes(%s) = %d, %v; want %d, %v", short(b), other, f, at, e)
	}
	if e == api.OK {
		text, _, _ := disasm.Text(b)
		wantBytes(t, text, b, 0, api.OK)
	}
}

// instructions returns correct instructions with an operation, with different values of all the fields that it uses, apart from r10.
func instructions(n int) []api.Ins {
	var l []api.Ins
	for _, x := range []api.Ins{
		{Dst: 1, Src: 2, Off: 3, Imm: 1}, {Dst: 9, Src: 10, Off: -4, Imm: 3}, {Src: 7, Off: math.MinInt16, Imm: 2}, {Dst: 5, Off: math.MaxInt16, Imm: -7},
		{Dst: 2, Src: 3, Imm: math.MaxInt32}, {Dst: 3, Src: 4, Imm: math.MinInt32}, {Dst: 4, Imm: math.MaxInt64}, {Dst: 6, Imm: math.MinInt64},
	} {
		for _, reg := range []bool{false, true} {
			y := api.Ins{Op: n, Reg: reg}
			uses := insn.Uses(n, reg)
			if uses.Dst {
				y.Dst = x.Dst
			}
			if uses.Src {
				y.Src = x.Src
			}
			if uses.Off && !isJump(n) {
				y.Off = x.Off
			}
			if uses.Imm && n != ldmap {
				y.Imm = x.Imm
			}
			if insn.Check(y) == api.OK && !slices.Contains(l, y) {
				l = append(l, y)
			}
		}
	}
	return l
}

// TestOperations: P19.1 to P19.5, all operations with different fields, where Off is 0 only for jumps, and Imm only for references.
func TestOperations(t *testing.T) {
	for n := range count {
		l := instructions(n)
		if len(l) == 0 {
			t.Errorf("the test has no instructions with the operation %d", n)
		}
		for _, x := range l {
			first, second := x, x
			p := api.Program{Maps: maps(3), Stmts: []api.Stmt{{Ins: op(lddw)}, {Ins: x}, {Ins: op(lddw)}, {Ins: op(mov64)}, {Ins: x}, {Ins: op(exit)}}}
			o := api.Object{Maps: maps(3)}
			switch {
			case isJump(n):
				first.Off, second.Off = 3, -5
				p.Stmts[1].Labels, p.Stmts[1].Target = []string{"L0"}, "L1"
				p.Stmts[4].Labels, p.Stmts[4].Target = []string{"L1"}, "L0"
			case n == ldmap:
				o.Relocs = []api.Reloc{{Slot: 2, Symbol: 2}, {Slot: 7, Symbol: 1}}
				p.Stmts[1].Map, p.Stmts[4].Map = "m2", "m1"
			}
			o.Code = join(op(lddw), first, op(lddw), op(mov64), second, op(exit))
			wantProgram(t, o, p, 0, api.OK)
			checkObject(t, o)
			checkProgram(t, p)
		}
	}
}

// TestNumbers: P19.1 and P19.3, labels are numbered by the statements that have them, not by the jumps, and only those to which a jump leads.
func TestNumbers(t *testing.T) {
	for _, c := range []struct{ text, want string }{
		{"exit", "exit"},
		{"a: b: exit", "exit"},
		{"a: exit|b: ja b", "exit|L0: ja L0"},
		{"a: ja b|b: ja a", "L0: ja L1|L1: ja L0"},
		{"jeq r0, 0, c|jeq r0, 0, b|jeq r0, 0, a|a: exit|b: exit|c: exit", "jeq r0, 0, L2|jeq r0, 0, L1|jeq r0, 0, L0|L0: exit|L1: exit|L2: exit"},
		{"jeq r0, 0, a|jeq r0, 0, b|jeq r0, 0, c|a: exit|b: exit|c: exit", "jeq r0, 0, L0|jeq r0, 0, L1|jeq r0, 0, L2|L0: exit|L1: exit|L2: exit"},
		{"jeq r0, 0, c|jeq r0, 0, a|a: exit|b: exit|c: exit", "jeq r0, 0, L1|jeq r0, 0, L0|L0: exit|exit|L1: exit"},
		{"jeq r0, 0, c|jeq r0, 0, c|jeq r0, 0, b|a: b: c: exit", "jeq r0, 0, L0|jeq r0, 0, L0|jeq r0, 0, L0|L0: exit"},
		{"exit|ja c|a: b: exit|c: ja c", "exit|ja L0|exit|L0: ja L0"}, // also if the jump is not reached
		{"a: exit|lddw r1, 5|b: lddw r2, 6|c: ja b|d: jne32 r1, r2, d|ja a", "L0: exit|lddw r1, 5|L1: lddw r2, 6|ja L1|L2: jne32 r1, r2, L2|ja L0"},
		{"L0: ja L0", "L0: ja L0"},
		{"L1: ja L1", "L0: ja L0"},
		{"L1: ja L0|L0: ja L1", "L0: ja L1|L1: ja L0"},
		{"L2: ja L1|L1: ja L0|L0: ja L2", "L0: ja L1|L1: ja L2|L2: ja L0"},
		{"L0: exit|L1: ja L1", "exit|L0: ja L0"},
		{"L0: L1: ja L1|L2: L3: ja L2|L00: exit", "L0: ja L0|L1: ja L1|exit"},
		{"l0: ja L0|L0: ja l0", "L0: ja L1|L1: ja L0"},
		{"exit: map: ja call|call: ja map", "L0: ja L1|L1: ja L0"},
		{"map L0 1 1 1|map a 2 2 2|a: ldmap r1, L0|L0: ldmap r1, a|m: ja a", "map L0 1 1 1|map a 2 2 2|L0: ldmap r1, L0|ldmap r1, a|ja L0"},
		{"map b 1 1 1|b: ldmap r1, b|a: ja b", "map b 1 1 1|L0: ldmap r1, b|ja L0"},
	} {
		p, want := split(c.text), split(c.want)
		wantNormal(t, p, want)
		o, _, e := asm.Assemble(p)
		if e != api.OK {
			t.Errorf("Assemble of %q: %v", c.text, e)
		}
		wantProgram(t, o, want, 0, api.OK)
		checkProgram(t, p)
		checkText(t, strings.ReplaceAll(c.text, "|", "\n"))
	}
}

// TestManyLabels: P19.1 and P19.3, labels with more than one digit are in the order of their numbers, and not of their texts.
func TestManyLabels(t *testing.T) {
	for _, n := range []int{9, 10, 11, 12, 99, 100, 101, 257, 1001} {
		var forward, backward, some api.Program
		for i := range n {
			name := "x" + strconv.Itoa(n-i)
			forward.Stmts = append(forward.Stmts, api.Stmt{Labels: []string{name}, Ins: op(ja), Target: name})
			backward.Stmts = append(backward.Stmts, api.Stmt{Labels: []string{name}, Ins: op(jeq), Target: "x" + strconv.Itoa(i+1)})
			some.Stmts = append(some.Stmts, api.Stmt{Labels: []string{name}, Ins: op(exit)}, api.Stmt{Labels: []string{"L" + strconv.Itoa(i)}, Ins: op(jeq), Target: "x" + strconv.Itoa(n/2+i/2)})
		}
		backward.Stmts = append(backward.Stmts, api.Stmt{Labels: []string{"end"}, Ins: op(exit)})
		some.Stmts = append(some.Stmts, api.Stmt{Ins: op(exit)})
		for _, p := range []api.Program{forward, backward, some} {
			if e := checkProgram(t, p); e != api.OK {
				t.Errorf("Assemble of %s: %v", short(p), e)
			}
		}
		q := disasm.Normal(forward)
		last := api.Stmt{Labels: []string{"L" + strconv.Itoa(n-1)}, Ins: op(ja), Target: "L" + strconv.Itoa(n-1)}
		if len(q.Stmts) != n || q.Stmts[n-1].Target != last.Target || !slices.Equal(q.Stmts[n-1].Labels, last.Labels) {
			t.Errorf("the last of %d statements is %v", n, q.Stmts[n-1])
		}
	}
}

// TestWide: P19.1, distances count slots, and not statements.
func TestWide(t *testing.T) {
	for _, c := range []struct {
		l    []api.Ins
		want string
	}{
		{[]api.Ins{jump(ja, 2), op(lddw), op(exit)}, "ja L0|lddw r0, 0|L0: exit"},
		{[]api.Ins{jump(ja, 4), op(lddw), op(lddw), op(exit)}, "ja L0|lddw r0, 0|lddw r0, 0|L0: exit"},
		{[]api.Ins{jump(ja, 2), op(lddw), op(lddw), op(exit)}, "ja L0|lddw r0, 0|L0: lddw r0, 0|exit"},
		{[]api.Ins{jump(ja, 0), op(lddw), op(lddw), op(exit)}, "ja L0|L0: lddw r0, 0|lddw r0, 0|exit"},
		{[]api.Ins{op(lddw), op(lddw), jump(ja, -5)}, "L0: lddw r0, 0|lddw r0, 0|ja L0"},
		{[]api.Ins{op(lddw), op(lddw), jump(ja, -3)}, "lddw r0, 0|L0: lddw r0, 0|ja L0"},
		{[]api.Ins{op(lddw), op(lddw), jump(ja, -1)}, "lddw r0, 0|lddw r0, 0|L0: ja L0"},
		{[]api.Ins{jump(jeq, 3), op(lddw), jump(ja, -4), op(lddw), jump(ja, -6)}, "L0: jeq r0, 0, L2|L1: lddw r0, 0|ja L0|L2: lddw r0, 0|ja L1"},
	} {
		wantProgram(t, api.Object{Code: join(c.l...)}, split(c.want), 0, api.OK)
		checkObject(t, api.Object{Code: join(c.l...)})
	}
}

// TestMaps: P19.1 and P19.5, the maps are those of the object, also those to which nothing refers; and references have their names.
func TestMaps(t *testing.T) {
	for symbol := range 255 {
		other := 254 - symbol
		o := api.Object{Maps: maps(255), Relocs: []api.Reloc{{Slot: 0, Symbol: symbol}, {Slot: 5, Symbol: other}, {Slot: 7, Symbol: symbol}}}
		o.Code = join(op(ldmap), op(lddw), op(mov64), op(ldmap), api.Ins{Op: ldmap, Dst: 9}, jump(ja, -10))
		name, otherName := "m"+strconv.Itoa(symbol), "m"+strconv.Itoa(other)
		p := api.Program{Maps: maps(255), Stmts: []api.Stmt{
			{Labels: []string{"L0"}, Ins: op(ldmap), Map: name}, {Ins: op(lddw)}, {Ins: op(mov64)}, {Ins: op(ldmap), Map: otherName},
			{Ins: api.Ins{Op: ldmap, Dst: 9}, Map: name}, {Ins: op(ja), Target: "L0"},
		}}
		wantProgram(t, o, p, 0, api.OK)
		wantNormal(t, p, p)
	}
	for _, names := range [][]string{{"L0", "L1"}, {"L1", "L0"}, {"map", "exit"}, {"M", "m"}, {"r11", "R1"}, {"_", "."}, {"a", "a.a"}, {strings.Repeat("x", 32), strings.Repeat("x", 31)}} {
		for _, n := range []int{1, 2} {
			p := api.Program{Stmts: []api.Stmt{{Labels: []string{names[0]}, Ins: op(ldmap), Map: names[n-1]}, {Ins: op(ja), Target: names[0]}}}
			for i, name := range names[:n] {
				p.Maps = append(p.Maps, api.Def{Name: name, Key: 1 + 63*i, Value: 256 - 255*i, Entries: 1 + 1023*i})
			}
			if e := checkProgram(t, p); e != api.OK {
				t.Errorf("Assemble of %s: %v", short(p), e)
			}
			want := api.Program{Maps: p.Maps, Stmts: []api.Stmt{{Labels: []string{"L0"}, Ins: op(ldmap), Map: names[n-1]}, {Ins: op(ja), Target: "L0"}}}
			wantNormal(t, p, want)
		}
	}
	for _, n := range []int{0, 1, 254, 255, 256, 257} {
		p := api.Program{Stmts: []api.Stmt{{Ins: op(exit)}}}
		for i := range n {
			p.Maps = append(p.Maps, api.Def{Name: "n" + strconv.Itoa(n-i), Key: 1, Value: 1, Entries: 1})
		}
		o := api.Object{Maps: p.Maps, Code: join(op(exit))}
		if n > 255 {
			wantProgram(t, o, api.Program{}, 0, api.ErrSize)
			wantNormal(t, p, api.Program{})
			continue
		}
		wantProgram(t, o, p, 0, api.OK)
		wantNormal(t, p, p)
	}
}

// TestIncorrect: P19.3, for each condition of chapter 10, a program that breaks it.
func TestIncorrect(t *testing.T) {
	changed := func(change func(p *api.Program)) api.Program {
		p := wholeProgram()
		change(&p)
		return p
	}
	for i, p := range []api.Program{
		{},
		{Maps: wholeObject().Maps},
		{Maps: wholeObject().Maps, Stmts: []api.Stmt{}},
		split("ja x"),
		split("x: exit|jeq r1, 5, y|exit"),
		split("exit|neg64 r1"),
		split("x: exit|ja x|lddw r1, 5"),
		split("exit|neg64 r10|exit"),
		split("x: exit|y: exit|x: ja x"),
		split("x: x: exit"),
		split("map m 1 1 1|map n 1 1 1|map m 1 1 1|exit"),
		split("exit|ldmap r1, m|exit"),
		split("map n 1 1 1|ldmap r1, m|m: exit"),
		changed(func(p *api.Program) { p.Maps[1].Name = "" }),
		changed(func(p *api.Program) { p.Maps[1].Name = "r1" }),
		changed(func(p *api.Program) { p.Maps[1].Entries = 1025 }),
		changed(func(p *api.Program) { p.Maps[1].Key = 0 }),
		changed(func(p *api.Program) { p.Stmts[12].Labels[2] = "r1" }),
		changed(func(p *api.Program) { p.Stmts[3].Labels = []string{""} }),
		changed(func(p *api.Program) { p.Stmts[3].Ins.Op = 86 }),
		changed(func(p *api.Program) { p.Stmts[3].Ins.Op = -1 }),
		changed(func(p *api.Program) { p.Stmts[9].Ins.Dst = 1 }),
		changed(func(p *api.Program) { p.Stmts[4].Ins.Off = 6 }),
		changed(func(p *api.Program) { p.Stmts[8].Ins.Off = -7 }),
		changed(func(p *api.Program) { p.Stmts[6].Ins.Imm = 1 }),
		changed(func(p *api.Program) { p.Stmts[5].Target = "a" }),
		changed(func(p *api.Program) { p.Stmts[17].Map = "m" }),
		changed(func(p *api.Program) { p.Stmts[4].Target = "" }),
		changed(func(p *api.Program) { p.Stmts[6].Map = "" }),
		changed(func(p *api.Program) { p.Stmts[10].Ins.Dst = 11 }),
		changed(func(p *api.Program) { p.Stmts[0].Ins.Imm = math.MaxInt32 + 1 }),
		changed(func(p *api.Program) { p.Stmts[10].Ins.Off = math.MaxInt16 + 1 }),
	} {
		if _, e := prog.Check(p); e == api.OK {
			t.Errorf("the program %d of the test is correct", i)
		}
		wantNormal(t, p, api.Program{})
	}
}

// stmts returns as many statements with an operation.
func stmts(n, times int) []api.Stmt { return slices.Repeat([]api.Stmt{{Ins: op(n)}}, times) }

// to returns a jump.
func to(n int, target string) []api.Stmt { return []api.Stmt{{Ins: op(n), Target: target}} }

// from returns a statement with labels.
func from(n int, labels ...string) []api.Stmt { return []api.Stmt{{Labels: labels, Ins: op(n)}} }

// program returns the program with all statements.
func program(l ...[]api.Stmt) api.Program { return api.Program{Stmts: slices.Concat(l...)} }

// TestNotWellFormed: P19.3, programs have a normal form also if they are too long for an object, or jump too far.
func TestNotWellFormed(t *testing.T) {
	for _, c := range []struct {
		p, want api.Program
		e       api.Errno
	}{
		{program(to(ja, "x"), stmts(exit, 32767), from(exit, "y", "x")), program(to(ja, "L0"), stmts(exit, 32767), from(exit, "L0")), api.OK},
		{program(to(ja, "x"), stmts(exit, 32768), from(exit, "y", "x")), program(to(ja, "L0"), stmts(exit, 32768), from(exit, "L0")), api.ErrJump},
		{program(from(exit, "a"), stmts(exit, 32766), to(jeq, "a"), from(exit, "b")), program(from(exit, "L0"), stmts(exit, 32766), to(jeq, "L0"), stmts(exit, 1)), api.OK},
		{program(from(exit, "a"), stmts(exit, 32767), to(jeq, "a"), from(exit, "b")), program(from(exit, "L0"), stmts(exit, 32767), to(jeq, "L0"), stmts(exit, 1)), api.ErrJump},
		{program(from(exit, "a"), stmts(lddw, 50000), to(jeq, "a"), to(ja, "b"), from(exit, "b")), program(from(exit, "L0"), stmts(lddw, 50000), to(jeq, "L0"), to(ja, "L1"), from(exit, "L1")), api.ErrSize},
		{program(from(exit, "a"), stmts(exit, 200000), to(ja, "a")), program(from(exit, "L0"), stmts(exit, 200000), to(ja, "L0")), api.ErrSize},
	} {
		if _, _, e := asm.Assemble(c.p); e != c.e {
			t.Errorf("Assemble of %s: %v; want %v", short(c.p), e, c.e)
		}
		wantNormal(t, c.p, c.want)
		wantNormal(t, c.want, c.want)
	}
}

// TestBytes: P19.4, the errors of asm.Text with their lines, and the bytes of texts in other spellings.
func TestBytes(t *testing.T) {
	many := func(n int) string { return strings.Repeat("exit\n", n) }
	for text, want := range map[string]struct {
		line int
		e    api.Errno
	}{
		"":                                   {0, api.ErrEnd},
		"\n\n":                               {2, api.ErrEnd},
		"; exit":                             {1, api.ErrEnd},
		"exit\n\nx:\ny:":                     {3, api.ErrEnd},
		"exit\n\n\nja x":                     {4, api.ErrUndefined},
		"exit\nx:\n\nneg64 r10":              {4, api.ErrWrite},
		"exit\n\nneg64 r1":                   {3, api.ErrEnd},
		"exit\nadd r1, 5":                    {2, api.ErrOp},
		"exit\n\nadd64 r1 5":                 {3, api.ErrSyntax},
		"exit\nadd64 r11, 5":                 {2, api.ErrRegister},
		"exit\nadd64 r1, 5x":                 {2, api.ErrNumber},
		"\nadd64 r1, 0x100000000\nfoo":       {2, api.ErrRange},
		"\n1: exit":                          {2, api.ErrName},
		"\nmap m 0 1 1\nexit":                {2, api.ErrMap},
		"\nexit\nmap m 1 1 1":                {3, api.ErrOrder},
		"map m 1 1 1\n\nmap m 1 1 1\nexit":   {3, api.ErrDuplicate},
		"x: exit\ny:\n\nx:\nexit":            {5, api.ErrDuplicate},
		"\nja x\n" + many(32768) + "x: exit": {2, api.ErrJump},
		"\n" + many(65536):                   {65537, api.ErrSize},
	} {
		wantBytes(t, text, nil, want.line, want.e)
	}
	for _, text := range []string{
		"exit", "exit\n", " exit ; and no more", "\n\n\texit\r\n#\n", "x:\ny: z: exit", "x: ja x", "map m 1 1 1\nexit", whole, wholeText,
		"lddw r1, -1\nexit", "lddw r1, 0xffffffffffffffff\nexit", "ldxb r1 , [ r2 - 0x8 ]\nexit", many(65535), "ja x\n" + many(32767) + "x: exit",
	} {
		want, line, e := packed(text)
		if len(want) == 0 || e != api.OK {
			t.Errorf("the test has a text with %d, %v", line, e)
		}
		wantBytes(t, text, want, 0, api.OK)
	}
	for _, texts := range [][]string{
		{whole, wholeText, strings.ReplaceAll(whole, "\n", " \t;\n\n"), strings.NewReplacer(" ", "\t ", ",", " , ", "-5", "- 0x0005", "-8", "-0x8").Replace(whole)},
		{"add64 r1, -5\nx: exit", "add64 r1, 4294967291\nexit", "y:\nadd64 r1, 0xFFFFFFFB\nexit"},
		{"x: ja x", "L0: ja L0", "a: b:\nc: ja b"},
	} {
		want, _, _ := disasm.Bytes(texts[0])
		for _, text := range texts {
			wantBytes(t, text, want, 0, api.OK)
			b, _, _ := disasm.Bytes(text)
			if text, at, e := disasm.Text(b); e != api.OK || at != 0 || text == "" {
				t.Errorf("Text = %q, %d, %v", text, at, e)
			}
		}
	}
}

// TestSmall: P19.1 to P19.5, all programs of up to four lines out of some, also those that are not correct.
func TestSmall(t *testing.T) {
	found := map[api.Errno]int{}
	for _, lines := range lists([]string{"exit", "ja x", "x: lddw r1, -5", "y: jeq r1, r2, x", "x: z: ja y", "L0: ja L1", "L1: neg64 r10", "ldmap r2, m", "map m 1 2 3", "map n 4 5 6"}, 4) {
		found[checkProgram(t, build(lines...))]++
		checkText(t, strings.Join(lines, "\n"))
		if t.Failed() {
			return
		}
	}
	if found[api.OK] < 100 || found[api.ErrUndefined] < 100 || found[api.ErrWrite] < 10 || found[api.ErrEnd] < 100 {
		t.Errorf("only %v were found", found)
	}
}

// TestJumps: P19.3 and P19.5, all programs of four jumps, which lead to all statements, from statements with no label to three.
func TestJumps(t *testing.T) {
	labels := [][]string{{"L1"}, {"a", "L0", "b"}, {"L3", "c"}, {"L2"}}
	for _, some := range lists([]int{0, 1, 2, 3}, 4) {
		if len(some) < 4 {
			continue
		}
		for last := range labels[1] {
			var p api.Program
			for i, to := range some {
				p.Stmts = append(p.Stmts, api.Stmt{Labels: labels[i], Ins: op(ja), Target: labels[to][last%len(labels[to])]})
			}
			if e := checkProgram(t, p); e != api.OK {
				t.Fatalf("Assemble of %s: %v", short(p), e)
			}
		}
	}
}

// TestAllObjects: P19.1, P19.2 and P19.5, all objects out of some instructions with some relocations; no two have the same program.
func TestAllObjects(t *testing.T) {
	seen := map[string]api.Object{}
	found := map[api.Errno]int{}
	for _, l := range lists([]api.Ins{op(ldmap), {Op: lddw, Dst: 1}, {Op: mov64, Imm: 1}, jump(jeq, -2), jump(ja, 1), op(exit)}, 4) {
		code := join(l...)
		var refs []int
		slots := 0
		for _, x := range l {
			if x.Op == ldmap {
				refs = append(refs, slots)
			}
			slots += insn.Slots(x.Op)
		}
		for _, symbols := range lists([]int{0, 1}, len(refs)) {
			o := api.Object{Maps: maps(2), Code: code}
			for i, symbol := range symbols {
				o.Relocs = append(o.Relocs, api.Reloc{Slot: refs[i], Symbol: symbol})
			}
			e := checkObject(t, o)
			found[e]++
			if e != api.OK {
				continue
			}
			b, _ := object.Pack(o)
			text, _, _ := disasm.Text(b)
			if other, ok := seen[text]; ok {
				t.Errorf("%s and %s have the same text", short(o), short(other))
			}
			seen[text] = o
		}
		if t.Failed() {
			return
		}
	}
	if len(seen) < 200 || found[api.ErrReloc] < 100 || found[api.ErrJump] < 100 || found[api.ErrEnd] < 100 {
		t.Errorf("only %v were found", found)
	}
}

// randomText returns the text of a program, which is well-formed.
func randomText(r *rand.Rand) string {
	var s strings.Builder
	maps, n := r.Intn(4), 1+r.Intn(14)
	for i := range maps {
		fmt.Fprintf(&s, "map m%d %d %d %d\n", i, 1+r.Intn(64), 1+r.Intn(256), 1+r.Intn(1024))
	}
	// Numbers of labels are those of their statements in another order.
	order := r.Perm(n)
	target := func() string { return fmt.Sprintf("%c%d", "Lx"[r.Intn(2)], order[r.Intn(n)]) }
	statements := []func() string{
		func() string { return fmt.Sprintf("lddw r%d, %d", r.Intn(10), r.Int63()) },
		func() string { return fmt.Sprintf("mov64 r%d, r%d", r.Intn(10), r.Intn(11)) },
		func() string { return fmt.Sprintf("xor32 r%d, %d", r.Intn(10), r.Intn(1<<20)-1<<19) },
		func() string { return fmt.Sprintf("ldxsw r%d, [r%d-%d]", r.Intn(10), r.Intn(11), r.Intn(512)) },
		func() string { return fmt.Sprintf("stxw [r%d+%d], r%d", r.Intn(11), r.Intn(512), r.Intn(11)) },
		func() string { return fmt.Sprintf("jset r%d, %d, %s", r.Intn(11), r.Intn(9), target()) },
		func() string { return fmt.Sprintf("jsgt32 r%d, r%d, %s", r.Intn(11), r.Intn(11), target()) },
		func() string { return "ja " + target() },
		func() string { return "exit" },
		func() string { return "call update" },
		func() string { return fmt.Sprintf("ldmap r%d, m%d", r.Intn(10), r.Intn(max(maps, 1))) },
		func() string { return fmt.Sprintf("ldmap r%d, m%d", r.Intn(10), r.Intn(max(maps, 1))) },
	}
	if maps == 0 {
		statements = statements[:len(statements)-2]
	}
	for i := range n {
		statement := statements[r.Intn(len(statements))]()
		if i == n-1 {
			statement = "ja " + target()
		}
		fmt.Fprintf(&s, "L%d: x%d: %s\n", order[i], order[i], statement)
	}
	return s.String()
}

// changeObject changes an object at a random place.
func changeObject(r *rand.Rand, o *api.Object) {
	slots := len(o.Code) / 8
	s := r.Intn(slots)
	switch r.Intn(6) {
	case 0: // a byte
		o.Code[r.Intn(len(o.Code))] = byte(r.Intn(256))
	case 1: // a register
		o.Code[8*s+1] = o.Code[8*s+1]&0xf0 | byte(r.Intn(12))
	case 2: // a distance
		o.Code[8*s+2] += byte(r.Intn(5) - 2)
	case 3: // an end that is no end
		copy(o.Code[8*slots-8:], "\xbf\x01\x00\x00\x00\x00\x00\x00")
	case 4: // a symbol
		if len(o.Relocs) > 0 {
			o.Relocs[r.Intn(len(o.Relocs))].Symbol = r.Intn(len(o.Maps))
		}
	case 5: // a relocation less, or another slot
		if len(o.Relocs) > 0 {
			i := r.Intn(len(o.Relocs))
			if r.Intn(2) == 0 {
				o.Relocs = slices.Delete(o.Relocs, i, i+1)
			} else {
				o.Relocs[i].Slot++
			}
		}
	}
}

// changeProgram changes a program at a random place.
func changeProgram(r *rand.Rand, p *api.Program) {
	i := r.Intn(len(p.Stmts))
	s := &p.Stmts[i]
	name := fmt.Sprintf("%c%d", "Lxm"[r.Intn(3)], r.Intn(8))
	switch r.Intn(8) {
	case 0: // a label more
		s.Labels = append(s.Labels, name)
	case 1: // fewer labels
		s.Labels = s.Labels[:r.Intn(len(s.Labels)+1)]
	case 2: // another target
		if s.Target != "" {
			s.Target = name
		}
	case 3: // another map
		if s.Map != "" {
			s.Map = name
		}
	case 4: // a field
		s.Ins.Dst = r.Intn(12)
	case 5: // another number
		s.Ins.Imm += int64(r.Intn(5) - 2)
	case 6: // a statement less
		p.Stmts = slices.Delete(p.Stmts, i, i+1)
	case 7: // a map more
		p.Maps = append(p.Maps, api.Def{Name: name, Key: 1, Value: 1, Entries: 1})
	}
}

// TestRandom: P19.1 to P19.5, random programs and their objects, and programs, objects and bytes near them.
func TestRandom(t *testing.T) {
	r := rand.New(rand.NewSource(19))
	objects, programs := map[api.Errno]int{}, map[api.Errno]int{}
	for range 1000 {
		text := randomText(r)
		if e := checkText(t, text); e != api.OK {
			t.Fatal(text, e)
		}
		p, _, _, _ := prog.Parse(text)
		o, _, _ := asm.Assemble(p)
		b, _ := object.Pack(o)
		for range 5 {
			near := cloneObject(o)
			changeObject(r, &near)
			objects[checkObject(t, near)]++
			other := cloneProgram(p)
			changeProgram(r, &other)
			programs[checkProgram(t, other)]++
			wrong := slices.Clone(b)
			wrong[r.Intn(len(wrong))]++
			checkBytes(t, wrong)
		}
		if t.Failed() {
			return
		}
	}
	for _, e := range []api.Errno{api.OK, api.ErrOp, api.ErrField, api.ErrReloc, api.ErrJump, api.ErrWrite, api.ErrEnd} {
		if objects[e] < 15 {
			t.Errorf("only %d objects with %v", objects[e], e)
		}
	}
	for _, e := range []api.Errno{api.OK, api.ErrDuplicate, api.ErrUndefined, api.ErrField, api.ErrRegister} {
		if programs[e] < 20 {
			t.Errorf("only %d programs with %v", programs[e], e)
		}
	}
}

// TestGreatest: P1, P19.1 to P19.5, programs with as many statements as possible, of which all jump and all are targets. If the time grew
// with the square of their number, they would take very long.
func TestGreatest(t *testing.T) {
	const n = 65535
	var p, want api.Program
	var code []api.Ins
	for i := range n {
		j := n - 1 - i
		if j-i > math.MaxInt16 || i-j > math.MaxInt16 {
			j = i // too far
		}
		p.Stmts = append(p.Stmts, api.Stmt{Labels: []string{"y" + strconv.Itoa(i), "L" + strconv.Itoa(n-i)}, Ins: op(ja), Target: "L" + strconv.Itoa(n-j)})
		want.Stmts = append(want.Stmts, api.Stmt{Labels: []string{"L" + strconv.Itoa(i)}, Ins: op(ja), Target: "L" + strconv.Itoa(j)})
		code = append(code, jump(ja, j-i-1))
	}
	o := api.Object{Code: join(code...)}
	b, _ := object.Pack(o)
	wantProgram(t, o, want, 0, api.OK)
	wantNormal(t, p, want)
	wantNormal(t, want, want)
	wantBytes(t, print.Program(p), b, 0, api.OK)
	wantBytes(t, print.Program(want), b, 0, api.OK)
	clear(o.Code[len(o.Code)-6 : len(o.Code)-4]) // the last offset, which was -1
	wantProgram(t, o, api.Program{}, n-1, api.ErrJump)
	// As many references as possible.
	const refs = 32767
	o = api.Object{Maps: maps(255)}
	want = api.Program{Maps: maps(255)}
	for i := range refs {
		o.Code = append(o.Code, unhex("18100000000000000000000000000000")...)
		o.Relocs = append(o.Relocs, api.Reloc{Slot: 2 * i, Symbol: i % 255})
		want.Stmts = append(want.Stmts, api.Stmt{Ins: op(ldmap), Map: "m" + strconv.Itoa(i%255)})
	}
	o.Code = append(o.Code, join(op(exit))...)
	want.Stmts = append(want.Stmts, api.Stmt{Ins: op(exit)})
	wantProgram(t, o, want, 0, api.OK)
	wantNormal(t, want, want)
	b, _ = object.Pack(o)
	wantBytes(t, print.Program(want), b, 0, api.OK)
}

// TestLengths: rule 4, nothing behind the length of a slice is read or written.
func TestLengths(t *testing.T) {
	o := api.Object{Maps: maps(3), Code: join(op(ldmap), jump(ja, -3), op(ldmap), op(exit)), Relocs: []api.Reloc{{Slot: 0, Symbol: 1}, {Slot: 3, Symbol: 2}}}
	kept := cloneObject(o)
	checkObject(t, o)
	checkObject(t, api.Object{Maps: o.Maps[:2], Code: o.Code[:8*3], Relocs: o.Relocs[:1]})
	wantProgram(t, api.Object{Maps: o.Maps[:1], Code: o.Code[:8*3], Relocs: o.Relocs[:1]}, api.Program{}, 0, api.ErrReloc)
	wantProgram(t, api.Object{Maps: o.Maps, Code: o.Code, Relocs: o.Relocs[:1]}, api.Program{}, 3, api.ErrReloc)
	wantProgram(t, api.Object{Maps: o.Maps, Code: o.Code[:0]}, api.Program{}, 0, api.ErrSlot)
	if !sameObject(o, kept) {
		t.Errorf("the object became %s", short(o))
	}
	b, _ := object.Pack(o)
	b = append(b, "more"...)
	checkBytes(t, b[:len(b)-4])
	wantText(t, b, "", 0, api.ErrBox)
	p := split("map m 1 1 1|map n 1 1 1|a: b: exit|c: ja b|d: ldmap r1, m|e: f: ja e")
	before := cloneProgram(p)
	l := p.Stmts[3].Labels
	p.Stmts[3].Labels = l[:1]
	checkProgram(t, p)
	checkProgram(t, api.Program{Maps: p.Maps[:1], Stmts: p.Stmts[:2]})
	p.Stmts[0].Labels = p.Stmts[0].Labels[:1]
	wantNormal(t, p, api.Program{})
	wantNormal(t, api.Program{Maps: p.Maps[:0], Stmts: p.Stmts[:1]}, split("exit"))
	p.Stmts[0].Labels, p.Stmts[3].Labels = p.Stmts[0].Labels[:2], l
	if !sameProgram(p, before) {
		t.Errorf("the program became %s", short(p))
	}
}

// spoilProgram changes all that a program has, also behind the lengths of its slices.
func spoilProgram(p api.Program) {
	clear(p.Maps[:cap(p.Maps)])
	for _, s := range p.Stmts {
		clear(s.Labels[:cap(s.Labels)])
	}
	clear(p.Stmts[:cap(p.Stmts)])
}

// spoilObject changes all that an object has, also behind the lengths of its slices.
func spoilObject(o api.Object) {
	clear(o.Maps[:cap(o.Maps)])
	clear(o.Code[:cap(o.Code)])
	clear(o.Relocs[:cap(o.Relocs)])
}

// TestKept: rules 4 and 7, results share no memory with arguments or with other results.
func TestKept(t *testing.T) {
	o := wholeObject()
	first, _, _ := disasm.Program(o)
	second, _, _ := disasm.Program(o)
	spoilProgram(first)
	if !sameObject(o, wholeObject()) {
		t.Errorf("the object became %s with its program", short(o))
	}
	spoilObject(o)
	if !sameProgram(second, wholeNormal()) {
		t.Errorf("the program became %s with another one and the object", short(second))
	}
	for _, build := range []func() api.Program{wholeProgram, wholeNormal} {
		p := build()
		first, second = disasm.Normal(p), disasm.Normal(p)
		spoilProgram(first)
		if !sameProgram(p, build()) {
			t.Errorf("the program became %s with its normal form", short(p))
		}
		spoilProgram(p)
		if !sameProgram(second, wholeNormal()) {
			t.Errorf("the normal form became %s with another one and the program", short(second))
		}
	}
	one, _, _ := disasm.Bytes(whole)
	two, _, _ := disasm.Bytes(whole)
	text, _, _ := disasm.Text(one)
	clear(one[:cap(one)])
	if b, _ := object.Pack(wholeObject()); !bytes.Equal(two, b) {
		t.Errorf("the bytes became %x with others", two)
	}
	if text != wholeText {
		t.Errorf("the text became %q with its bytes", text)
	}
}

// TestLabelLists: rule 7 of the language, the lists of labels of a program share no memory.
func TestLabelLists(t *testing.T) {
	p, _, _ := disasm.Program(wholeObject())
	for _, p := range []api.Program{p, disasm.Normal(wholeProgram())} {
		for i := range p.Stmts {
			p.Stmts[i].Labels = append(p.Stmts[i].Labels, "more")
		}
		for i, s := range wholeNormal().Stmts {
			if !slices.Equal(p.Stmts[i].Labels, append(s.Labels, "more")) {
				t.Errorf("the labels of statement %d are %v", i, p.Stmts[i].Labels)
			}
		}
	}
}

// TestConcurrent: rule 6, the functions may be called concurrently.
func TestConcurrent(t *testing.T) {
	o, p := wholeObject(), wholeProgram()
	b, _ := object.Pack(o)
	wrong := cloneObject(o)
	wrong.Relocs = wrong.Relocs[1:]
	var group sync.WaitGroup
	for worker := range 8 {
		group.Go(func() {
			for range 50 {
				wantProgram(t, o, wholeNormal(), 0, api.OK)
				wantProgram(t, wrong, api.Program{}, 7, api.ErrReloc)
				wantNormal(t, p, wholeNormal())
				wantBytes(t, whole, b, 0, api.OK)
				wantText(t, b, wholeText, 0, api.OK)
				checkProgram(t, split("x: ja y|z"+strconv.Itoa(worker)+": exit"+strings.Repeat("|lddw r1, 5", worker)+"|y: ja x"))
			}
		})
	}
	group.Wait()
}

// FuzzText: P19.3 to P19.5, compares Bytes, Text and Normal with the models for any text.
func FuzzText(f *testing.F) {
	for _, s := range []string{whole, wholeText, "", "exit", "x: ja x", "ja x", "x:", "map m 1 1 1\nldmap r1, m\nexit", "L1: jeq r1, -1, L0\nL0: ja L1", "exit\nmap m 1 1 1"} {
		f.Add(s)
	}
	f.Fuzz(func(t *testing.T, text string) {
		if len(text) <= 4000 {
			checkText(t, text)
		}
	})
}

// FuzzBytes: P19.2 and P19.5, compares Text with the model for any bytes, and Bytes inverts it.
func FuzzBytes(f *testing.F) {
	for _, o := range []api.Object{wholeObject(), {Code: join(op(exit))}, {Maps: maps(1), Code: join(op(ldmap), op(exit)), Relocs: []api.Reloc{{}}}} {
		b, _ := object.Pack(o)
		f.Add(b)
	}
	f.Add([]byte("SLC1"))
	f.Fuzz(func(t *testing.T, b []byte) {
		if len(b) <= 4000 {
			checkBytes(t, b)
		}
	})
}

// FuzzObject: P19.1, P19.2 and P19.5, compares Program and Text with the model for objects with any code.
func FuzzObject(f *testing.F) {
	f.Add(wholeObject().Code)
	f.Add(join(op(exit)))
	f.Add(join(op(ldmap), op(lddw), jump(jeq, -3), op(ldmap), jump(ja, -5)))
	f.Add(join(jump(jeq, 1), op(ldmap), api.Ins{Op: mov64, Dst: 10}))
	f.Fuzz(func(t *testing.T, code []byte) {
		if len(code) > 8*200 {
			return
		}
		o := api.Object{Maps: maps(3), Code: code}
		checkObject(t, o)
		// With the relocations that it needs, the object is more often valid.
		for s := 0; 8*s < len(code); {
			x, n, e := slot.Decode(code[8*s:])
			if e != api.OK {
				break
			}
			if x.Op == ldmap {
				o.Relocs = append(o.Relocs, api.Reloc{Slot: s, Symbol: s % 3})
			}
			s += n
		}
		checkObject(t, o)
	})
}

// FuzzNormal: P19.3 and P19.5, compares Normal with the model for any labels and targets.
func FuzzNormal(f *testing.F) {
	f.Add([]byte{44, 84, 45, 85, 68}, []byte{4, 0, 0, 1})
	f.Add([]byte{45, 45, 45, 44}, []byte{3, 2, 1, 0})
	f.Add([]byte{85, 85, 67, 68}, []byte{})
	f.Add([]byte{}, []byte{})
	f.Fuzz(func(t *testing.T, ops, selected []byte) {
		if len(ops) > 100 {
			return
		}
		p := api.Program{Maps: maps(2)}
		for i, n := range ops {
			s := api.Stmt{Ins: op(int(n))}
			x := 0
			if i < len(selected) {
				x = int(selected[i])
			}
			for j := range x % 4 {
				s.Labels = append(s.Labels, "L"+strconv.Itoa(3*(len(ops)-i)+j))
			}
			switch {
			case isJump(s.Ins.Op):
				s.Target = "L" + strconv.Itoa(3*(1+x/4%len(ops)))
			case s.Ins.Op == ldmap:
				s.Map = "m" + strconv.Itoa(x/4%2)
			case s.Ins.Op == call:
				s.Ins.Imm = int64(x / 4)
			}
			p.Stmts = append(p.Stmts, s)
		}
		checkProgram(t, p)
	})
}
