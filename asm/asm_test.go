package asm_test

import (
	"bytes"
	"fmt"
	"math"
	"slices"
	"strconv"
	"strings"
	"sync"
	"testing"

	"slotcode/api"
	"slotcode/asm"
	"slotcode/layout"
	"slotcode/lex"
	"slotcode/parse"
	"slotcode/print"
	"slotcode/prog"
	"slotcode/slot"
)

// Numbers of operations, as the table of chapter 3 has them.
const (
	mov64, neg64, ja, jeq, lastJump, call, exit, lddw, ldmap = 10, 28, 44, 45, 66, 67, 68, 84, 85
)

// isJump reports whether an operation has a target.
func isJump(op int) bool { return op >= ja && op <= lastJump }

// slotsOf returns how many slots an operation takes.
func slotsOf(op int) int {
	if op == lddw || op == ldmap {
		return 2
	}
	return 1
}

// start returns the slot at which a statement starts.
func start(p api.Program, i int) int {
	n := 0
	for _, s := range p.Stmts[:i] {
		n += slotsOf(s.Ins.Op)
	}
	return n
}

// statementOf returns the statement with a label.
func statementOf(p api.Program, label string) int {
	return slices.IndexFunc(p.Stmts, func(s api.Stmt) bool { return slices.Contains(s.Labels, label) })
}

// distance returns the distance from a statement to its target.
func distance(p api.Program, i int) int {
	return start(p, statementOf(p, p.Stmts[i].Target)) - start(p, i) - 1
}

// resolved returns what Resolve has to return.
func resolved(p api.Program) ([]api.Ins, int, api.Errno) {
	if at, e := prog.Check(p); e != api.OK {
		return nil, at, e
	}
	for i, s := range p.Stmts {
		if start(p, i)+slotsOf(s.Ins.Op)-1 >= 65535 {
			return nil, i, api.ErrSize
		}
	}
	var l []api.Ins
	for i, s := range p.Stmts {
		x := s.Ins
		if isJump(x.Op) {
			x.Off = distance(p, i)
			if x.Off < -32768 || x.Off > 32767 {
				return nil, i, api.ErrJump
			}
		}
		l = append(l, x)
	}
	return l, 0, api.OK
}

// assembled returns what Assemble has to return.
func assembled(p api.Program) (api.Object, int, api.Errno) {
	l, at, e := resolved(p)
	if e != api.OK {
		return api.Object{}, at, e
	}
	o := api.Object{Maps: p.Maps}
	for i, s := range p.Stmts {
		b, _ := slot.Encode(l[i])
		o.Code = append(o.Code, b...)
		if s.Ins.Op == ldmap {
			symbol := slices.IndexFunc(p.Maps, func(d api.Def) bool { return d.Name == s.Map })
			o.Relocs = append(o.Relocs, api.Reloc{Slot: start(p, i), Symbol: symbol})
		}
	}
	return o, 0, api.OK
}

// read returns what Text has to return.
func read(text string) (api.Object, int, api.Errno) {
	p, lines, line, e := prog.Parse(text)
	if e != api.OK {
		return api.Object{}, line, e
	}
	o, at, e := assembled(p)
	if e != api.OK {
		return api.Object{}, lines[at], e
	}
	return o, 0, api.OK
}

// sameObject returns what Same has to return.
func sameObject(a, b api.Object) bool {
	return slices.Equal(a.Maps, b.Maps) && bytes.Equal(a.Code, b.Code) && slices.Equal(a.Relocs, b.Relocs)
}

// short returns the beginning of a text, or of what is printed for another value.
func short(x any) string {
	s := fmt.Sprint(x)
	if len(s) > 600 {
		return s[:600] + "…"
	}
	return s
}

func wantResolve(t *testing.T, p api.Program, want []api.Ins, wantAt int, wantE api.Errno) {
	t.Helper()
	before := prog.Clone(p)
	if got, at, e := asm.Resolve(p); !slices.Equal(got, want) || at != wantAt || e != wantE {
		t.Errorf("Resolve of %s = %s, %d, %v; want %s, %d, %v", short(p), short(got), at, e, short(want), wantAt, wantE)
	}
	if !prog.Same(p, before) {
		t.Errorf("Resolve changes %s to %s", short(before), short(p))
	}
}

func wantAssemble(t *testing.T, p api.Program, want api.Object, wantAt int, wantE api.Errno) {
	t.Helper()
	before := prog.Clone(p)
	if got, at, e := asm.Assemble(p); !sameObject(got, want) || at != wantAt || e != wantE {
		t.Errorf("Assemble of %s = %s, %d, %v; want %s, %d, %v", short(p), short(got), at, e, short(want), wantAt, wantE)
	}
	if !prog.Same(p, before) {
		t.Errorf("Assemble changes %s to %s", short(before), short(p))
	}
}

func wantText(t *testing.T, text string, want api.Object, wantLine int, wantE api.Errno) {
	t.Helper()
	if got, line, e := asm.Text(text); !sameObject(got, want) || line != wantLine || e != wantE {
		t.Errorf("Text(%q) = %s, %d, %v; want %s, %d, %v", short(text), short(got), line, e, short(want), wantLine, wantE)
	}
}

func wantSame(t *testing.T, a, b api.Object, want bool) {
	t.Helper()
	if got := asm.Same(a, b); got != want {
		t.Errorf("Same(%s, %s) = %t", short(a), short(b), got)
	}
}

// wantError expects that a program is not well-formed.
func wantError(t *testing.T, p api.Program, at int, e api.Errno) {
	t.Helper()
	wantResolve(t, p, nil, at, e)
	wantAssemble(t, p, api.Object{}, at, e)
}

// check compares Resolve and Assemble with the model, and reports whether the program is well-formed.
func check(t *testing.T, p api.Program) bool {
	t.Helper()
	l, at, e := resolved(p)
	wantResolve(t, p, l, at, e)
	o, at, e := assembled(p)
	wantAssemble(t, p, o, at, e)
	return e == api.OK
}

// build returns the program with the maps and the instructions of lines, whether it is correct or not.
func build(lines ...string) api.Program {
	var p api.Program
	var labels []string
	for _, s := range lines {
		items, e := parse.Line(s)
		if e != api.OK {
			panic("the test has the line " + s)
		}
		for _, item := range items {
			switch x := item.(type) {
			case parse.Label:
				labels = append(labels, x.Name)
			case parse.Map:
				p.Maps = append(p.Maps, x.Def)
			case parse.Code:
				p.Stmts = append(p.Stmts, api.Stmt{Labels: labels, Ins: x.Ins, Target: x.Target, Map: x.Map})
				labels = nil
			}
		}
	}
	return p
}

// lists returns all lists of up to n of some elements.
func lists[T any](l []T, n int) [][]T {
	all := [][]T{nil}
	for from := 0; n > 0; n-- {
		end := len(all)
		for _, shorter := range all[from:end] {
			for _, x := range l {
				all = append(all, append(slices.Clone(shorter), x))
			}
		}
		from = end
	}
	return all
}

// code returns the bytes that a text has in base 16.
func code(text string) []byte {
	var b []byte
	for _, word := range strings.Fields(text) {
		x, err := strconv.ParseUint(word, 16, 8)
		if err != nil {
			panic(err)
		}
		b = append(b, byte(x))
	}
	return b
}

// whole is a program with an instruction of each form, with statements with no label, with one and with several, and with jumps in both directions.
const whole = `map m 4 8 16
map n 1 2 3
a: b: add64 r1, -5
c:
sub32 r1, r2
neg64 r3
movsb64 r4, r5
d: ja f
lddw r6, 0x123456789abcdef0
e: ldmap r1, n
jeq r1, r10, b
jlt32 r2, 7, d
f: call update
ldxw r7, [r8-2]
stb [r9+1], -1
g:
h: i: stxdw [r10-8], r0
ldmap r2, m
ldmap r3, n
jne r0, 0, j
ja g
j: exit
`

// wholeCode is the code of the object of whole.
const wholeCode = `
07 01 00 00 fb ff ff ff
1c 21 00 00 00 00 00 00
87 03 00 00 00 00 00 00
bf 54 08 00 00 00 00 00
05 00 06 00 00 00 00 00
18 06 00 00 f0 de bc 9a
00 00 00 00 78 56 34 12
18 11 00 00 00 00 00 00
00 00 00 00 00 00 00 00
1d a1 f6 ff 00 00 00 00
a6 02 f9 ff 07 00 00 00
85 00 00 00 02 00 00 00
61 87 fe ff 00 00 00 00
72 09 01 00 ff ff ff ff
7b 0a f8 ff 00 00 00 00
18 12 00 00 00 00 00 00
00 00 00 00 00 00 00 00
18 13 00 00 00 00 00 00
00 00 00 00 00 00 00 00
55 00 01 00 00 00 00 00
05 00 f9 ff 00 00 00 00
95 00 00 00 00 00 00 00
`

// wholeObject returns the object of whole.
func wholeObject() api.Object {
	return api.Object{
		Maps:   []api.Def{{Name: "m", Key: 4, Value: 8, Entries: 16}, {Name: "n", Key: 1, Value: 2, Entries: 3}},
		Code:   code(wholeCode),
		Relocs: []api.Reloc{{Slot: 7, Symbol: 1}, {Slot: 15, Symbol: 0}, {Slot: 17, Symbol: 1}},
	}
}

// wholeProgram returns the program whole.
func wholeProgram() api.Program { return build(lex.Lines(whole)...) }

// TestExamples: the examples of the chapter and of the document.
func TestExamples(t *testing.T) {
	loop := api.Object{Code: code("05 00 ff ff 00 00 00 00")}
	wantText(t, "x: ja x", loop, 0, api.OK)
	wantAssemble(t, build("x: ja x"), loop, 0, api.OK)
	wantResolve(t, build("x: ja x"), []api.Ins{{Op: ja, Off: -1}}, 0, api.OK)
	wantText(t, "exit", api.Object{Code: code("95 00 00 00 00 00 00 00")}, 0, api.OK)
	o := api.Object{Maps: []api.Def{{Name: "n", Key: 1, Value: 1, Entries: 1}}, Code: code("18 11 00 00 00 00 00 00 00 00 00 00 00 00 00 00 95 00 00 00 00 00 00 00"), Relocs: []api.Reloc{{}}}
	wantText(t, "map n 1 1 1\nldmap r1, n\nexit", o, 0, api.OK)
}

// TestWhole: P13.1 and P13.2, all of a program written out.
func TestWhole(t *testing.T) {
	wantText(t, whole, wholeObject(), 0, api.OK)
	p := wholeProgram()
	wantAssemble(t, p, wholeObject(), 0, api.OK)
	l := layout.Code(p)
	for i, off := range map[int]int{4: 6, 7: -10, 8: -7, 15: 1, 16: -7} {
		l[i].Off = off
	}
	wantResolve(t, p, l, 0, api.OK)
}

// TestFits: P13.1, the instructions of Resolve are those of the code, and lead to the statements with the labels.
func TestFits(t *testing.T) {
	p := wholeProgram()
	l, _, _ := asm.Resolve(p)
	o, _, _ := asm.Assemble(p)
	if got, _, e := slot.All(o.Code); !slices.Equal(got, l) || e != api.OK {
		t.Errorf("the code has %v, %v; want %v", got, e, l)
	}
	for i, s := range p.Stmts {
		if s.Target == "" {
			continue
		}
		if to, ok := layout.Target(l, i, l[i].Off); !ok || to != statementOf(p, s.Target) {
			t.Errorf("statement %d leads to %d, %t", i, to, ok)
		}
	}
}

// TestDistances: P13.1, to statements in front and behind, to the same and the next one, across wide instructions, with one label of several.
func TestDistances(t *testing.T) {
	for _, c := range []struct {
		text string
		want []int // the Offs
	}{
		{"ja x|x: exit", []int{0, 0}},
		{"ja y|x: y: z: exit", []int{0, 0}},
		{"ja y|x: exit|y: exit", []int{1, 0, 0}},
		{"ja x|exit|exit|exit|x: exit", []int{3, 0, 0, 0, 0}},
		{"ja x|lddw r1, 1|ldmap r1, m|x: exit", []int{4, 0, 0, 0}},
		{"ja x|exit|x: lddw r1, 1|exit", []int{1, 0, 0, 0}},
		{"x: exit|ja x", []int{0, -2}},
		{"x: lddw r1, 1|ja x", []int{0, -3}},
		{"x: ldmap r1, m|lddw r1, 1|exit|jeq r1, 1, x|ja x", []int{0, 0, 0, -6, -7}},
		{"lddw r1, 1|x: y: jeq r1, r2, y|jne32 r1, -5, x|exit", []int{0, -1, -2, 0}},
		{"ja a|b: ja c|a: ja b|c: ja a", []int{1, 1, -2, -2}},
		{"jeq r1, r2, x|jset32 r1, 5, x|jsle r1, -1, x|ja x|x: exit", []int{3, 2, 1, 0, 0}},
		{"L0: ja l0|l0: ja L0", []int{0, -2}},
	} {
		p := build(append([]string{"map m 1 1 1"}, strings.Split(c.text, "|")...)...)
		want := layout.Code(p)
		for i, off := range c.want {
			want[i].Off = off
		}
		wantResolve(t, p, want, 0, api.OK)
		check(t, p)
	}
}

// TestJumps: P13.1, every operation with a target has a distance, with a register and with a number.
func TestJumps(t *testing.T) {
	for op := ja; op <= lastJump; op++ {
		x := api.Ins{Op: op}
		y := api.Ins{Op: op}
		if op != ja {
			x, y = api.Ins{Op: op, Reg: true, Dst: 3, Src: 10}, api.Ins{Op: op, Dst: 10, Imm: math.MinInt32}
		}
		p := api.Program{Stmts: []api.Stmt{{Labels: []string{"a"}, Ins: x, Target: "b"}, {Ins: api.Ins{Op: lddw}}, {Ins: y, Target: "a"}, {Labels: []string{"b"}, Ins: api.Ins{Op: exit}}}}
		x.Off, y.Off = 3, -4
		wantResolve(t, p, []api.Ins{x, {Op: lddw}, y, {Op: exit}}, 0, api.OK)
		check(t, p)
	}
}

// TestLabels: P13.1, neither the names of labels matter, nor labels that nothing refers to; those of maps do.
func TestLabels(t *testing.T) {
	want := wholeObject()
	for _, names := range [][]string{
		{"a:", "x:", "b:", "a:", " b", " a", "x:", "b:"},
		{"d:", "map.:", " d", " map."},
		{"c:", ""},
		{"e:", "m:", "h:", "n:", "i:", "exit:"},
	} {
		text := strings.NewReplacer(names...).Replace(whole)
		if text == whole {
			t.Fatalf("the test has the same text for %v", names)
		}
		wantText(t, text, want, 0, api.OK)
	}
	want.Maps[0].Name = "other"
	wantText(t, strings.NewReplacer("map m", "map other", ", m", ", other").Replace(whole), want, 0, api.OK)
}

// TestRelocations: P13.1, references to all of the maps, with the Imm 0.
func TestRelocations(t *testing.T) {
	const n = 255
	var p api.Program
	var want api.Object
	for i := range n {
		d := api.Def{Name: "m" + strconv.Itoa(i), Key: i%64 + 1, Value: i + 1, Entries: 1024 - i}
		p.Maps = append(p.Maps, d)
		want.Maps = append(want.Maps, d)
	}
	for i := range n {
		symbol := i * 7 % n
		p.Stmts = append(p.Stmts, api.Stmt{Ins: api.Ins{Op: ldmap, Dst: i % 10}, Map: "m" + strconv.Itoa(symbol)}, api.Stmt{Ins: api.Ins{Op: neg64}})
		want.Relocs = append(want.Relocs, api.Reloc{Slot: 3 * i, Symbol: symbol})
		want.Code = append(want.Code, 0x18, byte(0x10+i%10), 0, 0, 0, 0, 0, 0, 0, 0, 0, 0, 0, 0, 0, 0, 0x87, 0, 0, 0, 0, 0, 0, 0)
	}
	p.Stmts = append(p.Stmts, api.Stmt{Ins: api.Ins{Op: exit}})
	want.Code = append(want.Code, 0x95, 0, 0, 0, 0, 0, 0, 0)
	wantAssemble(t, p, want, 0, api.OK)
	p.Maps = append(p.Maps, api.Def{Name: "m", Key: 1, Value: 1, Entries: 1})
	wantError(t, p, 255, api.ErrSize)
}

// TestNoMaps: P13.1, maps that nothing refers to belong to the object, and without maps there are none.
func TestNoMaps(t *testing.T) {
	for _, lines := range [][]string{{"exit"}, {"map m 64 256 1024", "exit"}, {"map m 1 1 1", "map n 2 2 2", "ldmap r1, n", "exit"}} {
		p := build(lines...)
		o, at, e := asm.Assemble(p)
		if !slices.Equal(o.Maps, p.Maps) || len(o.Relocs) != max(0, len(p.Maps)-1) || at != 0 || e != api.OK {
			t.Errorf("Assemble of %v = %v, %d, %v", lines, o, at, e)
		}
	}
}

// TestIncorrect: P13.1, the errors of Check, with the index of the map or of the statement.
func TestIncorrect(t *testing.T) {
	changed := func(change func(p *api.Program)) api.Program {
		p := wholeProgram()
		change(&p)
		return p
	}
	for _, c := range []struct {
		p  api.Program
		at int
		e  api.Errno
	}{
		{api.Program{}, 0, api.ErrEnd},
		{api.Program{Maps: wholeObject().Maps}, 0, api.ErrEnd},
		{build("ja x"), 0, api.ErrUndefined},
		{build("exit", "neg64 r1"), 1, api.ErrEnd},
		{build("exit", "exit", "jeq r1, r2, x", "x: lddw r1, 5"), 3, api.ErrEnd},
		{build("exit", "exit", "neg64 r10", "exit"), 2, api.ErrWrite},
		{build("x: exit", "y: exit", "x: exit"), 2, api.ErrDuplicate},
		{build("map m 1 1 1", "map n 1 1 1", "map m 1 1 1", "exit"), 2, api.ErrDuplicate},
		{build("exit", "ldmap r1, m", "exit"), 1, api.ErrUndefined},
		{changed(func(p *api.Program) { p.Maps[1].Name = "" }), 1, api.ErrName},
		{changed(func(p *api.Program) { p.Maps[1].Entries = 1025 }), 1, api.ErrMap},
		{changed(func(p *api.Program) { p.Stmts[12].Labels[2] = "r1" }), 12, api.ErrName},
		{changed(func(p *api.Program) { p.Stmts[3].Ins.Op = 86 }), 3, api.ErrOp},
		{changed(func(p *api.Program) { p.Stmts[3].Ins.Op = -1 }), 3, api.ErrOp},
		{changed(func(p *api.Program) { p.Stmts[9].Ins.Dst = 1 }), 9, api.ErrField},
		{changed(func(p *api.Program) { p.Stmts[4].Ins.Off = 6 }), 4, api.ErrField},
		{changed(func(p *api.Program) { p.Stmts[8].Ins.Off = -7 }), 8, api.ErrField},
		{changed(func(p *api.Program) { p.Stmts[6].Ins.Imm = 1 }), 6, api.ErrField},
		{changed(func(p *api.Program) { p.Stmts[5].Target = "a" }), 5, api.ErrField},
		{changed(func(p *api.Program) { p.Stmts[17].Map = "m" }), 17, api.ErrField},
		{changed(func(p *api.Program) { p.Stmts[4].Target = "" }), 4, api.ErrName},
		{changed(func(p *api.Program) { p.Stmts[10].Ins.Dst = 11 }), 10, api.ErrRegister},
		{changed(func(p *api.Program) { p.Stmts[0].Ins.Imm = math.MaxInt32 + 1 }), 0, api.ErrRange},
		{changed(func(p *api.Program) { p.Stmts[10].Ins.Off = math.MaxInt16 + 1 }), 10, api.ErrRange},
	} {
		wantError(t, c.p, c.at, c.e)
	}
}

// stmts returns as many statements with an operation.
func stmts(op, n int) []api.Stmt { return slices.Repeat([]api.Stmt{{Ins: api.Ins{Op: op}}}, n) }

// join returns the program with all statements.
func join(l ...[]api.Stmt) api.Program { return api.Program{Stmts: slices.Concat(l...)} }

// to returns a jump.
func to(op int, target string) []api.Stmt {
	return []api.Stmt{{Ins: api.Ins{Op: op}, Target: target}}
}

// from returns a statement with a label.
func from(label string, op int) []api.Stmt {
	return []api.Stmt{{Labels: []string{label}, Ins: api.Ins{Op: op}}}
}

// TestSizes: P13.1, programs with the greatest number of slots and a few more, with and without wide instructions.
func TestSizes(t *testing.T) {
	for i, c := range []struct {
		p     api.Program
		slots int // or 0 if there are too many
		at    int
	}{
		{join(stmts(exit, 65534)), 65534, 0},
		{join(stmts(exit, 65535)), 65535, 0},
		{join(stmts(exit, 65536)), 0, 65535},
		{join(stmts(exit, 65537)), 0, 65535},
		{join(stmts(exit, 200000)), 0, 65535},
		{join(stmts(lddw, 32766), stmts(exit, 1)), 65533, 0},
		{join(stmts(lddw, 32767), stmts(exit, 1)), 65535, 0},
		{join(stmts(lddw, 32767), stmts(exit, 2)), 0, 32768},
		{join(stmts(lddw, 32768), stmts(exit, 1)), 0, 32767},
		{join(stmts(lddw, 65535), stmts(exit, 1)), 0, 32767},
		{join(stmts(exit, 1), stmts(lddw, 32766), stmts(exit, 1)), 65534, 0},
		{join(stmts(exit, 1), stmts(lddw, 32767), stmts(exit, 1)), 0, 32768},
		{join(stmts(exit, 65532), stmts(lddw, 1), stmts(exit, 1)), 65535, 0},
		{join(stmts(exit, 65533), stmts(lddw, 1), stmts(exit, 1)), 0, 65534},
		{join(stmts(exit, 65534), stmts(lddw, 1), stmts(exit, 1)), 0, 65534},
		{join(stmts(exit, 65535), stmts(lddw, 1), stmts(exit, 1)), 0, 65535},
		{join(stmts(exit, 65534), stmts(mov64, 1), stmts(exit, 1)), 0, 65535},
	} {
		if c.slots == 0 {
			wantError(t, c.p, c.at, api.ErrSize)
			continue
		}
		wantResolve(t, c.p, layout.Code(c.p), 0, api.OK)
		o, at, e := asm.Assemble(c.p)
		b, _, _ := slot.Join(layout.Code(c.p))
		if len(o.Code) != 8*c.slots || !bytes.Equal(o.Code, b) || len(o.Maps)+len(o.Relocs) != 0 || at != 0 || e != api.OK {
			t.Errorf("%d: Assemble has %d bytes, %d, %v; want %d slots", i, len(o.Code), at, e, c.slots)
		}
	}
}

// TestSizesMaps: P13.1, references are as wide as numbers, up to the last one.
func TestSizesMaps(t *testing.T) {
	refer := api.Stmt{Ins: api.Ins{Op: ldmap}, Map: "m"}
	for _, n := range []int{32767, 32768} {
		p := join(slices.Repeat([]api.Stmt{refer}, n), stmts(exit, 1))
		p.Maps = []api.Def{{Name: "m", Key: 1, Value: 1, Entries: 1}}
		if n > 32767 {
			wantError(t, p, 32767, api.ErrSize)
			continue
		}
		o, _, e := asm.Assemble(p)
		if len(o.Relocs) != n || o.Relocs[n-1] != (api.Reloc{Slot: 65532}) || len(o.Code) != 8*65535 || e != api.OK {
			t.Errorf("Assemble has %d relocations and %d bytes, %v", len(o.Relocs), len(o.Code), e)
		}
	}
}

// TestFarJumps: P13.1, the greatest and the least distance, and those behind them, counted in slots and not in statements.
func TestFarJumps(t *testing.T) {
	for _, op := range []int{ja, jeq, lastJump} {
		for _, c := range []struct {
			p    api.Program
			at   int
			want int
		}{
			{join(to(op, "x"), stmts(exit, 32766), from("x", exit)), 0, 32766},
			{join(to(op, "x"), stmts(exit, 32767), from("x", exit)), 0, 32767},
			{join(to(op, "x"), stmts(exit, 32768), from("x", exit)), 0, 32768},
			{join(to(op, "x"), stmts(exit, 65533), from("x", exit)), 0, 65533},
			{join(to(op, "x"), stmts(lddw, 16383), stmts(exit, 1), from("x", exit)), 0, 32767},
			{join(to(op, "x"), stmts(lddw, 16384), from("x", exit)), 0, 32768},
			{join(to(op, "x"), stmts(lddw, 16384), from("x", exit), stmts(lddw, 10), stmts(exit, 1)), 0, 32768},
			{join(stmts(lddw, 5), to(op, "x"), stmts(exit, 32767), from("x", exit)), 5, 32767},
			{join(stmts(lddw, 5), to(op, "x"), stmts(exit, 32768), from("x", exit)), 5, 32768},
			{join(from("x", exit), stmts(exit, 32765), to(op, "x"), stmts(exit, 1)), 32766, -32767},
			{join(from("x", exit), stmts(exit, 32766), to(op, "x"), stmts(exit, 1)), 32767, -32768},
			{join(from("x", exit), stmts(exit, 32767), to(op, "x"), stmts(exit, 1)), 32768, -32769},
			{join(from("x", exit), stmts(exit, 65532), to(op, "x"), stmts(exit, 1)), 65533, -65534},
			{join(from("x", lddw), stmts(lddw, 16382), stmts(exit, 1), to(op, "x"), stmts(exit, 1)), 16384, -32768},
			{join(from("x", lddw), stmts(lddw, 16383), to(op, "x"), stmts(exit, 1)), 16384, -32769},
			{join(stmts(exit, 1), from("x", exit), stmts(exit, 32766), to(op, "x"), stmts(exit, 1)), 32768, -32768},
		} {
			if c.want < -32768 || c.want > 32767 {
				wantError(t, c.p, c.at, api.ErrJump)
				continue
			}
			want := layout.Code(c.p)
			want[c.at].Off = c.want
			wantResolve(t, c.p, want, 0, api.OK)
			o, _, e := asm.Assemble(c.p)
			b, _, _ := slot.Join(want)
			if !bytes.Equal(o.Code, b) || e != api.OK {
				t.Errorf("Assemble has other code for the distance %d, %v", c.want, e)
			}
		}
	}
}

// TestFirstError: P13.1, errors of Check precede too many slots, which precede distances; and of several statements the first one has the error.
func TestFirstError(t *testing.T) {
	far := join(to(jeq, "a"), to(ja, "x"), from("a", mov64), to(jeq, "x"), stmts(exit, 32768), from("x", exit), to(ja, "a"))
	wantError(t, far, 1, api.ErrJump)
	far.Stmts[1].Target = "a"
	wantError(t, far, 3, api.ErrJump)
	far.Stmts[3].Target = "a"
	wantError(t, far, 32773, api.ErrJump)
	far.Stmts[32773].Target = "x"
	want := func(at int, e api.Errno) {
		t.Helper()
		wantError(t, far, at, e)
	}
	if _, at, e := asm.Resolve(far); at != 0 || e != api.OK {
		t.Errorf("Resolve = %d, %v", at, e)
	}
	far.Stmts[0].Target = "x"
	want(0, api.ErrJump)
	far.Stmts = append(far.Stmts, stmts(exit, 40000)...)
	want(65535, api.ErrSize)
	far.Stmts[70000].Ins.Op = mov64
	want(65535, api.ErrSize)
	far.Stmts[70000].Ins.Dst = 10
	want(70000, api.ErrWrite)
	far.Stmts[72773].Ins.Op = lddw
	want(70000, api.ErrWrite)
	far.Stmts[70000].Ins.Dst = 9
	want(72773, api.ErrEnd)
	far.Stmts[40000].Labels = []string{"x"}
	want(40000, api.ErrDuplicate)
	far.Stmts[50000].Ins.Op = 86
	want(50000, api.ErrOp)
	far.Maps = []api.Def{{Name: "m"}}
	want(0, api.ErrMap)
}

// TestTextLines: P13.2, the errors of Parse with their lines, which are those of statements, maps and labels.
func TestTextLines(t *testing.T) {
	for text, want := range map[string]struct {
		line int
		e    api.Errno
	}{
		"":                                       {0, api.ErrEnd},
		"\n\n":                                   {2, api.ErrEnd},
		"; exit":                                 {1, api.ErrEnd},
		"x:":                                     {1, api.ErrEnd},
		"exit\n\nx:\ny:":                         {3, api.ErrEnd},
		"ja x":                                   {1, api.ErrUndefined},
		"exit\n\n\nja x":                         {4, api.ErrUndefined},
		"exit\nx:\n\nneg64 r10":                  {4, api.ErrWrite},
		"exit\n\nneg64 r1":                       {3, api.ErrEnd},
		"exit\nadd r1, 5":                        {2, api.ErrOp},
		"exit\n\nadd64 r1 5":                     {3, api.ErrSyntax},
		"exit\nadd64 r11, 5":                     {2, api.ErrRegister},
		"exit\nadd64 r1, 5x":                     {2, api.ErrNumber},
		"exit\n@":                                {2, api.ErrSyntax},
		"\nadd64 r1, 0x100000000\nfoo":           {2, api.ErrRange},
		"\n1: exit":                              {2, api.ErrName},
		"\nmap m 0 1 1\nexit":                    {2, api.ErrMap},
		"\nexit\nmap m 1 1 1":                    {3, api.ErrOrder},
		"map m 1 1 1\n\nmap m 1 1 1\nexit":       {3, api.ErrDuplicate},
		"x: exit\ny:\n\nx:\nexit":                {5, api.ErrDuplicate},
		strings.Repeat("exit\n", 65536) + "\n@":  {65538, api.ErrSyntax},
		strings.Repeat("exit\n", 65536) + "x:\n": {65537, api.ErrEnd},
	} {
		wantText(t, text, api.Object{}, want.line, want.e)
	}
}

// TestTextFar: P13.2, the line of the statement if a program is not well-formed, which is neither that of its labels nor its index.
func TestTextFar(t *testing.T) {
	many := func(n int) string { return strings.Repeat("exit\n", n) }
	for text, want := range map[string]struct {
		line int
		e    api.Errno
	}{
		many(65535): {0, api.OK},
		many(65536): {65536, api.ErrSize},
		"\n; c\nmap m 1 1 1\n" + many(65535) + "x:\n\ny: exit\n":            {65541, api.ErrSize},
		"map m 1 1 1\n" + many(65534) + "x:\nldmap r1, m\nexit":             {65537, api.ErrSize},
		many(65533) + "lddw r1, 5\n\nexit\n":                                {65536, api.ErrSize},
		"ja x\n" + many(32767) + "x: exit":                                  {0, api.OK},
		"ja x\n" + many(32768) + "x: exit":                                  {1, api.ErrJump},
		"map m 1 1 1\n\ny:\nja x\n" + many(32768) + "x: exit":               {4, api.ErrJump},
		"exit\ny:\n\nz: jeq r1, -5, x\n" + many(32768) + "x:\n\nexit\nja y": {4, api.ErrJump},
		"x:\n\n" + many(32767) + "\nja x":                                   {0, api.OK},
		"x:\n\n" + many(32768) + "y:\n\nja x":                               {32773, api.ErrJump},
		"ja x\n" + many(65534) + "\nx: exit":                                {65537, api.ErrSize},
	} {
		got, line, e := asm.Text(text)
		if line != want.line || e != want.e || (len(got.Code) > 0) != (e == api.OK) || len(got.Maps)+len(got.Relocs) > 0 {
			t.Errorf("Text(%.60q) = %d bytes, %d, %v; want %d, %v", text, len(got.Code), line, e, want.line, want.e)
		}
	}
}

// TestSmall: P13.1 and P13.2, all programs of up to four lines out of some, also those that are not correct.
func TestSmall(t *testing.T) {
	found := 0
	for _, lines := range lists([]string{"exit", "ja x", "x: lddw r1, -5", "y: jeq r1, r2, x", "x: z: ja y", "ldmap r2, m", "map m 1 2 3", "map n 4 5 6", "neg64 r10"}, 4) {
		if check(t, build(lines...)) {
			found++
		}
		text := strings.Join(lines, "\n")
		want, line, e := read(text)
		wantText(t, text, want, line, e)
	}
	if found < 100 {
		t.Errorf("only %d programs are well-formed", found)
	}
}

// objects returns objects of which no two are the same.
func objects() []api.Object {
	l := []api.Object{{}, wholeObject()}
	add := func(change func(o *api.Object)) {
		o := wholeObject()
		change(&o)
		l = append(l, o)
	}
	add(func(o *api.Object) { o.Maps = nil })
	add(func(o *api.Object) { o.Maps = o.Maps[:1] })
	add(func(o *api.Object) { o.Maps = o.Maps[1:] })
	add(func(o *api.Object) { o.Maps = append(o.Maps, o.Maps[1]) })
	add(func(o *api.Object) { o.Maps = append(o.Maps, api.Def{}) })
	add(func(o *api.Object) { slices.Reverse(o.Maps) })
	for i := range wholeObject().Maps {
		add(func(o *api.Object) { o.Maps[i].Name += "x" })
		add(func(o *api.Object) { o.Maps[i].Name = strings.ToUpper(o.Maps[i].Name) })
		add(func(o *api.Object) { o.Maps[i].Key++ })
		add(func(o *api.Object) { o.Maps[i].Value++ })
		add(func(o *api.Object) { o.Maps[i].Entries++ })
		add(func(o *api.Object) { o.Maps[i].Key, o.Maps[i].Value = o.Maps[i].Value, o.Maps[i].Key })
	}
	add(func(o *api.Object) { o.Code = nil })
	add(func(o *api.Object) { o.Code = append(o.Code, 0) })
	add(func(o *api.Object) { o.Code = o.Code[8:] })
	for i, c := range wholeObject().Code {
		add(func(o *api.Object) { o.Code[i]++ })
		add(func(o *api.Object) { o.Code[i] ^= 128 })
		if i > 0 {
			add(func(o *api.Object) { o.Code = o.Code[:i] })
		}
		if i > 0 && c != wholeObject().Code[i-1] {
			add(func(o *api.Object) { o.Code[i-1], o.Code[i] = o.Code[i], o.Code[i-1] })
		}
	}
	add(func(o *api.Object) { o.Relocs = nil })
	add(func(o *api.Object) { o.Relocs = o.Relocs[:2] })
	add(func(o *api.Object) { o.Relocs = o.Relocs[1:] })
	add(func(o *api.Object) { o.Relocs = append(o.Relocs, o.Relocs[2]) })
	add(func(o *api.Object) { o.Relocs = append(o.Relocs, api.Reloc{}) })
	add(func(o *api.Object) { slices.Reverse(o.Relocs) })
	for i := range wholeObject().Relocs {
		add(func(o *api.Object) { o.Relocs[i].Slot++ })
		add(func(o *api.Object) { o.Relocs[i].Symbol-- })
		add(func(o *api.Object) { o.Relocs[i].Slot, o.Relocs[i].Symbol = o.Relocs[i].Symbol, o.Relocs[i].Slot })
	}
	for i := range 2 {
		add(func(o *api.Object) { o.Relocs[i], o.Relocs[i+1] = o.Relocs[i+1], o.Relocs[i] })
	}
	add(func(o *api.Object) { o.Maps, o.Relocs = nil, nil })
	add(func(o *api.Object) { o.Maps, o.Code = nil, nil })
	add(func(o *api.Object) { o.Code, o.Relocs = nil, nil })
	return l
}

// TestSame: P13.3, objects that are the same, and all pairs of ones that differ in one thing or in two.
func TestSame(t *testing.T) {
	l, again := objects(), objects()
	for i, a := range l {
		for j, b := range again {
			if sameObject(a, b) != (i == j) {
				t.Fatalf("the test has the objects %d and %d", i, j)
			}
			if got := asm.Same(a, b); got != (i == j) {
				t.Fatalf("Same(%v, %v) = %t", a, b, got) // the first one of very many
			}
		}
	}
	for i, a := range l {
		if !sameObject(a, again[i]) {
			t.Errorf("Same changes %v to %v", again[i], a)
		}
	}
}

// TestSameEmpty: P13.3, empty slices are the same as nil (rule 4), and objects need not be correct.
func TestSameEmpty(t *testing.T) {
	empty := api.Object{Maps: []api.Def{}, Code: []byte{}, Relocs: []api.Reloc{}}
	wantSame(t, empty, api.Object{}, true)
	wantSame(t, api.Object{}, empty, true)
	wantSame(t, empty, api.Object{Maps: make([]api.Def, 0, 3), Code: make([]byte, 0, 3), Relocs: make([]api.Reloc, 0, 3)}, true)
	wrong := func() api.Object {
		return api.Object{Maps: []api.Def{{Name: "\xff", Key: -1}}, Code: []byte{1, 2, 3}, Relocs: []api.Reloc{{Slot: math.MinInt, Symbol: math.MaxInt}}}
	}
	wantSame(t, wrong(), wrong(), true)
	other := wrong()
	other.Relocs[0].Slot = math.MaxInt
	wantSame(t, wrong(), other, false)
	wantSame(t, api.Object{Maps: []api.Def{{}}}, api.Object{}, false)
	wantSame(t, api.Object{}, api.Object{Code: []byte{0}}, false)
	wantSame(t, api.Object{Relocs: []api.Reloc{{}}}, api.Object{Relocs: []api.Reloc{{}, {}}}, false)
}

// TestSamePrograms: P13.3, objects of programs with the same instructions but other maps, and of programs with other labels.
func TestSamePrograms(t *testing.T) {
	object := func(text string) api.Object {
		o, _, e := asm.Text(text)
		if e != api.OK {
			t.Errorf("Text(%q) = %v", text, e)
		}
		return o
	}
	wantSame(t, object("x: ja x"), object("y: z: ja z"), true)
	wantSame(t, object("x: ja x"), object("x: exit"), false)
	wantSame(t, object("ja x\nx: exit"), object("x: ja x\nexit"), false)
	wantSame(t, object("map m 1 1 1\nmap n 1 1 1\nldmap r1, m\nexit"), object("map m 1 1 1\nmap n 1 1 1\nldmap r1, n\nexit"), false)
	wantSame(t, object("map m 1 1 1\nldmap r1, m\nexit"), object("map n 1 1 1\nldmap r1, n\nexit"), false)
	wantSame(t, object("map m 1 1 1\nexit"), object("exit"), false)
}

// style tells how a text is written.
type style struct {
	space, end string
	number     func(x uint64) string
}

// respelt returns a word of a program, with another spelling if it is a numeral.
func respelt(word string, number func(x uint64) string) string {
	if word[0] < '0' || word[0] > '9' {
		return word
	}
	base := 10
	digits, ok := strings.CutPrefix(word, "0x")
	if ok {
		base = 16
	}
	x, err := strconv.ParseUint(digits, base, 64)
	if err != nil {
		return word
	}
	return number(x)
}

// rewritten returns a text of the same program in another style.
func rewritten(text string, s style) string {
	var b strings.Builder
	for _, line := range lex.Lines(text) {
		tokens, _, _ := lex.Tokens(line)
		for _, token := range tokens {
			b.WriteString(s.space + respelt(token.Text, s.number))
		}
		b.WriteString(s.end)
	}
	return b.String()
}

// styles returns ways to write texts.
func styles() []style {
	decimal := func(x uint64) string { return strconv.FormatUint(x, 10) }
	base16 := func(x uint64) string { return "0x" + strconv.FormatUint(x, 16) }
	return []style{
		{" ", "\n", decimal},
		{"  \t ", " \t\r\n", base16},
		{" ", "; comment: @ exit\n", func(x uint64) string { return "0x00" + strings.ToUpper(strconv.FormatUint(x, 16)) }},
		{"\t", "# x: ja x\n\n \n;\n", func(x uint64) string { return "000" + decimal(x) }},
		{"\r", ";\xff é\n\n\n", base16},
	}
}

// TestStyles: P13.4, the text of a program and others of it have the same object, in all combinations of styles.
func TestStyles(t *testing.T) {
	texts := []string{whole}
	for _, lines := range lists([]string{"x: exit", "y: z: jeq r1, -5, x", "lddw r1, -123", "ja y", "stb [r10-1], 255"}, 4) {
		texts = append(texts, strings.Join(lines, "\n"))
	}
	found := 0
	for _, text := range texts {
		p, _, _, e := prog.Parse(text)
		if e != api.OK {
			continue
		}
		found++
		want, _, e := assembled(p)
		wantText(t, print.Program(p), want, 0, e)
		for _, s := range styles() {
			wantText(t, rewritten(text, s), want, 0, e)
			wantText(t, rewritten(print.Program(p), s), want, 0, e)
		}
	}
	if found < 50 {
		t.Errorf("only %d texts have programs", found)
	}
}

// TestValues: P13.4, numbers with the same value have the same object.
func TestValues(t *testing.T) {
	for _, c := range [][]string{
		{"add64 r1, -5", "add64 r1, 4294967291", "add64 r1, 0xfffffffb", "add64 r1,-0005", "add64 r1, - 0x5"},
		{"stw [r10-8], 2147483648", "stw [r10+65528], -2147483648", "stw [r10 + 0xfff8], 0x80000000", "stw[r10-0x0008],- 2147483648"},
		{"lddw r1, -1", "lddw r1, 0xffffffffffffffff", "lddw r1, 18446744073709551615"},
		{"lddw r1, -9223372036854775808", "lddw r1, 0x8000000000000000"},
		{"jeq32 r1, -1, x", "jeq32 r1, 0xFFFFFFFF, x", "jeq32 r1 , - 1 , x"},
		{"ldxb r1, [r2]", "ldxb r1, [r2+0]", "ldxb r1, [r2-0]", "ldxb r1,[r2+0x0]"},
	} {
		want, _, e := asm.Text(c[0] + "\nx: exit")
		if e != api.OK {
			t.Errorf("Text with %s has %v", c[0], e)
		}
		for _, line := range c[1:] {
			wantText(t, line+"\nx: exit", want, 0, api.OK)
		}
	}
}

// TestLengths: rule 4, nothing behind the length of a slice is read or written.
func TestLengths(t *testing.T) {
	p := wholeProgram()
	p.Maps = append(p.Maps, api.Def{Name: "o", Key: 1, Value: 1, Entries: 1})
	before := prog.Clone(p)
	part := api.Program{Maps: p.Maps[:2], Stmts: p.Stmts[:17]}
	wantError(t, part, 15, api.ErrUndefined)
	part.Stmts = slices.Clone(part.Stmts)
	part.Stmts[15].Target = "i"
	check(t, part)
	check(t, api.Program{Maps: p.Maps[:1], Stmts: p.Stmts})
	check(t, api.Program{Maps: p.Maps, Stmts: p.Stmts[:18:18]})
	if !prog.Same(p, before) {
		t.Error("something is written behind slices")
	}
	o := wholeObject()
	shorter := api.Object{Maps: o.Maps[:1], Code: o.Code[:8], Relocs: o.Relocs[:2]}
	exact := api.Object{Maps: slices.Clone(shorter.Maps), Code: slices.Clone(shorter.Code), Relocs: slices.Clone(shorter.Relocs)}
	wantSame(t, shorter, exact, true)
	wantSame(t, exact, shorter, true)
	wantSame(t, shorter, o, false)
}

// spoil changes all of an object, and what lies behind its slices.
func spoil(o api.Object) {
	for i := range o.Maps {
		o.Maps[i] = api.Def{Name: "spoilt"}
	}
	for i := range o.Code {
		o.Code[i] = 0x95
	}
	for i := range o.Relocs {
		o.Relocs[i] = api.Reloc{Slot: -1, Symbol: -1}
	}
	_ = append(o.Maps, api.Def{Name: "spoilt"})
	_ = append(o.Code, 0x95)
	_ = append(o.Relocs, api.Reloc{Slot: -1})
}

// TestKept: rules 4 and 7, results share no memory with arguments or with other results, and arguments may be changed after a call.
func TestKept(t *testing.T) {
	p := wholeProgram()
	p.Maps = slices.Grow(p.Maps, 5)
	before := prog.Clone(p)
	a, _, _ := asm.Assemble(p)
	b, _, _ := asm.Assemble(p)
	l, _, _ := asm.Resolve(p)
	m, _, _ := asm.Resolve(p)
	spoil(a)
	for i := range l {
		l[i] = api.Ins{Op: -1}
	}
	if !prog.Same(p, before) || p.Maps[:3][2] != (api.Def{}) {
		t.Error("results share memory with the program")
	}
	if b, _, _ := asm.Assemble(p); !sameObject(b, wholeObject()) {
		t.Errorf("Assemble = %v after another result was changed", b)
	}
	for i := range p.Maps {
		p.Maps[i].Name = "spoilt"
	}
	for i := range p.Stmts {
		p.Stmts[i].Ins, p.Stmts[i].Target = api.Ins{Op: exit}, ""
	}
	if !sameObject(b, wholeObject()) {
		t.Errorf("an object is %v after its program was changed", b)
	}
	if want, _, _ := resolved(wholeProgram()); !slices.Equal(m, want) {
		t.Errorf("instructions are %v after their program was changed", m)
	}
	c, _, _ := asm.Text(whole)
	spoil(c)
	wantText(t, whole, wholeObject(), 0, api.OK)
}

// TestLong: P1, a program in which all statements jump, which takes too long if all of them are visited for each one.
func TestLong(t *testing.T) {
	const n = 65535
	var p api.Program
	var want []api.Ins
	for i := range n {
		to := (i + 30000 + i%2*5000) % n
		if to < i-32767 {
			to = i
		}
		p.Stmts = append(p.Stmts, api.Stmt{Labels: []string{"l" + strconv.Itoa(i)}, Ins: api.Ins{Op: ja}, Target: "l" + strconv.Itoa(to)})
		want = append(want, api.Ins{Op: ja, Off: to - i - 1})
	}
	at := slices.IndexFunc(want, func(x api.Ins) bool { return x.Off > 32767 })
	wantError(t, p, at, api.ErrJump)
	for i := range n {
		if want[i].Off > 32767 {
			p.Stmts[i].Target = "l" + strconv.Itoa(i)
			want[i].Off = -1
		}
	}
	wantResolve(t, p, want, 0, api.OK)
	code, _, _ := slot.Join(want)
	wantAssemble(t, p, api.Object{Code: code}, 0, api.OK)
	wantText(t, print.Program(p), api.Object{Code: code}, 0, api.OK)
}

// TestConcurrent: rule 6, functions may be called concurrently.
func TestConcurrent(t *testing.T) {
	p, wrong := wholeProgram(), build("exit", "ja x")
	l, _, _ := resolved(p)
	var group sync.WaitGroup
	for range 8 {
		group.Go(func() {
			for range 50 {
				wantResolve(t, p, l, 0, api.OK)
				wantAssemble(t, p, wholeObject(), 0, api.OK)
				wantText(t, whole, wholeObject(), 0, api.OK)
				wantError(t, wrong, 1, api.ErrUndefined)
				wantSame(t, wholeObject(), wholeObject(), true)
			}
		})
	}
	group.Wait()
}

// FuzzText: P13.2 and P13.4, compares Text with the model, also for other texts of a program.
func FuzzText(f *testing.F) {
	for _, s := range []string{whole, "", "exit", "x: ja x", "ja x", "x:", "map m 1 1 1\nldmap r1, m\nexit", "lddw r1, 0xff\nx: jeq r1, -1, x\nexit", "exit\nmap m 1 1 1", "stb [r1-0x8000], 1\nexit"} {
		f.Add(s)
	}
	f.Fuzz(func(t *testing.T, text string) {
		want, line, e := read(text)
		wantText(t, text, want, line, e)
		if e != api.OK {
			return
		}
		p, _, _, _ := prog.Parse(text)
		check(t, p)
		wantText(t, print.Program(p), want, 0, api.OK)
		for _, s := range styles() {
			wantText(t, rewritten(text, s), want, 0, api.OK)
		}
	})
}

// fuzzed returns a program with operations, and with as many maps as said; numbers select its targets and the maps that it refers to, some of which do not exist.
func fuzzed(ops, selected []byte, maps int) api.Program {
	var p api.Program
	for i := range maps {
		p.Maps = append(p.Maps, api.Def{Name: "n" + strconv.Itoa(i), Key: i + 1, Value: 1, Entries: 1})
	}
	for i, op := range ops {
		s := api.Stmt{Labels: []string{"n" + strconv.Itoa(i)}, Ins: api.Ins{Op: int(op)}}
		n := 0
		if i < len(selected) {
			n = int(selected[i])
		}
		switch {
		case isJump(s.Ins.Op):
			s.Target = "n" + strconv.Itoa(n%(len(ops)+1))
		case s.Ins.Op == ldmap:
			s.Map = "n" + strconv.Itoa(n%(maps+1))
		case s.Ins.Op == call:
			s.Ins.Imm = int64(n % 4)
		}
		p.Stmts = append(p.Stmts, s)
	}
	return p
}

// FuzzAssemble: P13.1 and P13.3, compares all functions about programs with the model.
func FuzzAssemble(f *testing.F) {
	f.Add([]byte{44, 84, 45, 85, 68}, []byte{4, 0, 0, 1}, 2, 0)
	f.Add([]byte{85, 85, 67, 68}, []byte{0, 1, 2, 3}, 7, 9)
	f.Add([]byte{45, 84, 85, 56, 44}, []byte{4, 0, 0, 0, 3}, 1, 300)
	f.Add([]byte{}, []byte{}, 0, 0)
	f.Add([]byte{84, 44, 255}, []byte{}, 1, 5)
	f.Fuzz(func(t *testing.T, ops, selected []byte, maps, fill int) {
		if len(ops) > 100 || maps < 0 || maps > 300 || fill < 0 || fill > 1000 {
			return // the model takes time
		}
		p := fuzzed(ops, selected, maps)
		if !check(t, p) {
			return
		}
		o, _, _ := asm.Assemble(p)
		again, _, _ := assembled(p)
		wantSame(t, o, again, true)
		// Fillers between two statements lengthen the jumps across them.
		at := len(ops) / 2
		longer := api.Program{Maps: p.Maps, Stmts: slices.Concat(p.Stmts[:at], stmts(exit, fill), p.Stmts[at:])}
		want, _, _ := resolved(p)
		for i, s := range p.Stmts {
			switch to := statementOf(p, s.Target); {
			case to < 0:
			case i < at && to >= at:
				want[i].Off += fill
			case i >= at && to < at:
				want[i].Off -= fill
			}
		}
		want = slices.Insert(want, at, layout.Code(join(stmts(exit, fill)))...)
		wantResolve(t, longer, want, 0, api.OK)
	})
}
