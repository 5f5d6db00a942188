package prog_test

import (
	"math"
	"regexp"
	"slices"
	"strconv"
	"strings"
	"sync"
	"testing"

	"slotcode/api"
	"slotcode/insn"
	"slotcode/parse"
	"slotcode/prog"
)

// Numbers of operations, as the table of chapter 3 has them.
const (
	add64, mov64, neg64, movsb64, ja, jeq, call, exit, ldxb, stb, stxb, lddw, ldmap = 0, 10, 28, 30, 44, 45, 67, 68, 69, 76, 80, 84, 85
)

// groups are the last numbers of the operations with a form.
var groups = []struct{ last, form int }{
	{27, api.Alu}, {29, api.Unary}, {34, api.Extend}, {43, api.Unary}, {44, api.Go}, {66, api.Jump}, {67, api.Call}, {68, api.Exit},
	{75, api.Load}, {79, api.Store}, {83, api.StoreReg}, {84, api.Wide}, {85, api.MapRef},
}

var (
	registerName = regexp.MustCompile(`\Ar([0-9]|10)\z`)
	identifier   = regexp.MustCompile(`\A[A-Za-z_.][A-Za-z0-9_.]{0,31}\z`)
)

func isIdentifier(s string) bool { return identifier.MatchString(s) && !registerName.MatchString(s) }

// formOf returns the form of an operation, or -1 for numbers of no operation.
func formOf(op int) int {
	for _, g := range groups {
		if 0 <= op && op <= g.last {
			return g.form
		}
	}
	return -1
}

// Conditions of the chapter's table in its order; those that are checked together for each map or each statement are one.
const (
	defs = iota
	stmts
	size
	sameMap
	sameLabel
	some
	undefined
	write
	end
)

// breach is a condition that a program breaks, with the place of the error among those of the map or the statement.
type breach struct {
	condition, at, place int
	e                    api.Errno
}

// breaches returns all conditions of the chapter's table that a program breaks, in any order.
func breaches(p api.Program) []breach {
	var l []breach
	add := func(broken bool, condition, at, place int, e api.Errno) {
		if broken {
			l = append(l, breach{condition, at, place, e})
		}
	}
	var maps, labels []string
	for i, d := range p.Maps {
		add(!isIdentifier(d.Name), defs, i, 0, api.ErrName)
		add(d.Key < 1 || d.Key > 64 || d.Value < 1 || d.Value > 256 || d.Entries < 1 || d.Entries > 1024, defs, i, 1, api.ErrMap)
		add(i == 255, size, 255, 0, api.ErrSize)
		add(slices.Contains(maps, d.Name), sameMap, i, 0, api.ErrDuplicate)
		maps = append(maps, d.Name)
	}
	for i, s := range p.Stmts {
		for _, label := range s.Labels {
			add(!isIdentifier(label), stmts, i, 0, api.ErrName)
			add(slices.Contains(labels, label), sameLabel, i, 0, api.ErrDuplicate)
			labels = append(labels, label)
		}
	}
	add(len(p.Stmts) == 0, some, 0, 0, api.ErrEnd)
	for i, s := range p.Stmts {
		form := formOf(s.Ins.Op)
		jumps, refers := form == api.Go || form == api.Jump, form == api.MapRef
		e := insn.Check(s.Ins)
		add(e != api.OK, stmts, i, 1, e)
		add(jumps && s.Ins.Off != 0, stmts, i, 2, api.ErrField)
		add(refers && s.Ins.Imm != 0, stmts, i, 2, api.ErrField)
		add(!jumps && s.Target != "", stmts, i, 2, api.ErrField)
		add(!refers && s.Map != "", stmts, i, 2, api.ErrField)
		add(jumps && !isIdentifier(s.Target), stmts, i, 3, api.ErrName)
		add(refers && !isIdentifier(s.Map), stmts, i, 3, api.ErrName)
		add(jumps && !slices.Contains(labels, s.Target), undefined, i, 0, api.ErrUndefined)
		add(refers && !slices.Contains(maps, s.Map), undefined, i, 0, api.ErrUndefined)
		writes := slices.Contains([]int{api.Alu, api.Unary, api.Extend, api.Load, api.Wide, api.MapRef}, form)
		add(writes && s.Ins.Dst == 10, write, i, 0, api.ErrWrite)
		add(i == len(p.Stmts)-1 && form != api.Go && form != api.Exit, end, i, 0, api.ErrEnd)
	}
	return l
}

// first returns the breach that determines the error.
func first(p api.Program) (b breach, broken bool) {
	l := breaches(p)
	if len(l) == 0 {
		return breach{}, false
	}
	return slices.MinFunc(l, func(a, b breach) int {
		return slices.Compare([]int{a.condition, a.at, a.place}, []int{b.condition, b.at, b.place})
	}), true
}

// show returns a program in a form that can be compared, with empty and nil slices alike.
func show(p api.Program) string {
	var b strings.Builder
	number := func(l ...int) {
		for _, x := range l {
			b.WriteString(" " + strconv.Itoa(x))
		}
	}
	for _, d := range p.Maps {
		b.WriteString("map " + strconv.Quote(d.Name))
		number(d.Key, d.Value, d.Entries)
		b.WriteString("\n")
	}
	for _, s := range p.Stmts {
		for _, label := range s.Labels {
			b.WriteString(strconv.Quote(label) + ": ")
		}
		number(s.Ins.Op, s.Ins.Dst, s.Ins.Src, s.Ins.Off)
		b.WriteString(" " + strconv.FormatInt(s.Ins.Imm, 10) + " " + strconv.FormatBool(s.Ins.Reg) + " " + strconv.Quote(s.Target) + " " + strconv.Quote(s.Map) + "\n")
	}
	return b.String()
}

func wantCheck(t *testing.T, p api.Program, wantAt int, want api.Errno) {
	t.Helper()
	before := show(p)
	if at, e := prog.Check(p); at != wantAt || e != want {
		t.Errorf("Check of\n%.2000s= %d, %v; want %d, %v", before, at, e, wantAt, want)
	}
	if after := show(p); after != before {
		t.Errorf("Check changes\n%.2000sto\n%.2000s", before, after)
	}
}

// checkCheck compares Check with the model.
func checkCheck(t *testing.T, p api.Program) {
	t.Helper()
	b, _ := first(p)
	wantCheck(t, p, b.at, b.e)
}

// build returns the program with the maps and the instructions of lines, whether it is correct or not.
func build(lines ...string) api.Program {
	var p api.Program
	var labels []string
	for _, s := range lines {
		items, e := parse.Line(s)
		if e != api.OK {
			panic("the test has the line " + s)
		}
		for _, item := range items {
			switch x := item.(type) {
			case parse.Label:
				labels = append(labels, x.Name)
			case parse.Map:
				p.Maps = append(p.Maps, x.Def)
			case parse.Code:
				p.Stmts = append(p.Stmts, api.Stmt{Labels: labels, Ins: x.Ins, Target: x.Target, Map: x.Map})
				labels = nil
			}
		}
	}
	return p
}

// correct returns a correct program with an instruction of each form, and with statements without labels, with one and with two.
func correct() api.Program {
	return build("map m 4 8 16", "map n 1 1 1", "map o 64 256 1024",
		"a: b: mov64 r1, 5", "neg64 r2", "movsb64 r3, r10", "jeq r1, r2, a", "c: ja d", "d: e: jlt32 r10, -5, c", "call update", "ldxb r4, [r10-8]",
		"stb [r10-1], 5", "f: stxdw [r10-8], r10", "lddw r9, -1", "ldmap r1, n", "ldmap r2, n", "add32 r0, r10", "jne r0, 0, g", "exit", "g: ja g")
}

func def(name string, key, value, entries int) api.Def {
	return api.Def{Name: name, Key: key, Value: value, Entries: entries}
}

// changed returns a correct program with a change.
func changed(change func(p *api.Program)) api.Program {
	p := correct()
	change(&p)
	return p
}

// stmt returns a program with one map, and the statement between two others.
func stmt(s api.Stmt) api.Program {
	return api.Program{Maps: []api.Def{def("m", 1, 1, 1)}, Stmts: []api.Stmt{{Labels: []string{"a"}, Ins: api.Ins{Op: neg64}}, s, {Ins: api.Ins{Op: exit}}}}
}

// TestGroups checks the table of the tests, by the operations that the other tests name.
func TestGroups(t *testing.T) {
	for op, want := range map[int]int{add64: api.Alu, mov64: api.Alu, neg64: api.Unary, movsb64: api.Extend, ja: api.Go, jeq: api.Jump, call: api.Call, exit: api.Exit, ldxb: api.Load, stb: api.Store, stxb: api.StoreReg, lddw: api.Wide, ldmap: api.MapRef, 35: api.Unary, 66: api.Jump, -1: -1, 86: -1} {
		if got := formOf(op); got != want {
			t.Errorf("the operation %d has the form %d in the test; want %d", op, got, want)
		}
	}
	seen := map[int]bool{}
	for _, s := range correct().Stmts {
		seen[formOf(s.Ins.Op)] = true
	}
	if len(seen) != 12 {
		t.Errorf("the program of the test has %d forms", len(seen))
	}
}

// TestCheckMaps: P10.1, for the conditions about maps, written out one by one.
func TestCheckMaps(t *testing.T) {
	for _, c := range []struct {
		maps []api.Def
		at   int
		e    api.Errno
	}{
		{nil, 0, api.OK}, {[]api.Def{}, 0, api.OK}, {[]api.Def{def("m", 1, 1, 1)}, 0, api.OK}, {[]api.Def{def("m", 64, 256, 1024), def("M", 1, 1, 1), def("a", 3, 5, 7)}, 0, api.OK},
		{[]api.Def{{}}, 0, api.ErrName}, {[]api.Def{def("r1", 1, 1, 1)}, 0, api.ErrName}, {[]api.Def{def("1", 1, 1, 1)}, 0, api.ErrName}, {[]api.Def{def("m", 1, 1, 1), def("r10", 1, 1, 1), def("", 1, 1, 1)}, 1, api.ErrName}, {[]api.Def{def("exit", 1, 1, 1), def("map", 1, 1, 1), def("a", 1, 1, 1)}, 0, api.OK},
		{[]api.Def{def("m", 0, 1, 1)}, 0, api.ErrMap}, {[]api.Def{def("m", 1, 0, 1)}, 0, api.ErrMap}, {[]api.Def{def("m", 1, 1, 0)}, 0, api.ErrMap}, {[]api.Def{def("m", 65, 1, 1)}, 0, api.ErrMap}, {[]api.Def{def("m", 1, 257, 1)}, 0, api.ErrMap}, {[]api.Def{def("m", 1, 1, 1025)}, 0, api.ErrMap},
		{[]api.Def{def("m", -1, 1, 1)}, 0, api.ErrMap}, {[]api.Def{def("m", 1, math.MinInt, 1)}, 0, api.ErrMap}, {[]api.Def{def("m", 1, 1, math.MaxInt)}, 0, api.ErrMap}, {[]api.Def{def("m", 1<<32+1, 1, 1)}, 0, api.ErrMap}, {[]api.Def{def("m", 1, 1, 1), def("n", 1, 1, 1), def("o", 1, 1, -1)}, 2, api.ErrMap},
		{[]api.Def{def("m", 1, 1, 1), def("m", 1, 1, 1)}, 1, api.ErrDuplicate}, {[]api.Def{def("m", 1, 1, 1), def("n", 1, 1, 1), def("o", 1, 1, 1), def("n", 2, 2, 2), def("m", 1, 1, 1)}, 3, api.ErrDuplicate}, {[]api.Def{def("m", 1, 1, 1), def("m", 1, 1, 1), def("m", 1, 1, 1)}, 1, api.ErrDuplicate},
		{[]api.Def{def("1", 0, 0, 0)}, 0, api.ErrName}, {[]api.Def{def("m", 0, 0, 0), def("1", 1, 1, 1)}, 0, api.ErrMap}, {[]api.Def{def("1", 1, 1, 1), def("m", 0, 0, 0)}, 0, api.ErrName}, // each map after the one before it
		{[]api.Def{def("m", 1, 1, 1), def("m", 1, 1, 1), def("1", 1, 1, 1)}, 2, api.ErrName}, {[]api.Def{def("m", 1, 1, 1), def("m", 0, 1, 1)}, 1, api.ErrMap}, // and before their names are compared
	} {
		wantCheck(t, api.Program{Maps: c.maps, Stmts: []api.Stmt{{Labels: []string{"m"}, Ins: api.Ins{Op: exit}}}}, c.at, c.e)
	}
}

// TestCheckStatement: P10.1, for the conditions about each statement, written out one by one.
func TestCheckStatement(t *testing.T) {
	for _, c := range []struct {
		s api.Stmt
		e api.Errno
	}{
		{api.Stmt{Ins: api.Ins{Op: add64}}, api.OK}, {api.Stmt{Labels: []string{"b", "c"}, Ins: api.Ins{Op: exit}}, api.OK}, {api.Stmt{Labels: []string{"m"}, Ins: api.Ins{Op: ja}, Target: "m"}, api.OK}, {api.Stmt{Ins: api.Ins{Op: jeq, Dst: 10, Imm: -5}, Target: "a"}, api.OK}, {api.Stmt{Ins: api.Ins{Op: ldmap}, Map: "m"}, api.OK}, {api.Stmt{Ins: api.Ins{Op: ldxb, Off: -1}}, api.OK}, {api.Stmt{Ins: api.Ins{Op: lddw, Imm: math.MinInt64}}, api.OK},
		{api.Stmt{Labels: []string{""}, Ins: api.Ins{Op: exit}}, api.ErrName}, {api.Stmt{Labels: []string{"b", "r1"}, Ins: api.Ins{Op: exit}}, api.ErrName}, {api.Stmt{Labels: []string{"1b", "c"}, Ins: api.Ins{Op: exit}}, api.ErrName}, {api.Stmt{Labels: []string{"b", "c", "d e"}, Ins: api.Ins{Op: exit}}, api.ErrName},
		{api.Stmt{Ins: api.Ins{Op: 86}}, api.ErrOp}, {api.Stmt{Ins: api.Ins{Op: -1}}, api.ErrOp}, {api.Stmt{Ins: api.Ins{Op: exit, Dst: 1}}, api.ErrField}, {api.Stmt{Ins: api.Ins{Op: neg64, Reg: true}}, api.ErrField}, {api.Stmt{Ins: api.Ins{Op: add64, Dst: 11}}, api.ErrRegister}, {api.Stmt{Ins: api.Ins{Op: call}}, api.ErrRange}, {api.Stmt{Ins: api.Ins{Op: ja, Off: 32768}, Target: "a"}, api.ErrRange}, {api.Stmt{Ins: api.Ins{Op: ldmap, Imm: 255}, Map: "m"}, api.ErrRange}, {api.Stmt{Ins: api.Ins{Op: jeq, Imm: 1 << 31}, Target: "a"}, api.ErrRange},
		{api.Stmt{Ins: api.Ins{Op: ja, Off: 1}, Target: "a"}, api.ErrField}, {api.Stmt{Ins: api.Ins{Op: jeq, Off: -1}, Target: "a"}, api.ErrField}, {api.Stmt{Ins: api.Ins{Op: jeq, Reg: true, Off: -32768}, Target: "a"}, api.ErrField}, {api.Stmt{Ins: api.Ins{Op: ldmap, Imm: 1}, Map: "m"}, api.ErrField}, {api.Stmt{Ins: api.Ins{Op: ldmap, Imm: 254}, Map: "m"}, api.ErrField},
		{api.Stmt{Ins: api.Ins{Op: exit}, Target: "a"}, api.ErrField}, {api.Stmt{Ins: api.Ins{Op: add64}, Target: "a"}, api.ErrField}, {api.Stmt{Ins: api.Ins{Op: ldmap}, Target: "a", Map: "m"}, api.ErrField}, {api.Stmt{Ins: api.Ins{Op: call, Imm: 1}, Target: "1"}, api.ErrField}, {api.Stmt{Ins: api.Ins{Op: exit}, Map: "m"}, api.ErrField}, {api.Stmt{Ins: api.Ins{Op: ja}, Target: "a", Map: "m"}, api.ErrField}, {api.Stmt{Ins: api.Ins{Op: jeq}, Target: "a", Map: "m"}, api.ErrField}, {api.Stmt{Ins: api.Ins{Op: lddw}, Map: "m"}, api.ErrField},
		{api.Stmt{Ins: api.Ins{Op: ja}}, api.ErrName}, {api.Stmt{Ins: api.Ins{Op: ja}, Target: "r0"}, api.ErrName}, {api.Stmt{Ins: api.Ins{Op: jeq}, Target: "1"}, api.ErrName}, {api.Stmt{Ins: api.Ins{Op: jeq}, Target: "é"}, api.ErrName}, {api.Stmt{Ins: api.Ins{Op: ldmap}}, api.ErrName}, {api.Stmt{Ins: api.Ins{Op: ldmap}, Map: "r10"}, api.ErrName}, {api.Stmt{Ins: api.Ins{Op: ldmap}, Map: "m "}, api.ErrName},
		{api.Stmt{Ins: api.Ins{Op: ja}, Target: "b"}, api.ErrUndefined}, {api.Stmt{Ins: api.Ins{Op: jeq}, Target: "m"}, api.ErrUndefined}, {api.Stmt{Ins: api.Ins{Op: jeq}, Target: "A"}, api.ErrUndefined}, {api.Stmt{Ins: api.Ins{Op: ldmap}, Map: "a"}, api.ErrUndefined}, {api.Stmt{Ins: api.Ins{Op: ldmap}, Map: "M"}, api.ErrUndefined}, {api.Stmt{Ins: api.Ins{Op: ldmap}, Map: "n"}, api.ErrUndefined},
		{api.Stmt{Labels: []string{"a"}, Ins: api.Ins{Op: exit}}, api.ErrDuplicate}, {api.Stmt{Labels: []string{"b", "b"}, Ins: api.Ins{Op: exit}}, api.ErrDuplicate}, {api.Stmt{Labels: []string{"b", "c", "b"}, Ins: api.Ins{Op: exit}}, api.ErrDuplicate}, {api.Stmt{Labels: []string{"b", "a"}, Ins: api.Ins{Op: exit}}, api.ErrDuplicate},
		{api.Stmt{Ins: api.Ins{Op: add64, Dst: 10}}, api.ErrWrite}, {api.Stmt{Ins: api.Ins{Op: add64, Dst: 10, Reg: true, Src: 1}}, api.ErrWrite}, {api.Stmt{Ins: api.Ins{Op: neg64, Dst: 10}}, api.ErrWrite}, {api.Stmt{Ins: api.Ins{Op: movsb64, Dst: 10}}, api.ErrWrite}, {api.Stmt{Ins: api.Ins{Op: ldxb, Dst: 10, Src: 10}}, api.ErrWrite}, {api.Stmt{Ins: api.Ins{Op: lddw, Dst: 10}}, api.ErrWrite}, {api.Stmt{Ins: api.Ins{Op: ldmap, Dst: 10}, Map: "m"}, api.ErrWrite},
		{api.Stmt{Ins: api.Ins{Op: add64, Dst: 9, Reg: true, Src: 10}}, api.OK}, {api.Stmt{Ins: api.Ins{Op: movsb64, Src: 10}}, api.OK}, {api.Stmt{Ins: api.Ins{Op: stb, Dst: 10}}, api.OK}, {api.Stmt{Ins: api.Ins{Op: stxb, Dst: 10, Src: 10}}, api.OK}, {api.Stmt{Ins: api.Ins{Op: jeq, Dst: 10, Reg: true, Src: 10}, Target: "a"}, api.OK}, {api.Stmt{Ins: api.Ins{Op: ldxb, Src: 10}}, api.OK},
		{api.Stmt{Labels: []string{"1"}, Ins: api.Ins{Op: 86}, Target: "a"}, api.ErrName}, {api.Stmt{Ins: api.Ins{Op: 86}, Target: "a", Map: "m"}, api.ErrOp}, {api.Stmt{Ins: api.Ins{Op: exit, Dst: 11}, Target: "a"}, api.ErrField}, {api.Stmt{Ins: api.Ins{Op: add64, Dst: 11}, Target: "a"}, api.ErrRegister}, {api.Stmt{Ins: api.Ins{Op: ja, Off: 1 << 20}}, api.ErrRange}, {api.Stmt{Ins: api.Ins{Op: ja, Off: 1}, Target: "1"}, api.ErrField}, {api.Stmt{Ins: api.Ins{Op: ja}, Map: "m"}, api.ErrField}, {api.Stmt{Ins: api.Ins{Op: ldmap, Dst: 10}, Map: "n"}, api.ErrUndefined}, {api.Stmt{Labels: []string{"a"}, Ins: api.Ins{Op: ja}, Target: "b"}, api.ErrDuplicate}, // several errors
	} {
		at := 1
		if c.e == api.OK {
			at = 0
		}
		wantCheck(t, stmt(c.s), at, c.e)
	}
}

// TestCheckPrograms: P10.1, for the conditions about all of a program, written out one by one.
func TestCheckPrograms(t *testing.T) {
	for _, c := range []struct {
		p  api.Program
		at int
		e  api.Errno
	}{
		{correct(), 0, api.OK}, {build("exit"), 0, api.OK}, {build("x: ja x"), 0, api.OK}, {build("ja x", "x: exit"), 0, api.OK}, {build("exit", "x: exit", "ja x"), 0, api.OK},
		{api.Program{}, 0, api.ErrEnd}, {api.Program{Stmts: []api.Stmt{}}, 0, api.ErrEnd}, {build("map m 1 1 1"), 0, api.ErrEnd}, {build("map m 1 1 1", "map m 1 1 1"), 1, api.ErrDuplicate},
		{build("ja x"), 0, api.ErrUndefined}, {build("exit", "ja x"), 1, api.ErrUndefined}, {build("ldmap r1, m", "exit"), 0, api.ErrUndefined}, {build("map m 1 1 1", "m: ja m", "n: ldmap r1, n", "exit"), 1, api.ErrUndefined}, {build("map m 1 1 1", "ldmap r1, m", "ja m"), 1, api.ErrUndefined},
		{build("mov64 r10, 5"), 0, api.ErrWrite}, {build("exit", "lddw r10, 5", "mov64 r10, 5", "exit"), 1, api.ErrWrite},
		{build("mov64 r0, 5"), 0, api.ErrEnd}, {build("exit", "mov64 r0, 5"), 1, api.ErrEnd}, {build("x: jeq r0, 5, x"), 0, api.ErrEnd}, {build("exit", "ja x", "x: call lookup"), 2, api.ErrEnd}, {build("exit", "stb [r10], 5"), 1, api.ErrEnd}, {build("map m 1 1 1", "exit", "ldmap r1, m"), 1, api.ErrEnd},
		{build("x: exit", "x: exit"), 1, api.ErrDuplicate}, {build("x: exit", "y: x: exit", "y: exit"), 1, api.ErrDuplicate}, {build("x: x: exit"), 0, api.ErrDuplicate}, {build("exit", "y: x: exit", "exit", "z: y: exit", "x: exit"), 3, api.ErrDuplicate},
		{build("ja y", "mov64 r10, 5"), 0, api.ErrUndefined}, {build("mov64 r10, 5", "ja y"), 1, api.ErrUndefined}, {build("x: mov64 r10, 5", "ja y", "x: exit"), 2, api.ErrDuplicate}, {build("map m 1 1 1", "map m 1 1 1", "x: exit", "x: exit"), 1, api.ErrDuplicate}, {build("map m 1 1 1", "map m 1 1 1", "ja y"), 1, api.ErrDuplicate}, // several errors
		{changed(func(p *api.Program) { p.Stmts = p.Stmts[:5] }), 4, api.ErrUndefined}, {changed(func(p *api.Program) { p.Maps = p.Maps[:1] }), 11, api.ErrUndefined}, {changed(func(p *api.Program) { p.Stmts = p.Stmts[:16] }), 14, api.ErrUndefined}, {changed(func(p *api.Program) { p.Stmts[0].Labels = p.Stmts[0].Labels[1:] }), 3, api.ErrUndefined},
	} {
		wantCheck(t, c.p, c.at, c.e)
		checkCheck(t, c.p)
	}
}

// TestCheckManyMaps: P10.1, for programs with about as many maps as are permitted, and with other errors beside.
func TestCheckManyMaps(t *testing.T) {
	many := func(n int, change func(p *api.Program)) api.Program {
		p := build("exit")
		for i := range n {
			p.Maps = append(p.Maps, def("m"+strconv.Itoa(i), 1, 1, 1))
		}
		if change != nil {
			change(&p)
		}
		return p
	}
	for _, c := range []struct {
		p  api.Program
		at int
		e  api.Errno
	}{
		{many(254, nil), 0, api.OK}, {many(255, nil), 0, api.OK}, {many(256, nil), 255, api.ErrSize}, {many(257, nil), 255, api.ErrSize}, {many(1000, nil), 255, api.ErrSize},
		{many(300, func(p *api.Program) { p.Maps[299].Name = "r1" }), 299, api.ErrName}, {many(300, func(p *api.Program) { p.Maps[255].Key = 0 }), 255, api.ErrMap}, {many(300, func(p *api.Program) { p.Stmts[0].Target = "x" }), 0, api.ErrField}, {many(300, func(p *api.Program) { p.Stmts[0].Labels = []string{"1"} }), 0, api.ErrName},
		{many(300, func(p *api.Program) { p.Maps[1].Name = "m0" }), 255, api.ErrSize}, {many(300, func(p *api.Program) { p.Stmts[0].Labels = []string{"a", "a"} }), 255, api.ErrSize}, {many(300, func(p *api.Program) { p.Stmts = nil }), 255, api.ErrSize}, {many(256, func(p *api.Program) { p.Stmts[0] = api.Stmt{Ins: api.Ins{Op: ja}, Target: "x"} }), 255, api.ErrSize}, {many(256, func(p *api.Program) { p.Stmts[0] = api.Stmt{Ins: api.Ins{Op: mov64, Dst: 10}} }), 255, api.ErrSize},
		{many(255, func(p *api.Program) { p.Maps[254].Name = "m0" }), 254, api.ErrDuplicate}, {many(255, func(p *api.Program) { p.Maps[254].Name = "m253"; p.Maps[254].Key = 65 }), 254, api.ErrMap}, {many(255, func(p *api.Program) { p.Stmts = build("ldmap r1, m254", "exit").Stmts }), 0, api.OK}, {many(255, func(p *api.Program) { p.Stmts = build("ldmap r1, m255", "exit").Stmts }), 0, api.ErrUndefined},
	} {
		wantCheck(t, c.p, c.at, c.e)
		checkCheck(t, c.p)
	}
}

// TestCheckFields: P10.1, for statements of each form with few values of all fields at a time.
func TestCheckFields(t *testing.T) {
	for _, op := range []int{add64, 27, neg64, 35, movsb64, ja, jeq, 66, call, exit, ldxb, stb, stxb, lddw, ldmap, -1, 86} {
		for _, reg := range []bool{false, true} {
			for _, dst := range []int{0, 9, 10, 11} {
				for _, src := range []int{0, 10, -1} {
					for _, off := range []int{0, 1, -1, 1 << 20} {
						for _, imm := range []int64{0, 1, 255, 1 << 40} {
							checkNames(t, api.Ins{Op: op, Reg: reg, Dst: dst, Src: src, Off: off, Imm: imm})
						}
					}
				}
			}
		}
		if t.Failed() {
			return
		}
	}
}

// checkNames compares Check with the model for an instruction with few names of targets and maps at a time.
func checkNames(t *testing.T, x api.Ins) {
	t.Helper()
	for _, target := range []string{"", "a", "m", "b", "1"} {
		for _, m := range []string{"", "m", "a", "r10"} {
			p := stmt(api.Stmt{Labels: []string{"m", "c"}, Ins: x, Target: target, Map: m})
			want, _ := first(p)
			if at, e := prog.Check(p); at != want.at || e != want.e {
				t.Errorf("Check of\n%s= %d, %v; want %d, %v", show(p), at, e, want.at, want.e)
			}
		}
	}
}

// TestCheckNames: P10.1, for all kinds of names in all places where names stand.
func TestCheckNames(t *testing.T) {
	l := []string{"", "a", "Z", "_", ".", "a.b_9", "map", "exit", "lookup", "L0", "R1", "r", "r00", "r01", "r11", "r100", "rr1", "r1a", "1", "1a", "9.", "0x1", "-", "a-b", "a b", " a", "a ", "a:", "a\n", "\x00", "a\x00", "é", "aé", "\xff", "a\xff", "ａ", "a,"}
	for n := range 11 {
		l = append(l, "r"+strconv.Itoa(n))
	}
	for _, n := range []int{31, 32, 33, 64} {
		l = append(l, strings.Repeat("a", n), "r"+strings.Repeat("1", n-1), strings.Repeat("1", n), strings.Repeat("é", n/2))
	}
	for _, name := range l {
		want := api.ErrName
		if isIdentifier(name) {
			want = api.OK
		}
		for _, c := range []struct {
			at     int // with an error
			change func(p *api.Program)
		}{
			{0, func(p *api.Program) { p.Maps[0].Name = name }}, {2, func(p *api.Program) { p.Maps[2].Name = name }},
			{1, func(p *api.Program) { p.Stmts[1].Labels = []string{name} }}, {9, func(p *api.Program) { p.Stmts[9].Labels = []string{"x", name} }}, {15, func(p *api.Program) { p.Stmts[15].Labels = []string{name, "x"} }},
			{4, func(p *api.Program) { p.Stmts[4].Target, p.Stmts[7].Labels = name, []string{name} }}, {3, func(p *api.Program) { p.Stmts[3].Target, p.Stmts[7].Labels = name, []string{name} }},
		} {
			p := build("map m1 4 8 16", "map n1 1 1 1", "map o1 64 256 1024", "mov64 r1, 5", "neg64 r2", "exit", "jeq r1, r2, last", "ja last", "exit", "exit", "exit", "exit", "exit", "exit", "exit", "exit", "exit", "exit", "exit", "last: exit")
			c.change(&p)
			if want == api.OK {
				wantCheck(t, p, 0, api.OK)
			} else {
				wantCheck(t, p, c.at, api.ErrName)
			}
			checkCheck(t, p)
		}
		p := build("map o 1 1 1", "exit", "ldmap r1, o", "exit")
		p.Stmts[1].Map, p.Maps[0].Name = name, name
		checkCheck(t, p)
		p.Maps[0].Name = "another"
		checkCheck(t, p)
	}
}

// TestCheckSizes: P10.1, for numbers of maps around their bounds, in all places.
func TestCheckSizes(t *testing.T) {
	sizes := []int{0, 1, 2, 63, 64, 65, 255, 256, 257, 1023, 1024, 1025, -1, -64, 1 << 16, 1<<32 + 1, -1 << 32, math.MaxInt32, math.MaxInt, math.MinInt, math.MinInt + 1}
	for _, key := range sizes {
		for _, value := range sizes {
			for _, entries := range sizes {
				for _, name := range []string{"x", "r1"} {
					checkCheck(t, api.Program{Maps: []api.Def{def("m", 1, 1, 1), def(name, key, value, entries)}, Stmts: []api.Stmt{{Ins: api.Ins{Op: exit}}}})
				}
			}
		}
	}
}

// faults are changes of a program with five statements and three maps that break one condition each.
var faults = []struct {
	e      api.Errno
	ofMap  bool
	change func(p *api.Program, i int)
}{
	{api.ErrName, true, func(p *api.Program, i int) { p.Maps[i%3].Name = "r" + strconv.Itoa(i%3) }},
	{api.ErrMap, true, func(p *api.Program, i int) { p.Maps[i%3].Value = 0 }},
	{api.ErrName, false, func(p *api.Program, i int) { p.Stmts[i].Labels = append(p.Stmts[i].Labels, "1") }},
	{api.ErrOp, false, func(p *api.Program, i int) { p.Stmts[i].Ins.Op = 86 }},
	{api.ErrRegister, false, func(p *api.Program, i int) { p.Stmts[i].Ins.Dst = 11 }},
	{api.ErrField, false, func(p *api.Program, i int) { p.Stmts[i].Map = "a" }},
	{api.ErrField, false, func(p *api.Program, i int) { p.Stmts[i].Ins.Off = 1 }},
	{api.ErrName, false, func(p *api.Program, i int) { p.Stmts[i].Target = "1" }},
	{api.ErrDuplicate, true, func(p *api.Program, i int) { p.Maps[max(i%3, 1)].Name = "a" }},
	{api.ErrDuplicate, false, func(p *api.Program, i int) { p.Stmts[i].Labels = append(p.Stmts[i].Labels, "a", "a") }},
	{api.ErrUndefined, false, func(p *api.Program, i int) { p.Stmts[i].Target = "x" }},
	{api.ErrWrite, false, func(p *api.Program, i int) {
		p.Stmts[i] = api.Stmt{Labels: p.Stmts[i].Labels, Ins: api.Ins{Op: mov64, Dst: 10}}
	}},
}

// five returns a correct program that each of the faults can be put into.
func five() api.Program {
	return build("map a 1 2 3", "map b 1 2 3", "map c 1 2 3", "l0: jeq r0, 1, l4", "l1: jeq r0, 2, l0", "l2: jne r1, r2, l2", "l3: jlt32 r1, r2, l1", "l4: ja l3")
}

// TestCheckOne: P10.1, for one fault at each place: the index is that of the map or of the statement.
func TestCheckOne(t *testing.T) {
	wantCheck(t, five(), 0, api.OK)
	for _, f := range faults {
		for i := range 5 {
			p := five()
			f.change(&p, i)
			at := i
			if f.ofMap {
				at = i % 3
			}
			if f.ofMap && f.e == api.ErrDuplicate {
				at = max(at, 1)
			}
			if f.e == api.ErrRegister && i == 4 {
				wantCheck(t, p, 4, api.ErrField) // ja uses no register
				continue
			}
			wantCheck(t, p, at, f.e)
		}
	}
}

// TestCheckFirst: P10.1, for two and for three faults at all places, and with the end of the program or many maps beside.
func TestCheckFirst(t *testing.T) {
	for a, f := range faults {
		for b, g := range faults {
			for i := range 5 {
				for j := range 5 {
					p := five()
					f.change(&p, i)
					g.change(&p, j)
					checkCheck(t, p)
					p.Stmts = p.Stmts[:4]
					checkCheck(t, p)
					for len(p.Maps) < 257 {
						p.Maps = append(p.Maps, def("m", 1, 1, 1))
					}
					if (a+b+i+j)%7 == 0 { // not all of them, since programs with many maps take long
						checkCheck(t, p)
						p.Stmts = nil
						checkCheck(t, p)
					}
				}
				for _, h := range faults {
					p := five()
					h.change(&p, 4-i)
					f.change(&p, i)
					g.change(&p, 2)
					checkCheck(t, p)
				}
			}
		}
		if t.Failed() {
			return
		}
	}
}

// TestCheckAll: P10.1, for all programs with up to two maps and up to three statements out of some.
func TestCheckAll(t *testing.T) {
	maps := []api.Def{def("m", 1, 1, 1), def("n", 64, 256, 1024), def("1", 1, 1, 1), def("m", 0, 1, 1)}
	parts := build("exit", "x: exit", "y: x: exit", "ja x", "x: ja y", "jeq r1, 5, y", "ldmap r1, m", "y: ldmap r10, n", "mov64 r10, 1", "x: stb [r10], 1", "y: y: call delete").Stmts
	parts = append(parts, api.Stmt{Labels: []string{"r1"}, Ins: api.Ins{Op: exit}}, api.Stmt{Ins: api.Ins{Op: 86}}, api.Stmt{Ins: api.Ins{Op: ja, Off: 1}, Target: "x"}, api.Stmt{Ins: api.Ins{Op: ldmap}, Map: "5"})
	for _, m := range lists(maps, 2) {
		for _, l := range lists(parts, 3) {
			p := api.Program{Maps: m, Stmts: l}
			want, _ := first(p)
			if at, e := prog.Check(p); at != want.at || e != want.e {
				t.Fatalf("Check of\n%s= %d, %v; want %d, %v", show(p), at, e, want.at, want.e)
			}
		}
	}
}

// lists returns all lists of up to n elements out of some.
func lists[T any](of []T, n int) [][]T {
	all := [][]T{nil}
	for from := 0; n > 0; n-- {
		to := len(all)
		for _, l := range all[from:to] {
			for _, x := range of {
				all = append(all, append(slices.Clone(l), x))
			}
		}
		from = to
	}
	return all
}

// place is an item of a text with its line.
type place struct {
	item parse.Item
	line int
}

// split returns the lines of a text.
func split(text string) []string {
	l := strings.Split(text, "\n")
	if l[len(l)-1] == "" {
		l = l[:len(l)-1]
	}
	return l
}

// model says what the chapter requires of Parse. It is open which line that is if a map has an error in a text without statements.
func model(text string) (p api.Program, lines []int, line int, e api.Errno, open bool) {
	none := func(line int, e api.Errno) (api.Program, []int, int, api.Errno, bool) {
		return api.Program{}, nil, line, e, false
	}
	all := split(text)
	var places []place
	for i, s := range all {
		items, e := parse.Line(s)
		if e != api.OK {
			return none(i+1, e)
		}
		for _, item := range items {
			if item.Kind() == parse.OfMap && slices.ContainsFunc(places, func(x place) bool { return x.item.Kind() != parse.OfMap }) {
				return none(i+1, api.ErrOrder)
			}
			places = append(places, place{item, i + 1})
		}
	}
	var mapLines []int
	from := 0 // behind the last instruction
	for i, x := range places {
		switch item := x.item.(type) {
		case parse.Map:
			p.Maps, mapLines = append(p.Maps, item.Def), append(mapLines, x.line)
			from = i + 1
		case parse.Code:
			s := api.Stmt{Ins: item.Ins, Target: item.Target, Map: item.Map}
			for _, y := range places[from:i] {
				s.Labels = append(s.Labels, y.item.(parse.Label).Name)
			}
			p.Stmts, lines = append(p.Stmts, s), append(lines, x.line)
			from = i + 1
		}
	}
	if from < len(places) {
		return none(places[from].line, api.ErrEnd)
	}
	b, broken := first(p)
	ofMap := b.condition == defs || b.condition == size || b.condition == sameMap
	switch {
	case !broken:
		return p, lines, 0, api.OK, false
	case ofMap:
		return api.Program{}, nil, mapLines[b.at], b.e, len(lines) == 0
	case len(lines) == 0:
		return none(len(all), b.e)
	}
	return none(lines[b.at], b.e)
}

func wantParse(t *testing.T, text string, want api.Program, wantLines []int, wantLine int, wantError api.Errno) {
	t.Helper()
	p, lines, line, e := prog.Parse(text)
	if show(p) != show(want) || !slices.Equal(lines, wantLines) || line != wantLine || e != wantError {
		t.Errorf("Parse(%.2000q) = %v, %d, %v and\n%.2000swant %v, %d, %v and\n%.2000s", text, lines, line, e, show(p), wantLines, wantLine, wantError, show(want))
	}
	if at, broken := prog.Check(p); e == api.OK && (at != 0 || broken != api.OK) {
		t.Errorf("Check = %d, %v for Parse(%.2000q)", at, broken, text)
	}
}

// checkParse compares Parse with the model.
func checkParse(t *testing.T, text string) {
	t.Helper()
	p, lines, line, e, open := model(text)
	if open {
		_, _, line, _ = prog.Parse(text)
	}
	wantParse(t, text, p, lines, line, e)
}

// TestParse: P10.2, for programs written out.
func TestParse(t *testing.T) {
	for _, c := range []struct {
		text  string
		want  api.Program
		lines []int
	}{
		{"exit", api.Program{Stmts: []api.Stmt{{Ins: api.Ins{Op: exit}}}}, []int{1}},
		{"\n\n; c\n exit # c\n\n", api.Program{Stmts: []api.Stmt{{Ins: api.Ins{Op: exit}}}}, []int{4}},
		{"x: ja x", api.Program{Stmts: []api.Stmt{{Labels: []string{"x"}, Ins: api.Ins{Op: ja}, Target: "x"}}}, []int{1}},
		{"x:\ny: z:\n\nw: ja z\r\n", api.Program{Stmts: []api.Stmt{{Labels: []string{"x", "y", "z", "w"}, Ins: api.Ins{Op: ja}, Target: "z"}}}, []int{4}},
		{"map m 4 8 16\n\nmap n 1 2 3 ; second\nldmap r1, n\nexit", api.Program{Maps: []api.Def{def("m", 4, 8, 16), def("n", 1, 2, 3)}, Stmts: []api.Stmt{{Ins: api.Ins{Op: ldmap, Dst: 1}, Map: "n"}, {Ins: api.Ins{Op: exit}}}}, []int{4, 5}},
		{"map x 0x40 0x100 0x400\nx: y: jeq r1, -0x5, x\nexit:\n\nlddw: exit # c: exit\n", api.Program{Maps: []api.Def{def("x", 64, 256, 1024)}, Stmts: []api.Stmt{{Labels: []string{"x", "y"}, Ins: api.Ins{Op: jeq, Dst: 1, Imm: -5}, Target: "x"}, {Labels: []string{"exit", "lddw"}, Ins: api.Ins{Op: exit}}}}, []int{2, 5}},
		{"jeq r1, r2, end\nmid: call update\n\tldxw r3, [r10-8]\nend:\nlast:\nja mid", api.Program{Stmts: []api.Stmt{
			{Ins: api.Ins{Op: jeq, Reg: true, Dst: 1, Src: 2}, Target: "end"}, {Labels: []string{"mid"}, Ins: api.Ins{Op: call, Imm: 2}}, {Ins: api.Ins{Op: 71, Dst: 3, Src: 10, Off: -8}}, {Labels: []string{"end", "last"}, Ins: api.Ins{Op: ja}, Target: "mid"},
		}}, []int{1, 2, 3, 6}},
		{"map map 1 1 1\nmap: exit: ldmap r1, map\nja map", api.Program{Maps: []api.Def{def("map", 1, 1, 1)}, Stmts: []api.Stmt{{Labels: []string{"map", "exit"}, Ins: api.Ins{Op: ldmap, Dst: 1}, Map: "map"}, {Ins: api.Ins{Op: ja}, Target: "map"}}}, []int{2, 3}},
	} {
		wantParse(t, c.text, c.want, c.lines, 0, api.OK)
		checkParse(t, c.text)
	}
}

// TestParseErrors: P10.2, for wrong texts, written out one by one.
func TestParseErrors(t *testing.T) {
	for _, c := range []struct {
		text string
		line int
		e    api.Errno
	}{
		{"ja x", 1, api.ErrUndefined}, {"x:", 1, api.ErrEnd}, // the chapter's examples
		{"", 0, api.ErrEnd}, {"\n", 1, api.ErrEnd}, {" ", 1, api.ErrEnd}, {"; exit", 1, api.ErrEnd}, {"\n\n\n", 3, api.ErrEnd}, {"\n\n\n ", 4, api.ErrEnd}, {"map m 1 1 1", 1, api.ErrEnd}, {"map m 1 1 1\n", 1, api.ErrEnd}, {"map m 1 1 1\n\nmap n 1 1 1\n\n", 4, api.ErrEnd},
		{"*", 1, api.ErrSyntax}, {"exit\n\nexit exit\n", 3, api.ErrSyntax}, {"exit\n1: exit", 2, api.ErrName}, {"foo\n*", 1, api.ErrOp}, {"*\nfoo", 1, api.ErrSyntax}, {"map m 0 1 1\nexit", 1, api.ErrMap}, {"map m x 1 1\nexit", 1, api.ErrNumber}, {"\nmap 1 1 1 1\nexit", 2, api.ErrName}, {"add64 r1, 4294967296", 1, api.ErrRange}, {"exit\nneg64 r11", 2, api.ErrRegister}, {"ja r1", 1, api.ErrName}, {"exit\rexit", 1, api.ErrSyntax},
		{"exit\nmap m 1 1 1", 2, api.ErrOrder}, {"x:\nmap m 1 1 1", 2, api.ErrOrder}, {"x: map m 1 1 1", 1, api.ErrOrder}, {"map m 1 1 1\nx: map n 1 1 1\nexit", 2, api.ErrOrder}, {"map m 1 1 1\nx: exit\n\nmap m 1 1 1\nmap m 1 1 1", 4, api.ErrOrder}, {"x: map m 0 1 1", 1, api.ErrMap}, {"exit\nmap m 1 1", 2, api.ErrSyntax}, {"exit\nmap m 1 1 1\nfoo", 2, api.ErrOrder}, {"exit\nfoo\nmap m 1 1 1", 2, api.ErrOp},
		{"exit\nx:", 2, api.ErrEnd}, {"exit\n\nx: y:\nz:\n\n", 3, api.ErrEnd}, {"\nx:\ny:", 2, api.ErrEnd}, {"x: exit\ny:\nz: exit\n\nv: w:\nu:", 5, api.ErrEnd}, {"x:\n*", 2, api.ErrSyntax}, {"x: exit\nx:", 2, api.ErrEnd}, {"ja z\nx:", 2, api.ErrEnd}, {"map m 1 1 1\nmap m 1 1 1\nx:", 3, api.ErrEnd}, {"mov64 r0, 5\nx: ; exit", 2, api.ErrEnd},
		{"map m 1 1 1\n\nmap n 1 1 1\nmap m 2 2 2\n\nexit", 4, api.ErrDuplicate}, {"\nmap m 1 1 1\n; c\nmap m 1 1 1", 4, api.ErrDuplicate}, {"map m 1 1 1\nmap m 1 1 1\nexit\nja x", 2, api.ErrDuplicate},
		{"x: exit\nx: exit", 2, api.ErrDuplicate}, {"x: x: exit", 1, api.ErrDuplicate}, {"exit\nx:\nx:\n\nexit", 5, api.ErrDuplicate}, {"x: exit\nx:\n\ny:\nexit\nexit", 5, api.ErrDuplicate}, {"map m 1 1 1\n\nx: exit\n\nx: exit", 5, api.ErrDuplicate},
		{"exit\n\nja x", 3, api.ErrUndefined}, {"map m 1 1 1\n\nldmap r1, m\n\nldmap r1, n\nexit", 5, api.ErrUndefined}, {"map m 1 1 1\n\n\nja m", 4, api.ErrUndefined}, {"x:\nldmap r1, x\nexit", 2, api.ErrUndefined}, {"x:\n\ny: ja z", 3, api.ErrUndefined},
		{"exit\n\nmov64 r10, 5\nexit", 3, api.ErrWrite}, {"map m 1 1 1\nldmap r10, m", 2, api.ErrWrite}, {"\nx:\nlddw r10, 5", 3, api.ErrWrite}, {"mov64 r10, 5\nja x", 2, api.ErrUndefined},
		{"mov64 r0, 5\n\n", 1, api.ErrEnd}, {"map m 1 1 1\n\nexit\n\nldmap r1, m\n; exit\n", 5, api.ErrEnd}, {"x:\ny:\njeq r1, 5, y\n\n", 3, api.ErrEnd}, {"\nx: call lookup", 2, api.ErrEnd},
	} {
		wantParse(t, c.text, api.Program{}, nil, c.line, c.e)
		checkParse(t, c.text)
	}
}

// TestParseAll: P10.2, for all texts of up to four lines out of some.
func TestParseAll(t *testing.T) {
	for _, l := range lists([]string{"exit", "x:", "y: ja x", "x: y: exit", "map m 1 1 1", "map n 1 2 3", "ldmap r1, m", "mov64 r10, 1", "", "foo", "y: map m 1 1 1", "ja y ; c"}, 4) {
		checkParse(t, strings.Join(l, "\n"))
		if t.Failed() {
			return
		}
	}
	for _, l := range lists([]string{"exit", "x:", "map m 1 1 1", "; c", "ja y", " y: x:"}, 4) {
		checkParse(t, strings.Join(l, "\n")+"\n")
		checkParse(t, strings.Join(l, "\r\n"))
		checkParse(t, "\n"+strings.Join(l, "\n")+"\n\n")
	}
}

// TestParseManyMaps: P10.2, for the line of the first map that is too much.
func TestParseManyMaps(t *testing.T) {
	var b strings.Builder
	for i := range 255 {
		b.WriteString("\nmap m" + strconv.Itoa(i) + " 1 1 1\n")
	}
	most := b.String()
	p, lines, line, e := prog.Parse(most + "exit")
	if len(p.Maps) != 255 || p.Maps[254].Name != "m254" || !slices.Equal(lines, []int{511}) || line != 0 || e != api.OK {
		t.Errorf("Parse with 255 maps = %v, %d, %v, with %d maps", lines, line, e, len(p.Maps))
	}
	for text, want := range map[string]struct {
		line int
		e    api.Errno
	}{
		most + "; c\nmap n 1 1 1\nexit": {512, api.ErrSize}, most + "map m0 1 1 1\n\nmap m0 1 1 1\nja x": {511, api.ErrSize}, "map m0 1 1 1" + most + "exit": {510, api.ErrSize}, "map m254 1 1 1\n" + most[strings.Index(most, "map m1 "):] + "exit": {508, api.ErrDuplicate},
		most + "map n 1 1 1\nx:": {512, api.ErrEnd}, most + "map n 1 1 1\nfoo": {512, api.ErrOp},
	} {
		wantParse(t, text, api.Program{}, nil, want.line, want.e)
		checkParse(t, text)
	}
}

// TestParseSpaces: P10.2, spaces, comments and the bases of numbers do not change a program, nor empty lines anything but the lines.
func TestParseSpaces(t *testing.T) {
	want := build("map m 4 8 16", "a: b: jeq r1, -5, b", "ldxw r2, [r10-8]", "lddw r3, 255", "ldmap r1, m", "c: exit")
	lines := []int{2, 3, 4, 5, 6}
	const text = "map m 4 8 16\na: b: jeq r1, -5, b\nldxw r2, [r10-8]\nlddw r3, 255\nldmap r1, m\nc: exit\n"
	for _, s := range []string{
		text, text[:len(text)-1], strings.ReplaceAll(text, "\n", " ; map: exit\n"), strings.ReplaceAll(text, "\n", "#\xff\n"), strings.ReplaceAll(text, "\n", "\r\n"), strings.ReplaceAll(text, " ", "\t "), strings.ReplaceAll(text, ", ", ","), strings.ReplaceAll(text, ": ", ":"),
		strings.NewReplacer(" 4", " 0x4", "-5", "-0x0005", "255", "0xFF", "-8]", " - 8 ]").Replace(text), strings.NewReplacer("-5", "4294967291", "-8", "+65528").Replace(text), text + "\n", text + " ;", text + "\n\n",
	} {
		wantParse(t, s, want, lines, 0, api.OK)
	}
	doubled := make([]int, len(lines))
	for i, x := range lines {
		doubled[i] = 2 * x
	}
	wantParse(t, "\n"+strings.ReplaceAll(text, "\n", "\n\n"), want, doubled, 0, api.OK)
	wantParse(t, strings.ReplaceAll(text, ": ", ":\n"), want, []int{4, 5, 6, 7, 9}, 0, api.OK)
}

// variants returns programs that differ from a correct program in one thing each.
func variants() []api.Program {
	var l []api.Program
	add := func(change func(p *api.Program)) { l = append(l, changed(change)) }
	for i := range correct().Maps {
		add(func(p *api.Program) { p.Maps[i].Name += "x" })
		add(func(p *api.Program) { p.Maps[i].Name = strings.ToUpper(p.Maps[i].Name) })
		add(func(p *api.Program) { p.Maps[i].Key++ })
		add(func(p *api.Program) { p.Maps[i].Value++ })
		add(func(p *api.Program) { p.Maps[i].Entries++ })
		add(func(p *api.Program) { p.Maps = slices.Delete(p.Maps, i, i+1) })
		add(func(p *api.Program) { p.Maps = slices.Insert(p.Maps, i, p.Maps[i]) })
	}
	for i, s := range correct().Stmts {
		add(func(p *api.Program) { p.Stmts[i].Ins.Op++ })
		add(func(p *api.Program) { p.Stmts[i].Ins.Reg = !p.Stmts[i].Ins.Reg })
		add(func(p *api.Program) { p.Stmts[i].Ins.Dst++ })
		add(func(p *api.Program) { p.Stmts[i].Ins.Src++ })
		add(func(p *api.Program) { p.Stmts[i].Ins.Off++ })
		add(func(p *api.Program) { p.Stmts[i].Ins.Imm++ })
		add(func(p *api.Program) { p.Stmts[i].Ins.Imm ^= math.MinInt64 })
		add(func(p *api.Program) { p.Stmts[i].Target += "x" })
		add(func(p *api.Program) { p.Stmts[i].Map += "x" })
		add(func(p *api.Program) { p.Stmts[i].Labels = append(p.Stmts[i].Labels, "x") })
		add(func(p *api.Program) { p.Stmts[i].Labels = append(p.Stmts[i].Labels, "") })
		add(func(p *api.Program) { p.Stmts = slices.Delete(p.Stmts, i, i+1) })
		add(func(p *api.Program) { p.Stmts = slices.Insert(p.Stmts, i, p.Stmts[i]) })
		for j := range s.Labels {
			add(func(p *api.Program) { p.Stmts[i].Labels[j] += "x" })
			add(func(p *api.Program) { p.Stmts[i].Labels = slices.Delete(p.Stmts[i].Labels, j, j+1) })
		}
		if len(s.Labels) > 1 {
			add(func(p *api.Program) { slices.Reverse(p.Stmts[i].Labels) })
		}
		if s.Target != "" {
			add(func(p *api.Program) { p.Stmts[i].Target, p.Stmts[i].Map = "", p.Stmts[i].Target })
		}
	}
	add(func(p *api.Program) { p.Maps[0], p.Maps[2] = p.Maps[2], p.Maps[0] })
	add(func(p *api.Program) { p.Stmts[0], p.Stmts[1] = p.Stmts[1], p.Stmts[0] })
	add(func(p *api.Program) { p.Stmts[0].Labels, p.Stmts[1].Labels = p.Stmts[1].Labels, p.Stmts[0].Labels })
	add(func(p *api.Program) { p.Stmts[0].Labels, p.Stmts[1].Labels = []string{"a"}, []string{"b"} })
	add(func(p *api.Program) { p.Stmts[0].Labels = []string{"ab"} })
	add(func(p *api.Program) { p.Stmts = p.Stmts[:16] })
	add(func(p *api.Program) { p.Maps = p.Maps[:2] })
	add(func(p *api.Program) { p.Maps = nil })
	add(func(p *api.Program) { p.Stmts = nil })
	return append(l, api.Program{})
}

func wantSame(t *testing.T, p, q api.Program, want bool) {
	t.Helper()
	before := show(p) + "\n" + show(q)
	if got := prog.Same(p, q); got != want {
		t.Errorf("Same = %v; want %v for\n%sand\n%s", got, want, show(p), show(q))
	}
	if after := show(p) + "\n" + show(q); after != before {
		t.Errorf("Same changes\n%sto\n%s", before, after)
	}
}

// TestSame: P10.3, for programs that are equal, and for programs that differ in one thing.
func TestSame(t *testing.T) {
	wantSame(t, correct(), correct(), true)
	wantSame(t, api.Program{}, api.Program{}, true)
	wantSame(t, api.Program{}, api.Program{Maps: []api.Def{}, Stmts: []api.Stmt{}}, true)
	wantSame(t, api.Program{Maps: make([]api.Def, 0, 5)}, api.Program{Stmts: make([]api.Stmt, 0, 5)}, true)
	wantSame(t, build("exit"), api.Program{Stmts: []api.Stmt{{Labels: []string{}, Ins: api.Ins{Op: exit}}}}, true)
	wantSame(t, api.Program{Stmts: []api.Stmt{{Labels: []string{""}}}}, api.Program{Stmts: []api.Stmt{{}}}, false)
	wantSame(t, build("x:exit"), build(" x :", "exit ; c"), true)
	wantSame(t, build("x: ja x"), build("y: ja y"), false)
	l := variants()
	for i, p := range l {
		wantSame(t, p, correct(), false)
		wantSame(t, correct(), p, false)
		for _, q := range l[:i] {
			wantSame(t, p, q, show(p) == show(q))
		}
		wantSame(t, p, prog.Clone(p), true)
	}
}

// TestClone: P10.3, a copy is the same, and shares no memory, not even behind the ends of slices.
func TestClone(t *testing.T) {
	for _, p := range append(variants(), correct()) {
		before := show(p)
		c := prog.Clone(p)
		if show(c) != before || show(p) != before {
			t.Fatalf("Clone of\n%sis\n%s", before, show(c))
		}
		spoil(c)
		if show(p) != before {
			t.Fatalf("a program changes with its copy:\n%sto\n%s", before, show(p))
		}
		c = prog.Clone(p)
		d := prog.Clone(p)
		spoil(p)
		if show(c) != before {
			t.Fatalf("a copy changes with its program:\n%sto\n%s", before, show(c))
		}
		spoil(c)
		if show(d) != before {
			t.Fatalf("a copy changes with another one:\n%sto\n%s", before, show(d))
		}
	}
}

// spoil changes all of a program, and what lies behind its slices.
func spoil(p api.Program) {
	for i := range p.Maps {
		p.Maps[i] = api.Def{Name: "spoilt", Key: -1}
	}
	for i := range p.Stmts {
		for j := range p.Stmts[i].Labels {
			p.Stmts[i].Labels[j] = "spoilt"
		}
		_ = append(p.Stmts[i].Labels, "spoilt")
		p.Stmts[i] = api.Stmt{Target: "spoilt"}
	}
	_ = append(p.Maps, api.Def{Name: "spoilt"})
	_ = append(p.Stmts, api.Stmt{Target: "spoilt"})
}

// TestLengths: rule 4, what lies behind the length of a slice is neither read nor written.
func TestLengths(t *testing.T) {
	whole, p := correct(), correct()
	labels := []string{"x", "y", "z"}
	p.Stmts[0].Labels = labels[:1]
	p.Maps, p.Stmts = p.Maps[:2], p.Stmts[:3]
	wantCheck(t, p, 2, api.ErrEnd)
	if got := prog.Labels(p); len(got) != 1 || got["x"] != 0 {
		t.Errorf("Labels reads behind slices: %v", got)
	}
	c := prog.Clone(p)
	if show(c) != show(p) || !prog.Same(c, p) {
		t.Errorf("Clone reads behind slices: %s", show(c))
	}
	spoil(c)
	if !slices.Equal(labels, []string{"x", "y", "z"}) || p.Maps[:3][2] != whole.Maps[2] || show(api.Program{Stmts: p.Stmts[:17][3:]}) != show(api.Program{Stmts: whole.Stmts[3:]}) {
		t.Error("something is written behind slices")
	}
}

// TestLabels: P10.4.
func TestLabels(t *testing.T) {
	for _, c := range []struct {
		p    api.Program
		want map[string]int
	}{
		{api.Program{}, nil}, {build("exit"), nil}, {build("map m 1 1 1", "ja x", "ldmap r1, n"), nil}, {build("x: exit"), map[string]int{"x": 0}}, {build("exit", "x: y: exit", "exit", "z: exit"), map[string]int{"x": 1, "y": 1, "z": 3}},
		{correct(), map[string]int{"a": 0, "b": 0, "c": 4, "d": 5, "e": 5, "f": 9, "g": 16}},
		{build("x: exit", "y: exit", "x: exit", "exit"), map[string]int{"x": 2, "y": 1}}, {build("x: x: exit", "y: exit", "y: x: exit"), map[string]int{"x": 2, "y": 2}}, {build("x: y: exit", "y: exit"), map[string]int{"x": 0, "y": 1}},
		{api.Program{Stmts: []api.Stmt{{Labels: []string{"", "r1"}}, {Labels: []string{"é", "1"}, Ins: api.Ins{Op: -1}}, {Labels: []string{"", "X"}}, {Labels: []string{"x", "\xff"}}}}, map[string]int{"": 2, "r1": 0, "é": 1, "1": 1, "X": 2, "x": 3, "\xff": 3}},
	} {
		before := show(c.p)
		got := prog.Labels(c.p)
		if len(got) != len(c.want) {
			t.Errorf("Labels of\n%s= %v; want %v", before, got, c.want)
		}
		for label, want := range c.want {
			if at, ok := got[label]; at != want || !ok {
				t.Errorf("Labels of\n%s= %v; want %v", before, got, c.want)
			}
		}
		clear(got)
		if again := prog.Labels(c.p); len(again) != len(c.want) || show(c.p) != before {
			t.Errorf("Labels = %v after the result was cleared; want %v", again, c.want)
		}
	}
}

// TestCorrect: P10.5, and the labels of programs that were read.
func TestCorrect(t *testing.T) {
	texts := []string{"exit", "map m 4 8 16\nmap n 1 1 1\na: b: ldmap r1, n\nc:\nd: jeq r1, 0, a\nja d"}
	for _, l := range lists([]string{"x: exit", "y: jset r1, r2, x", "z: w: ja y", "neg64 r1", "v:"}, 5) {
		texts = append(texts, strings.Join(l, "\n"))
	}
	found := 0
	for _, text := range texts {
		p, lines, line, e := prog.Parse(text)
		if e != api.OK {
			continue
		}
		found++
		wantCheck(t, p, 0, api.OK)
		if len(lines) != len(p.Stmts) || line != 0 || !slices.IsSorted(lines) {
			t.Errorf("Parse(%q) has the lines %v, %d", text, lines, line)
		}
		for label, at := range prog.Labels(p) {
			if !slices.Contains(p.Stmts[at].Labels, label) {
				t.Errorf("Labels has %d for %s of %q", at, label, text)
			}
		}
	}
	if found < 40 {
		t.Errorf("only %d texts have programs", found)
	}
}

// TestNewResults: no two results of Parse share memory, nor do slices of one result.
func TestNewResults(t *testing.T) {
	const text = "map m 1 1 1\na: b: c: exit\nd: exit\ne: f: g: h: i: exit\nexit"
	want := show(build(strings.Split(text, "\n")...))
	p, lines, _, _ := prog.Parse(text)
	q, others, _, _ := prog.Parse(text)
	for i := range p.Stmts {
		_ = append(p.Stmts[i].Labels, "spoilt")
	}
	if show(p) != want {
		t.Errorf("labels share memory: %s", show(p))
	}
	spoil(p)
	clear(lines)
	if show(q) != want || !slices.Equal(others, []int{2, 3, 4, 5}) {
		t.Errorf("results share memory: %v, %s", others, show(q))
	}
}

// TestLong: P1, for long programs that take too long if all statements are visited for each one.
func TestLong(t *testing.T) {
	const n = 1 << 16
	p := api.Program{}
	for i := range n {
		label := "l" + strconv.Itoa(i)
		p.Stmts = append(p.Stmts, api.Stmt{Labels: []string{label, "x" + label}, Ins: api.Ins{Op: ja}, Target: "xl" + strconv.Itoa(n-1-i)})
	}
	c := prog.Clone(p)
	if at, e := prog.Check(p); at != 0 || e != api.OK || !prog.Same(p, c) || len(prog.Labels(p)) != 2*n {
		t.Errorf("Check = %d, %v for a long program", at, e)
	}
	p.Stmts[n-1].Target = "y"
	if at, e := prog.Check(p); at != n-1 || e != api.ErrUndefined || prog.Same(p, c) {
		t.Errorf("Check = %d, %v for a long program with an undefined label", at, e)
	}
	p.Stmts[n-1].Labels[1] = "l0"
	if at, e := prog.Check(p); at != n-1 || e != api.ErrDuplicate || prog.Labels(p)["l0"] != n-1 {
		t.Errorf("Check = %d, %v for a long program with a repeated label", at, e)
	}
	if at, e := prog.Check(api.Program{Maps: make([]api.Def, n), Stmts: p.Stmts}); at != 0 || e != api.ErrName {
		t.Errorf("Check = %d, %v for many maps", at, e)
	}
}

// TestLongTexts: P1 and P10.2, for long texts.
func TestLongTexts(t *testing.T) {
	const n = 1 << 14
	var labels strings.Builder
	for i := range n {
		labels.WriteString("l" + strconv.Itoa(i) + ":\n")
	}
	for text, want := range map[string]struct {
		line int
		e    api.Errno
	}{
		labels.String(): {1, api.ErrEnd}, labels.String() + "exit": {0, api.OK}, labels.String() + "l0: exit": {n + 1, api.ErrDuplicate}, labels.String() + "ja x": {n + 1, api.ErrUndefined}, strings.Repeat("\n", 16*n): {16 * n, api.ErrEnd}, strings.Repeat(";\n", 16*n) + "exit": {0, api.OK}, strings.Repeat("exit\n", n): {0, api.OK}, strings.Repeat("exit\n", n) + "foo": {n + 1, api.ErrOp},
		strings.Repeat("x", 16*n): {1, api.ErrOp}, strings.Repeat("x:", n) + "exit": {1, api.ErrDuplicate}, strings.Repeat("map m 1 1 1\n", n) + "exit": {256, api.ErrSize}, strings.Repeat("ja x\n", n) + "x: exit": {0, api.OK},
	} {
		if _, _, line, e := prog.Parse(text); line != want.line || e != want.e {
			t.Errorf("Parse(%.40q…) = %d, %v; want %d, %v", text, line, e, want.line, want.e)
		}
	}
}

// TestConcurrent: the functions may be called concurrently (rule 6), and depend on their arguments only (rule 7).
func TestConcurrent(t *testing.T) {
	shared := correct()
	var group sync.WaitGroup
	for range 4 {
		group.Go(func() {
			for i, p := range variants() {
				checkCheck(t, p)
				checkCheck(t, shared)
				if prog.Same(p, shared) || !prog.Same(prog.Clone(shared), shared) || prog.Labels(shared)["g"] != 16 {
					t.Errorf("something is wrong in parallel for %d", i)
				}
			}
			checkParse(t, "map m 1 1 1\nx: ldmap r1, m\nja x")
			checkParse(t, "map m 1 1 1\nx: ldmap r1, m\nja y")
		})
	}
	group.Wait()
}

func FuzzParse(f *testing.F) {
	for _, s := range []string{"", "exit", "ja x", "x:", "map m 1 1 1\nmap m 1 1 1\nexit", "x: y:\nja y\r\n", "map m 64 256 1024\nldmap r1, m\nexit", "x: exit\nx: exit", "mov64 r10, 5\nexit", "exit\nmap m 1 1 1", "jeq r1, -5, x\n\nx: exit # é", "exit\n1: @"} {
		f.Add(s)
	}
	f.Fuzz(func(t *testing.T, s string) { checkParse(t, s) })
}
