package layout_test

import (
	"math"
	"slices"
	"sync"
	"testing"

	"slotcode/api"
	"slotcode/layout"
	"slotcode/prog"
	"slotcode/slot"
)

// Numbers of operations, as the table of chapter 3 has them, and two of none.
const (
	add64, ja, jeq, exit, lddw, ldmap = 0, 44, 45, 68, 84, 85

	operations = 86
	none, less = 86, -1
)

// extremes are the numbers that no index, slot or distance comes near, in part such that sums with them wrap around.
var extremes = []int{math.MinInt, math.MinInt + 1, math.MinInt + 2, math.MinInt32, math.MaxInt32, math.MaxInt - 2, math.MaxInt - 1, math.MaxInt}

// slotsOf returns how many slots an instruction takes.
func slotsOf(x api.Ins) int {
	switch {
	case x.Op < 0 || x.Op >= operations:
		return 0
	case x.Op == lddw || x.Op == ldmap:
		return 2
	}
	return 1
}

// start returns the slot at which an instruction starts; for the length of the list, the number of all slots.
func start(l []api.Ins, i int) int {
	if i == 0 {
		return 0
	}
	return start(l, i-1) + slotsOf(l[i-1])
}

// isIndex reports whether i is an index of l.
func isIndex(l []api.Ins, i int) bool { return i >= 0 && i < len(l) }

// at returns what At has to return.
func at(l []api.Ins, slot int) int {
	found := -1
	for i := len(l) - 1; i >= 0; i-- {
		if start(l, i) == slot {
			found = i
		}
	}
	return found
}

// distance returns what Distance has to return.
func distance(l []api.Ins, from, to int) (int, bool) {
	if !isIndex(l, from) || !isIndex(l, to) {
		return 0, false
	}
	if from < to {
		return start(l[from+1:to], to-from-1), true
	}
	return -start(l[to:from+1], from-to+1), true
}

// target returns what Target has to return.
func target(l []api.Ins, from, off int) (int, bool) {
	for to := range l {
		if d, ok := distance(l, from, to); ok && d == off {
			return to, true
		}
	}
	return 0, false
}

// references returns what References has to return.
func references(p api.Program) []api.Reloc {
	first := map[string]int{}
	for i := len(p.Maps) - 1; i >= 0; i-- {
		first[p.Maps[i].Name] = i
	}
	var l []api.Reloc
	slot := 0
	for _, s := range p.Stmts {
		if symbol, ok := first[s.Map]; ok && s.Ins.Op == ldmap {
			l = append(l, api.Reloc{Slot: slot, Symbol: symbol})
		}
		slot += slotsOf(s.Ins)
	}
	return l
}

// withOps returns instructions with operations.
func withOps(ops ...int) []api.Ins {
	var l []api.Ins
	for _, op := range ops {
		l = append(l, api.Ins{Op: op})
	}
	return l
}

// lists returns all lists of up to n of some elements.
func lists[T any](l []T, n int) [][]T {
	all := [][]T{nil}
	for from := 0; n > 0; n-- {
		end := len(all)
		for _, shorter := range all[from:end] {
			for _, x := range l {
				all = append(all, append(slices.Clone(shorter), x))
			}
		}
		from = end
	}
	return all
}

// around returns the numbers from a bit less than from to a bit more than to, and those that are far away.
func around(from, to int) []int {
	var l []int
	for x := from - 3; x <= to+3; x++ {
		l = append(l, x)
	}
	return append(l, extremes...)
}

// maps returns declarations with names.
func maps(names ...string) []api.Def {
	var l []api.Def
	for i, name := range names {
		l = append(l, api.Def{Name: name, Key: i + 1, Value: 8, Entries: 16})
	}
	return l
}

func wantStarts(t *testing.T, l []api.Ins, want []int, total int) {
	t.Helper()
	before := slices.Clone(l)
	if got, n := layout.Starts(l); !slices.Equal(got, want) || n != total {
		t.Errorf("Starts(%.1000v) = %.1000v, %d; want %.1000v, %d", l, got, n, want, total)
	}
	if !slices.Equal(l, before) {
		t.Errorf("Starts changes %.1000v to %.1000v", before, l)
	}
}

func wantAt(t *testing.T, l []api.Ins, slot, want int) {
	t.Helper()
	before := slices.Clone(l)
	if got := layout.At(l, slot); got != want {
		t.Errorf("At(%.1000v, %d) = %d; want %d", l, slot, got, want)
	}
	if !slices.Equal(l, before) {
		t.Errorf("At changes %.1000v to %.1000v", before, l)
	}
}

func wantDistance(t *testing.T, l []api.Ins, from, to, want int, wantOK bool) {
	t.Helper()
	before := slices.Clone(l)
	if got, ok := layout.Distance(l, from, to); got != want || ok != wantOK {
		t.Errorf("Distance(%.1000v, %d, %d) = %d, %t; want %d, %t", l, from, to, got, ok, want, wantOK)
	}
	if !slices.Equal(l, before) {
		t.Errorf("Distance changes %.1000v to %.1000v", before, l)
	}
}

func wantTarget(t *testing.T, l []api.Ins, from, off, want int, wantOK bool) {
	t.Helper()
	before := slices.Clone(l)
	if got, ok := layout.Target(l, from, off); got != want || ok != wantOK {
		t.Errorf("Target(%.1000v, %d, %d) = %d, %t; want %d, %t", l, from, off, got, ok, want, wantOK)
	}
	if !slices.Equal(l, before) {
		t.Errorf("Target changes %.1000v to %.1000v", before, l)
	}
}

func wantReferences(t *testing.T, p api.Program, want ...api.Reloc) {
	t.Helper()
	before := prog.Clone(p)
	if got := layout.References(p); !slices.Equal(got, want) {
		t.Errorf("References(%.1000v) = %.1000v; want %.1000v", p, got, want)
	}
	if !prog.Same(p, before) {
		t.Errorf("References changes %.1000v to %.1000v", before, p)
	}
}

// check compares all functions about instructions with the model.
func check(t *testing.T, l []api.Ins) {
	t.Helper()
	var starts []int
	for i := range l {
		starts = append(starts, start(l, i))
	}
	total := start(l, len(l))
	wantStarts(t, l, starts, total)
	for _, slot := range around(0, total) {
		wantAt(t, l, slot, at(l, slot))
	}
	for _, from := range around(0, len(l)) {
		for _, to := range around(0, len(l)) {
			want, ok := distance(l, from, to)
			wantDistance(t, l, from, to, want, ok)
		}
		for _, off := range around(-total, total) {
			want, ok := target(l, from, off)
			wantTarget(t, l, from, off, want, ok)
		}
	}
}

// TestExamples: P12.1, P12.3, the examples of the chapter.
func TestExamples(t *testing.T) {
	l := withOps(lddw, exit, exit)
	wantStarts(t, l, []int{0, 2, 3}, 4)
	wantDistance(t, l, 2, 0, -4, true)
}

// TestStarts: P12.1, with no instruction, with wide ones, and with ones whose Op is no operation at all places.
func TestStarts(t *testing.T) {
	for _, c := range []struct {
		ops    []int
		starts []int
		total  int
	}{
		{nil, nil, 0},
		{[]int{exit}, []int{0}, 1},
		{[]int{lddw}, []int{0}, 2},
		{[]int{ldmap}, []int{0}, 2},
		{[]int{none}, []int{0}, 0},
		{[]int{exit, exit, exit}, []int{0, 1, 2}, 3},
		{[]int{exit, lddw, ldmap, exit, lddw}, []int{0, 1, 3, 5, 6}, 8},
		{[]int{none, exit, less, less, lddw, none}, []int{0, 0, 1, 1, 1, 3}, 3},
		{[]int{none, less, math.MaxInt, math.MinInt}, []int{0, 0, 0, 0}, 0},
	} {
		wantStarts(t, withOps(c.ops...), c.starts, c.total)
	}
}

// TestStartsOperations: P12.1, each operation between others, with fields that the number of slots does not depend on.
func TestStartsOperations(t *testing.T) {
	for op := -3; op < operations+3; op++ {
		for _, x := range []api.Ins{{Op: op}, {Op: op, Reg: true, Dst: 11, Src: -1, Off: math.MaxInt, Imm: math.MinInt64}} {
			n := slotsOf(x)
			wantStarts(t, []api.Ins{x, x, {Op: exit}, x, {Op: lddw}}, []int{0, n, 2 * n, 2*n + 1, 3*n + 1}, 3*n+3)
		}
	}
}

// TestStartsBytes: P12.1, the slots are those that the instructions are encoded in.
func TestStartsBytes(t *testing.T) {
	for _, ops := range lists([]int{exit, add64, lddw, ldmap, ja}, 5) {
		b, _, e := slot.Join(withOps(ops...))
		if e != api.OK {
			t.Fatal(ops, e)
		}
		starts, total := layout.Starts(withOps(ops...))
		if len(b) != total*api.SlotSize {
			t.Errorf("Starts(%v) has %d slots; want %d bytes", ops, total, len(b))
		}
		for i, from := range starts {
			if x, _, e := slot.Decode(b[from*api.SlotSize:]); x.Op != ops[i] || e != api.OK {
				t.Errorf("Starts(%v)[%d] = %d, where %v, %v stands", ops, i, from, x, e)
			}
		}
	}
}

// TestAt: P12.2, the second slots of wide instructions, several instructions that start at one slot, and slots in front of all and behind all.
func TestAt(t *testing.T) {
	for _, c := range []struct {
		ops  []int
		want []int // of the slots from -1 on
	}{
		{nil, []int{-1, -1, -1}},
		{[]int{exit}, []int{-1, 0, -1, -1}},
		{[]int{lddw}, []int{-1, 0, -1, -1, -1}},
		{[]int{exit, lddw, exit, ldmap, exit}, []int{-1, 0, 1, -1, 2, 3, -1, 4, -1, -1}},
		{[]int{none, exit, none, none, lddw, exit}, []int{-1, 0, 2, -1, 5, -1, -1}},
		// The last one starts where the others end.
		{[]int{exit, none, less}, []int{-1, 0, 1, -1}},
		{[]int{none}, []int{-1, 0, -1}},
	} {
		l := withOps(c.ops...)
		for i, want := range c.want {
			wantAt(t, l, i-1, want)
		}
		for _, slot := range extremes {
			wantAt(t, l, slot, -1)
		}
	}
}

// TestDistance: P12.3, forwards and backwards over instructions of all lengths, of a jump to itself and to the next one, and indices of no instruction.
func TestDistance(t *testing.T) {
	l := withOps(ja, lddw, jeq, none, ldmap, exit)
	for from, row := range [][]int{
		{-1, 0, 2, 3, 3, 5},
		{-3, -2, 0, 1, 1, 3},
		{-4, -3, -1, 0, 0, 2},
		{-4, -3, -1, 0, 0, 2},
		{-6, -5, -3, -2, -2, 0},
		{-7, -6, -4, -3, -3, -1},
	} {
		for to, want := range row {
			wantDistance(t, l, from, to, want, true)
		}
		for _, wrong := range append([]int{-2, -1, 6, 7}, extremes...) {
			wantDistance(t, l, from, wrong, 0, false)
			wantDistance(t, l, wrong, from, 0, false)
			wantDistance(t, l, wrong, wrong, 0, false)
		}
	}
	wantDistance(t, nil, 0, 0, 0, false)
	wantDistance(t, withOps(lddw), 0, 0, -2, true)
}

// TestTarget: P12.4, distances to instructions, to the second slots of wide ones, to the slot behind all and far away, and indices of no instruction.
func TestTarget(t *testing.T) {
	const no = -1
	l := withOps(ja, lddw, jeq, ldmap, exit)
	for from, c := range []struct {
		first int // the distance of the slot in front of all
		to    []int
	}{
		{-2, []int{no, 0, 1, no, 2, 3, no, 4, no, no}},
		{-4, []int{no, 0, 1, no, 2, 3, no, 4, no, no}},
		{-5, []int{no, 0, 1, no, 2, 3, no, 4, no, no}},
		{-7, []int{no, 0, 1, no, 2, 3, no, 4, no, no}},
		{-8, []int{no, 0, 1, no, 2, 3, no, 4, no, no}},
	} {
		for i, to := range c.to {
			wantTarget(t, l, from, c.first+i, max(to, 0), to != no)
		}
		for _, off := range extremes {
			wantTarget(t, l, from, off, 0, false)
		}
	}
	for _, wrong := range append([]int{-2, -1, 5, 6}, extremes...) {
		for off := -10; off <= 10; off++ {
			wantTarget(t, l, wrong, off, 0, false)
		}
	}
	wantTarget(t, nil, 0, 0, 0, false)
}

// TestTargetNone: P12.4, the first one is meant where an instruction without slots starts together with others.
func TestTargetNone(t *testing.T) {
	l := withOps(ja, none, less, exit, none)
	wantTarget(t, l, 0, 0, 1, true)
	wantTarget(t, l, 1, 0, 1, true)
	wantTarget(t, l, 2, 0, 1, true)
	wantTarget(t, l, 2, -1, 0, true)
	wantTarget(t, l, 3, -1, 1, true)
	wantTarget(t, l, 3, 0, 4, true)
	wantTarget(t, l, 4, 0, 4, true)
	wantTarget(t, l, 4, 1, 0, false)
}

// TestSmall: P12.1 to P12.4, all lists of up to four and up to five instructions out of some, with all indices, slots and distances around them.
func TestSmall(t *testing.T) {
	for _, ops := range lists([]int{exit, lddw, none}, 4) {
		check(t, withOps(ops...))
	}
	for _, ops := range lists([]int{exit, ldmap}, 5) {
		check(t, withOps(ops...))
	}
}

// TestInverse: P12.7, between all pairs of instructions.
func TestInverse(t *testing.T) {
	for _, ops := range lists([]int{ja, lddw, ldmap}, 5) {
		l := withOps(ops...)
		for from := range l {
			for to := range l {
				off, ok := layout.Distance(l, from, to)
				if got, found := layout.Target(l, from, off); got != to || !ok || !found {
					t.Errorf("Target(%v, %d, %d) = %d, %t; want %d", ops, from, off, got, found, to)
				}
			}
			for off := -12; off <= 12; off++ {
				to, ok := layout.Target(l, from, off)
				if !ok {
					continue
				}
				if got, ok := layout.Distance(l, from, to); got != off || !ok {
					t.Errorf("Distance(%v, %d, %d) = %d, %t; want %d", ops, from, to, got, ok, off)
				}
			}
		}
	}
}

// TestCode: P12.5, all fields of the instructions are kept, whether they are correct or not, and nothing else of the statements matters.
func TestCode(t *testing.T) {
	want := []api.Ins{
		{Op: add64, Reg: true, Dst: 1, Src: 2},
		{Op: lddw, Dst: 3, Imm: math.MinInt64},
		{Op: none, Reg: true, Dst: -4, Src: math.MaxInt, Off: math.MinInt, Imm: 5},
		{},
		{Op: ldmap, Off: 6},
		{Op: add64, Reg: true, Dst: 1, Src: 2},
	}
	p := api.Program{Maps: maps("m", "n")}
	for i, x := range want {
		p.Stmts = append(p.Stmts, api.Stmt{Labels: []string{"a", "b"}[:i%3], Ins: x, Target: "abcdef"[i:], Map: "m"[:i%2]})
	}
	for n := range want {
		part := api.Program{Maps: p.Maps, Stmts: p.Stmts[:n]}
		before := prog.Clone(p)
		if got := layout.Code(part); !slices.Equal(got, want[:n]) {
			t.Errorf("Code(%v) = %v; want %v", part, got, want[:n])
		}
		if !prog.Same(p, before) {
			t.Errorf("Code changes %v to %v", before, p)
		}
	}
	if got := layout.Code(api.Program{Maps: maps("m")}); len(got) != 0 {
		t.Errorf("Code without statements = %v", got)
	}
}

// TestCodeParsed: P12.5 and P12.6, the instructions and the relocations of a text.
func TestCodeParsed(t *testing.T) {
	p, _, _, e := prog.Parse("map m 4 8 16\nmap n 1 1 1\na: ldmap r1, n\nlddw r2, 5\nldmap r3, m\nb: jeq r1, r2, a\nexit")
	if e != api.OK {
		t.Fatal(e)
	}
	want := []api.Ins{{Op: ldmap, Dst: 1}, {Op: lddw, Dst: 2, Imm: 5}, {Op: ldmap, Dst: 3}, {Op: jeq, Reg: true, Dst: 1, Src: 2}, {Op: exit}}
	if got := layout.Code(p); !slices.Equal(got, want) {
		t.Errorf("Code = %v; want %v", got, want)
	}
	wantReferences(t, p, api.Reloc{Slot: 0, Symbol: 1}, api.Reloc{Slot: 4, Symbol: 0})
}

// reference returns a statement that refers to a map.
func reference(name string) api.Stmt { return api.Stmt{Ins: api.Ins{Op: ldmap}, Map: name} }

// other returns a statement with an operation.
func other(op int) api.Stmt { return api.Stmt{Ins: api.Ins{Op: op}} }

// TestReferences: P12.6, the slots behind instructions of all lengths, several references to a map, maps with one name, names that are no names of maps, and forms that refer to none.
func TestReferences(t *testing.T) {
	for _, c := range []struct {
		maps  []api.Def
		stmts []api.Stmt
		want  []api.Reloc
	}{
		{nil, nil, nil},
		{maps("m"), nil, nil},
		{nil, []api.Stmt{reference("m"), reference("")}, nil},
		{maps("m"), []api.Stmt{reference("m")}, []api.Reloc{{}}},
		{maps("l", "m", "n"), []api.Stmt{reference("n"), reference("l"), reference("m"), reference("n")}, []api.Reloc{{Slot: 0, Symbol: 2}, {Slot: 2, Symbol: 0}, {Slot: 4, Symbol: 1}, {Slot: 6, Symbol: 2}}},
		{maps("m"), []api.Stmt{other(exit), other(lddw), other(none), reference("m"), other(less), reference("m")}, []api.Reloc{{Slot: 3}, {Slot: 5}}},
		// Those that refer to no map take their slots as well.
		{maps("m", "n"), []api.Stmt{reference("x"), reference("n"), reference("M"), reference("n"), reference("")}, []api.Reloc{{Slot: 2, Symbol: 1}, {Slot: 6, Symbol: 1}}},
		{maps("m", "n", "m", "n", "n"), []api.Stmt{reference("n"), reference("m")}, []api.Reloc{{Slot: 0, Symbol: 1}, {Slot: 2, Symbol: 0}}},
		// A name need not be an identifier.
		{maps("m", "", "r1", "a b", "\xff"), []api.Stmt{reference(""), reference("\xff"), reference("a b"), reference("r1"), reference("a")}, []api.Reloc{{Slot: 0, Symbol: 1}, {Slot: 2, Symbol: 4}, {Slot: 4, Symbol: 3}, {Slot: 6, Symbol: 2}}},
	} {
		wantReferences(t, api.Program{Maps: c.maps, Stmts: c.stmts}, c.want...)
	}
}

// TestReferencesForms: P12.6, the operation alone decides whether a statement refers to a map.
func TestReferencesForms(t *testing.T) {
	for op := -3; op < operations+3; op++ {
		for _, x := range []api.Ins{{Op: op}, {Op: op, Reg: true, Dst: 11, Src: -1, Off: 1, Imm: 254}} {
			s := api.Stmt{Labels: []string{"a", "a", ""}, Ins: x, Target: "t", Map: "m"}
			p := api.Program{Maps: maps("l", "m"), Stmts: []api.Stmt{s, s}}
			if op == ldmap {
				wantReferences(t, p, api.Reloc{Slot: 0, Symbol: 1}, api.Reloc{Slot: 2, Symbol: 1})
			} else {
				wantReferences(t, p)
			}
		}
	}
}

// TestReferencesSmall: P12.6, all programs with up to three maps and four statements out of some.
func TestReferencesSmall(t *testing.T) {
	stmts := lists([]api.Stmt{reference("m"), reference("n"), reference(""), other(lddw), other(exit), {Ins: api.Ins{Op: none}, Map: "m"}}, 4)
	for _, names := range lists([]string{"m", "n", ""}, 3) {
		for _, l := range stmts {
			p := api.Program{Maps: maps(names...), Stmts: l}
			wantReferences(t, p, references(p)...)
		}
	}
}

// TestLengths: rule 4, nothing behind the length of a slice is read or written.
func TestLengths(t *testing.T) {
	l := withOps(exit, lddw, exit, lddw)
	wantStarts(t, l[:2], []int{0, 1}, 3)
	wantAt(t, l[:2], 3, -1)
	wantDistance(t, l[:2], 0, 2, 0, false)
	wantDistance(t, l[:2], 2, 0, 0, false)
	wantTarget(t, l[:2], 0, 2, 0, false)
	wantTarget(t, l[:2], 2, -1, 0, false)
	p := api.Program{Maps: maps("m", "n"), Stmts: []api.Stmt{reference("m"), reference("n"), reference("m")}}
	part := api.Program{Maps: p.Maps[:1], Stmts: p.Stmts[:2]}
	wantReferences(t, part, api.Reloc{})
	if got := layout.Code(part); len(got) != 2 {
		t.Errorf("Code = %v", got)
	}
	wantReferences(t, p, api.Reloc{}, api.Reloc{Slot: 2, Symbol: 1}, api.Reloc{Slot: 4})
}

// TestKept: rule 4 and rule 7, results share no memory with arguments or with other results.
func TestKept(t *testing.T) {
	l := withOps(exit, lddw, exit)
	starts, _ := layout.Starts(l)
	for i := range starts {
		starts[i] = -1
	}
	wantStarts(t, l, []int{0, 1, 3}, 4)
	p := api.Program{Maps: maps("m"), Stmts: []api.Stmt{reference("m"), reference("m")}}
	relocs := layout.References(p)
	for i := range relocs {
		relocs[i] = api.Reloc{Slot: -1, Symbol: -1}
	}
	code := layout.Code(p)
	for i := range code {
		code[i] = api.Ins{Op: exit}
	}
	wantReferences(t, p, api.Reloc{}, api.Reloc{Slot: 2})
	if got := layout.Code(p); !slices.Equal(got, withOps(ldmap, ldmap)) {
		t.Errorf("Code = %v", got)
	}
}

// TestLong: P1, P12.1 to P12.6, many instructions and maps, more than a program may have.
func TestLong(t *testing.T) {
	const n = 200000
	var l []api.Ins
	var starts []int
	p := api.Program{Maps: maps(slices.Repeat([]string{"l"}, 300)...)}
	p.Maps = append(p.Maps, maps("m")...)
	var relocs []api.Reloc
	for i := range n {
		starts = append(starts, 2*i)
		l = append(l, api.Ins{Op: ldmap, Dst: i})
		p.Stmts = append(p.Stmts, api.Stmt{Ins: l[i], Map: "m"})
		relocs = append(relocs, api.Reloc{Slot: 2 * i, Symbol: 300})
	}
	wantStarts(t, l, starts, 2*n)
	wantAt(t, l, 2*n-2, n-1)
	wantAt(t, l, 2*n-1, -1)
	wantAt(t, l, 2*n, -1)
	wantDistance(t, l, 0, n-1, 2*n-4, true)
	wantDistance(t, l, n-1, 0, -2*n, true)
	wantTarget(t, l, 0, 2*n-4, n-1, true)
	wantTarget(t, l, n-1, -2*n, 0, true)
	wantTarget(t, l, n-1, 0, 0, false)
	if got := layout.Code(p); !slices.Equal(got, l) {
		t.Error("Code of a long program")
	}
	wantReferences(t, p, relocs...)
}

// TestConcurrent: rule 6, functions may be called concurrently.
func TestConcurrent(t *testing.T) {
	l := withOps(ja, lddw, jeq, none, ldmap, exit)
	p := api.Program{Maps: maps("l", "m"), Stmts: []api.Stmt{other(lddw), reference("m"), reference("l")}}
	var group sync.WaitGroup
	for range 8 {
		group.Go(func() {
			for range 200 {
				wantStarts(t, l, []int{0, 1, 3, 4, 4, 6}, 7)
				wantAt(t, l, 4, 3)
				wantDistance(t, l, 5, 1, -6, true)
				wantTarget(t, l, 5, -6, 1, true)
				wantReferences(t, p, api.Reloc{Slot: 2, Symbol: 1}, api.Reloc{Slot: 4})
			}
		})
	}
	group.Wait()
}

// FuzzLayout: P12.1 to P12.4, P12.6 and P12.7, compares all functions with the model.
func FuzzLayout(f *testing.F) {
	f.Add([]byte{44, 84, 45, 86, 85, 68}, "mn", "nm.mnm", 5, 1, -6)
	f.Add([]byte{85, 85, 85}, "aba", "abc", 0, 2, 2)
	f.Add([]byte{}, "", "", 0, 0, 0)
	f.Add([]byte{255, 68, 255}, "a", "", 2, 0, math.MaxInt)
	f.Fuzz(func(t *testing.T, ops []byte, names, refers string, from, to, off int) {
		if len(ops) > 200 {
			return // the model takes time
		}
		var p api.Program
		for _, c := range []byte(names) {
			p.Maps = append(p.Maps, api.Def{Name: string(rune(c))})
		}
		for i, op := range ops {
			s := other(int(int8(op)))
			if i < len(refers) {
				s.Map = string(rune(refers[i]))
			}
			p.Stmts = append(p.Stmts, s)
		}
		l := layout.Code(p)
		if len(l) != len(ops) {
			t.Fatalf("Code(%v) = %v", p, l)
		}
		wantReferences(t, p, references(p)...)
		for _, n := range []int{math.MaxInt, len(l) + 1} {
			from, to, off := from%n, to%n, off%n
			wantAt(t, l, off, at(l, off))
			want, ok := distance(l, from, to)
			wantDistance(t, l, from, to, want, ok)
			if ok {
				wantTarget(t, l, from, want, at(l, start(l, to)), true)
			}
			want, ok = target(l, from, off)
			wantTarget(t, l, from, off, want, ok)
		}
	})
}
