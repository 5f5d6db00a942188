package insn_test

import (
	"math"
	"strings"
	"sync"
	"testing"

	"slotcode/api"
	"slotcode/insn"
)

// form is a row of the chapter's table: for each field yes, no, reg (if Reg) or imm (unless Reg), and the least and the
// greatest immediate; and what P4.3 to P4.5 say about the form.
type form struct {
	name               string
	number             int
	dst, src, off, imm string
	least, greatest    int64
	slots              int
	writes             string // dst, r0 or none
	ends, jumps        bool
}

var forms = []form{
	{"Alu", api.Alu, "yes", "reg", "no", "imm", math.MinInt32, math.MaxInt32, 1, "dst", false, false},
	{"Unary", api.Unary, "yes", "no", "no", "no", 0, 0, 1, "dst", false, false},
	{"Extend", api.Extend, "yes", "yes", "no", "no", 0, 0, 1, "dst", false, false},
	{"Go", api.Go, "no", "no", "yes", "no", 0, 0, 1, "none", true, true},
	{"Jump", api.Jump, "yes", "reg", "yes", "imm", math.MinInt32, math.MaxInt32, 1, "none", false, true},
	{"Call", api.Call, "no", "no", "no", "yes", 1, 3, 1, "r0", false, false},
	{"Exit", api.Exit, "no", "no", "no", "no", 0, 0, 1, "none", true, false},
	{"Load", api.Load, "yes", "yes", "yes", "no", 0, 0, 1, "dst", false, false},
	{"Store", api.Store, "yes", "no", "yes", "yes", math.MinInt32, math.MaxInt32, 1, "none", false, false},
	{"StoreReg", api.StoreReg, "yes", "yes", "yes", "no", 0, 0, 1, "none", false, false},
	{"Wide", api.Wide, "yes", "no", "no", "yes", math.MinInt64, math.MaxInt64, 2, "dst", false, false},
	{"MapRef", api.MapRef, "yes", "no", "no", "yes", 0, 254, 2, "dst", false, false},
}

// groups are the last numbers of the operations with a form, as the table of chapter 3 has them.
var groups = []struct{ last, form int }{
	{27, api.Alu}, {29, api.Unary}, {34, api.Extend}, {43, api.Unary}, {44, api.Go}, {66, api.Jump}, {67, api.Call}, {68, api.Exit},
	{75, api.Load}, {79, api.Store}, {83, api.StoreReg}, {84, api.Wide}, {85, api.MapRef},
}

// absent are numbers of no operation, among them ones that are equal to numbers of operations in their last bits.
var absent = []int{-1, 86, 87, -2, -86, 100, 127, 128, 255, 256, 256 + 44, 1 << 16, 1<<16 + 68, 1 << 32, 1<<32 + 67, math.MaxInt32, math.MinInt32, math.MaxInt, math.MinInt}

// Values of fields: the bounds of all ranges, their neighbours, and numbers that are in a range in their last bits only.
var (
	registers = []int{0, 1, 5, 9, 10, 11, 12, 15, 16, -1, -10, 255, 256, 256 + 1, 1 << 16, 1 << 32, 1<<32 + 1, math.MaxInt32, math.MinInt32, math.MaxInt, math.MinInt}
	offsets   = []int{0, 1, -1, 10, 127, -128, 255, 32766, 32767, 32768, 32769, -32767, -32768, -32769, 65535, 65536, -65536, 1 << 32, 1<<32 + 1, -1 << 32, math.MaxInt32, math.MinInt32, math.MaxInt, math.MinInt}
	numbers   = []int64{0, 1, 2, 3, 4, 5, -1, -2, -3, 128, 253, 254, 255, 256, 257, 32767, 32768, -32768, -32769, 65535, 65536, math.MaxInt32 - 1, math.MaxInt32, math.MaxInt32 + 1, math.MinInt32 + 1, math.MinInt32, math.MinInt32 - 1, math.MaxUint32, math.MaxUint32 + 1, math.MaxUint32 + 2, -1 << 32, 1<<40 + 3, math.MaxInt64, math.MinInt64 + 1, math.MinInt64}
)

// formOf returns the row of the form of an operation, or nothing for numbers of no operation.
func formOf(op int) *form {
	if op < 0 {
		return nil
	}
	for _, g := range groups {
		if op <= g.last {
			return &forms[g.form]
		}
	}
	return nil
}

func (f *form) takesRegister() bool { return f.name == "Alu" || f.name == "Jump" }

// used says whether the word of the table means that the field is used.
func used(word string, reg bool) bool {
	return word == "yes" || word == "reg" && reg || word == "imm" && !reg
}

// uses is P4.1 word by word.
func uses(op int, reg bool) insn.Fields {
	f := formOf(op)
	if f == nil {
		return insn.Fields{}
	}
	return insn.Fields{Dst: used(f.dst, reg), Src: used(f.src, reg), Off: used(f.off, reg), Imm: used(f.imm, reg)}
}

// check is P4.2 word by word.
func check(x api.Ins) api.Errno {
	f := formOf(x.Op)
	if f == nil {
		return api.ErrOp
	}
	u := uses(x.Op, x.Reg)
	if x.Reg && !f.takesRegister() {
		return api.ErrField
	}
	if !u.Dst && x.Dst != 0 || !u.Src && x.Src != 0 || !u.Off && x.Off != 0 || !u.Imm && x.Imm != 0 {
		return api.ErrField
	}
	if u.Dst && (x.Dst < 0 || x.Dst > 10) || u.Src && (x.Src < 0 || x.Src > 10) {
		return api.ErrRegister
	}
	if u.Off && (x.Off < -32768 || x.Off > 32767) || u.Imm && (x.Imm < f.least || x.Imm > f.greatest) {
		return api.ErrRange
	}
	return api.OK
}

func checkCheck(t *testing.T, x api.Ins) {
	t.Helper()
	if got, want := insn.Check(x), check(x); got != want {
		t.Errorf("Check(%+v) = %v; want %v", x, got, want)
	}
}

// each calls a function with all numbers of operations and some others, and with both values of Reg.
func each(do func(op int, reg bool)) {
	for op := range 86 {
		do(op, false)
		do(op, true)
	}
	for _, op := range absent {
		do(op, false)
		do(op, true)
	}
}

// TestTable checks the tables of the tests: the forms in the order of their numbers.
func TestTable(t *testing.T) {
	if len(forms) != 12 || groups[len(groups)-1].last != 85 {
		t.Fatal("the table of the test is wrong")
	}
	for i, f := range forms {
		if f.number != i {
			t.Errorf("the form %s has the number %d", f.name, f.number)
		}
	}
}

// TestUsesExamples: P4.1, for an operation of each form, written out one by one.
func TestUsesExamples(t *testing.T) {
	for _, c := range []struct {
		op   int
		reg  bool
		want string // the fields that are used
	}{
		{0, false, "Dst Imm"}, {0, true, "Dst Src"}, {10, false, "Dst Imm"}, {27, true, "Dst Src"}, {27, false, "Dst Imm"},
		{28, false, "Dst"}, {28, true, "Dst"}, {35, false, "Dst"}, {43, true, "Dst"}, {30, false, "Dst Src"}, {34, true, "Dst Src"},
		{44, false, "Off"}, {44, true, "Off"}, {45, false, "Dst Off Imm"}, {45, true, "Dst Src Off"}, {66, false, "Dst Off Imm"}, {66, true, "Dst Src Off"},
		{67, false, "Imm"}, {67, true, "Imm"}, {68, false, ""}, {68, true, ""},
		{69, false, "Dst Src Off"}, {75, true, "Dst Src Off"}, {76, false, "Dst Off Imm"}, {79, true, "Dst Off Imm"}, {80, false, "Dst Src Off"}, {83, true, "Dst Src Off"},
		{84, false, "Dst Imm"}, {84, true, "Dst Imm"}, {85, false, "Dst Imm"}, {85, true, "Dst Imm"},
		{-1, false, ""}, {-1, true, ""}, {86, false, ""}, {86, true, ""}, {math.MaxInt, true, ""}, {math.MinInt, false, ""},
	} {
		f := insn.Uses(c.op, c.reg)
		var l []string
		for _, x := range []struct {
			name string
			used bool
		}{{"Dst", f.Dst}, {"Src", f.Src}, {"Off", f.Off}, {"Imm", f.Imm}} {
			if x.used {
				l = append(l, x.name)
			}
		}
		if got := strings.Join(l, " "); got != c.want {
			t.Errorf("Uses(%d, %v) = %q; want %q", c.op, c.reg, got, c.want)
		}
	}
}

// TestUses: P4.1, for all operations, and for numbers of none.
func TestUses(t *testing.T) {
	each(func(op int, reg bool) {
		if got, want := insn.Uses(op, reg), uses(op, reg); got != want {
			t.Errorf("Uses(%d, %v) = %+v; want %+v", op, reg, got, want)
		}
	})
}

// TestCheckExamples: P4.2, for the chapter's examples and others like them.
func TestCheckExamples(t *testing.T) {
	for _, c := range []struct {
		x    api.Ins
		want api.Errno
	}{
		{api.Ins{Op: 0, Reg: true, Dst: 1, Src: 2}, api.OK}, {api.Ins{Op: 0, Reg: true, Dst: 1, Src: 2, Imm: 5}, api.ErrField}, {api.Ins{Op: 0, Reg: true, Dst: 1, Src: 11}, api.ErrRegister},
		{api.Ins{}, api.OK}, {api.Ins{Op: 0, Dst: 10, Imm: -5}, api.OK}, {api.Ins{Op: 0, Dst: 1, Src: 2}, api.ErrField}, {api.Ins{Op: 0, Dst: 1, Off: 1}, api.ErrField}, {api.Ins{Op: 0, Dst: 11}, api.ErrRegister}, {api.Ins{Op: 0, Dst: -1}, api.ErrRegister},
		{api.Ins{Op: 0, Imm: math.MaxInt32}, api.OK}, {api.Ins{Op: 0, Imm: math.MaxInt32 + 1}, api.ErrRange}, {api.Ins{Op: 0, Imm: math.MinInt32}, api.OK}, {api.Ins{Op: 0, Imm: math.MinInt32 - 1}, api.ErrRange}, {api.Ins{Op: 0, Imm: math.MaxUint32}, api.ErrRange},
		{api.Ins{Op: 14, Reg: true, Src: 10}, api.OK}, {api.Ins{Op: 14, Reg: true, Src: -1}, api.ErrRegister}, {api.Ins{Op: 12, Off: 1}, api.ErrField}, {api.Ins{Op: 12, Reg: true, Off: 1}, api.ErrField},
		{api.Ins{Op: 28, Dst: 10}, api.OK}, {api.Ins{Op: 28, Src: 1}, api.ErrField}, {api.Ins{Op: 28, Reg: true}, api.ErrField}, {api.Ins{Op: 35, Imm: 16}, api.ErrField}, {api.Ins{Op: 43, Dst: 11}, api.ErrRegister},
		{api.Ins{Op: 30, Dst: 1, Src: 2}, api.OK}, {api.Ins{Op: 30, Dst: 1, Src: 2, Reg: true}, api.ErrField}, {api.Ins{Op: 30, Off: 8}, api.ErrField}, {api.Ins{Op: 34, Src: 11}, api.ErrRegister}, {api.Ins{Op: 34, Imm: 1}, api.ErrField},
		{api.Ins{Op: 44, Off: -32768}, api.OK}, {api.Ins{Op: 44, Off: 32767}, api.OK}, {api.Ins{Op: 44, Off: 32768}, api.ErrRange}, {api.Ins{Op: 44, Off: -32769}, api.ErrRange}, {api.Ins{Op: 44, Off: 65535}, api.ErrRange}, {api.Ins{Op: 44, Dst: 1}, api.ErrField}, {api.Ins{Op: 44, Imm: 1}, api.ErrField},
		{api.Ins{Op: 45, Dst: 1, Off: 5, Imm: 7}, api.OK}, {api.Ins{Op: 45, Reg: true, Dst: 1, Src: 10, Off: 5}, api.OK}, {api.Ins{Op: 45, Reg: true, Off: 32768}, api.ErrRange}, {api.Ins{Op: 45, Imm: 1 << 31}, api.ErrRange}, {api.Ins{Op: 66, Reg: true, Imm: 1}, api.ErrField}, {api.Ins{Op: 66, Src: 1}, api.ErrField},
		{api.Ins{Op: 67, Imm: 1}, api.OK}, {api.Ins{Op: 67, Imm: 3}, api.OK}, {api.Ins{Op: 67}, api.ErrRange}, {api.Ins{Op: 67, Imm: 4}, api.ErrRange}, {api.Ins{Op: 67, Imm: -1}, api.ErrRange}, {api.Ins{Op: 67, Imm: 1, Dst: 1}, api.ErrField}, {api.Ins{Op: 67, Imm: 1, Reg: true}, api.ErrField}, {api.Ins{Op: 67, Imm: 1<<32 + 1}, api.ErrRange},
		{api.Ins{Op: 68}, api.OK}, {api.Ins{Op: 68, Dst: 1}, api.ErrField}, {api.Ins{Op: 68, Src: -1}, api.ErrField}, {api.Ins{Op: 68, Off: 1}, api.ErrField}, {api.Ins{Op: 68, Imm: 1}, api.ErrField}, {api.Ins{Op: 68, Reg: true}, api.ErrField},
		{api.Ins{Op: 69, Dst: 1, Src: 10, Off: -32768}, api.OK}, {api.Ins{Op: 69, Off: -32769}, api.ErrRange}, {api.Ins{Op: 75, Imm: 1}, api.ErrField},
		{api.Ins{Op: 76, Dst: 10, Off: 32767, Imm: math.MinInt32}, api.OK}, {api.Ins{Op: 76, Src: 1}, api.ErrField}, {api.Ins{Op: 76, Imm: 256}, api.OK}, {api.Ins{Op: 79, Imm: 1 << 31}, api.ErrRange},
		{api.Ins{Op: 80, Dst: 10, Src: 1, Off: -1}, api.OK}, {api.Ins{Op: 80, Imm: 1}, api.ErrField}, {api.Ins{Op: 83, Src: 11}, api.ErrRegister},
		{api.Ins{Op: 84, Imm: math.MaxInt64}, api.OK}, {api.Ins{Op: 84, Dst: 10, Imm: math.MinInt64}, api.OK}, {api.Ins{Op: 84, Src: 1}, api.ErrField}, {api.Ins{Op: 84, Dst: 11}, api.ErrRegister},
		{api.Ins{Op: 85, Imm: 0}, api.OK}, {api.Ins{Op: 85, Imm: 254}, api.OK}, {api.Ins{Op: 85, Imm: 255}, api.ErrRange}, {api.Ins{Op: 85, Imm: -1}, api.ErrRange}, {api.Ins{Op: 85, Src: 1}, api.ErrField}, {api.Ins{Op: 85, Imm: 1 << 32}, api.ErrRange},
		{api.Ins{Op: -1}, api.ErrOp}, {api.Ins{Op: 86}, api.ErrOp}, {api.Ins{Op: math.MaxInt}, api.ErrOp}, {api.Ins{Op: math.MinInt}, api.ErrOp},
	} {
		if got := insn.Check(c.x); got != c.want {
			t.Errorf("Check(%+v) = %v; want %v", c.x, got, c.want)
		}
	}
}

// TestCheckOrder: P4.2, for instructions to which several errors apply.
func TestCheckOrder(t *testing.T) {
	for _, c := range []struct {
		x    api.Ins
		want api.Errno
	}{
		{api.Ins{Op: 86, Reg: true, Dst: 11, Src: 11, Off: 1 << 20, Imm: 1 << 40}, api.ErrOp}, {api.Ins{Op: -1, Imm: 1}, api.ErrOp},
		{api.Ins{Op: 0, Reg: true, Dst: 11, Imm: 1}, api.ErrField}, {api.Ins{Op: 0, Dst: 11, Src: 11}, api.ErrField}, {api.Ins{Op: 0, Dst: 11, Off: 1}, api.ErrField}, {api.Ins{Op: 0, Off: 1, Imm: 1 << 40}, api.ErrField},
		{api.Ins{Op: 69, Reg: true, Dst: 11, Off: 1 << 20}, api.ErrField}, {api.Ins{Op: 69, Src: 11, Off: 1 << 20, Imm: 1}, api.ErrField}, {api.Ins{Op: 67, Src: 1, Imm: 4}, api.ErrField}, {api.Ins{Op: 44, Off: 1 << 20, Imm: 1}, api.ErrField},
		{api.Ins{Op: 0, Dst: 11, Imm: 1 << 40}, api.ErrRegister}, {api.Ins{Op: 45, Dst: -1, Off: 1 << 20, Imm: 1 << 40}, api.ErrRegister}, {api.Ins{Op: 45, Reg: true, Src: 11, Off: 1 << 20}, api.ErrRegister}, {api.Ins{Op: 76, Dst: 11, Off: 1 << 20}, api.ErrRegister}, {api.Ins{Op: 85, Dst: 11, Imm: 255}, api.ErrRegister},
		{api.Ins{Op: 45, Off: 1 << 20, Imm: 1 << 40}, api.ErrRange}, {api.Ins{Op: 76, Off: 1 << 20}, api.ErrRange}, {api.Ins{Op: 76, Imm: 1 << 40}, api.ErrRange},
	} {
		if got := insn.Check(c.x); got != c.want {
			t.Errorf("Check(%+v) = %v; want %v", c.x, got, c.want)
		}
	}
}

// TestCheckPairs: P4.2, for all operations with all pairs of values of two fields.
func TestCheckPairs(t *testing.T) {
	each(func(op int, reg bool) {
		for _, dst := range registers {
			for _, src := range registers {
				checkCheck(t, api.Ins{Op: op, Reg: reg, Dst: dst, Src: src})
				checkCheck(t, api.Ins{Op: op, Reg: reg, Dst: dst, Src: src, Imm: 1})
			}
			for _, off := range offsets {
				checkCheck(t, api.Ins{Op: op, Reg: reg, Dst: dst, Off: off})
				checkCheck(t, api.Ins{Op: op, Reg: reg, Src: dst, Off: off})
			}
			for _, imm := range numbers {
				checkCheck(t, api.Ins{Op: op, Reg: reg, Dst: dst, Imm: imm})
				checkCheck(t, api.Ins{Op: op, Reg: reg, Src: dst, Imm: imm})
			}
		}
		for _, off := range offsets {
			for _, imm := range numbers {
				checkCheck(t, api.Ins{Op: op, Reg: reg, Off: off, Imm: imm})
			}
		}
	})
}

// TestCheckFields: P4.2, for an operation of each form with few values of all fields at a time.
func TestCheckFields(t *testing.T) {
	for _, op := range []int{0, 27, 28, 34, 43, 44, 45, 66, 67, 68, 75, 79, 83, 84, 85, 86, -1} {
		for _, reg := range []bool{false, true} {
			for _, dst := range []int{0, 10, 11, -1} {
				for _, src := range []int{0, 10, 11, -1} {
					for _, off := range []int{0, 1, 32768, -32769} {
						for _, imm := range []int64{0, 1, 255, -1, 1 << 31, math.MinInt64} {
							checkCheck(t, api.Ins{Op: op, Reg: reg, Dst: dst, Src: src, Off: off, Imm: imm})
						}
					}
				}
			}
		}
	}
}

// TestRanges: P4.2, for all numbers around the ranges of each form.
func TestRanges(t *testing.T) {
	for op := range 86 {
		for n := -300; n <= 300; n++ {
			checkCheck(t, api.Ins{Op: op, Dst: n, Imm: 1})
			checkCheck(t, api.Ins{Op: op, Src: n})
			checkCheck(t, api.Ins{Op: op, Reg: true, Src: n})
			checkCheck(t, api.Ins{Op: op, Imm: int64(n)})
			checkCheck(t, api.Ins{Op: op, Off: 32768 + n, Imm: 1})
			checkCheck(t, api.Ins{Op: op, Off: -32768 + n})
			checkCheck(t, api.Ins{Op: op, Imm: 1<<31 + int64(n)})
			checkCheck(t, api.Ins{Op: op, Imm: -1<<31 + int64(n)})
		}
	}
}

// TestSlots: P4.3.
func TestSlots(t *testing.T) {
	for op, want := range map[int]int{0: 1, 44: 1, 67: 1, 68: 1, 83: 1, 84: 2, 85: 2, 86: 0, -1: 0} {
		if got := insn.Slots(op); got != want {
			t.Errorf("Slots(%d) = %d; want %d", op, got, want)
		}
	}
	each(func(op int, _ bool) {
		want := 0
		if f := formOf(op); f != nil {
			want = f.slots
		}
		if got := insn.Slots(op); got != want {
			t.Errorf("Slots(%d) = %d; want %d", op, got, want)
		}
	})
}

// TestWritesExamples: P4.4, written out one by one.
func TestWritesExamples(t *testing.T) {
	for _, c := range []struct {
		x    api.Ins
		want int
	}{
		{api.Ins{Op: 0, Dst: 7, Imm: 1}, 7}, {api.Ins{Op: 0, Reg: true, Dst: 3, Src: 4}, 3}, {api.Ins{Op: 10, Dst: 10}, 10}, {api.Ins{Op: 0}, 0},
		{api.Ins{Op: 28, Dst: 2}, 2}, {api.Ins{Op: 43, Dst: 9}, 9}, {api.Ins{Op: 30, Dst: 1, Src: 2}, 1}, {api.Ins{Op: 69, Dst: 5, Src: 6, Off: 8}, 5}, {api.Ins{Op: 84, Dst: 8, Imm: 1}, 8}, {api.Ins{Op: 85, Dst: 4, Imm: 1}, 4},
		{api.Ins{Op: 67, Imm: 2}, 0}, {api.Ins{Op: 67, Dst: 5, Imm: 1}, 0},
		{api.Ins{Op: 44, Off: 1}, -1}, {api.Ins{Op: 45, Dst: 3}, -1}, {api.Ins{Op: 68}, -1}, {api.Ins{Op: 76, Dst: 3}, -1}, {api.Ins{Op: 80, Dst: 3, Src: 4}, -1},
		{api.Ins{Op: -1, Dst: 3}, -1}, {api.Ins{Op: 86, Dst: 3}, -1},
	} {
		if got := insn.Writes(c.x); got != c.want {
			t.Errorf("Writes(%+v) = %d; want %d", c.x, got, c.want)
		}
	}
}

// TestWrites: P4.4, also for instructions that are not correct, whose Dst may be any number.
func TestWrites(t *testing.T) {
	each(func(op int, reg bool) {
		for _, dst := range registers {
			x := api.Ins{Op: op, Reg: reg, Dst: dst, Src: 6, Off: 7, Imm: 8}
			want := -1
			if f := formOf(op); f != nil && f.writes == "dst" {
				want = dst
			} else if f != nil && f.writes == "r0" {
				want = 0
			}
			if got := insn.Writes(x); got != want {
				t.Errorf("Writes(%+v) = %d; want %d", x, got, want)
			}
		}
	})
}

// TestEndsAndJumps: P4.5. No other field than Op matters.
func TestEndsAndJumps(t *testing.T) {
	each(func(op int, reg bool) {
		wantEnds := op == 44 || op == 68
		wantJumps := 44 <= op && op <= 66
		if f := formOf(op); f != nil && (f.ends != wantEnds || f.jumps != wantJumps) {
			t.Fatalf("the table of the test is wrong at %d", op)
		}
		for _, x := range []api.Ins{{Op: op}, {Op: op, Reg: reg, Dst: 1, Src: 2, Off: 3, Imm: 4}, {Op: op, Reg: reg, Dst: -1, Off: -1}} {
			if got := insn.Ends(x); got != wantEnds {
				t.Errorf("Ends(%+v) = %v", x, got)
			}
			if got := insn.Jumps(x); got != wantJumps {
				t.Errorf("Jumps(%+v) = %v", x, got)
			}
		}
	})
}

// someCorrect returns correct instructions with an operation: the used fields have all permitted values of the lists.
func someCorrect(op int, reg bool) []api.Ins {
	var l []api.Ins
	for _, dst := range []int{0, 1, 10} {
		for _, src := range []int{0, 1, 10} {
			for _, off := range []int{0, -32768, 32767} {
				for _, imm := range []int64{0, 1, 3, 254, math.MinInt32, math.MaxInt32, math.MinInt64, math.MaxInt64} {
					if x := (api.Ins{Op: op, Reg: reg, Dst: dst, Src: src, Off: off, Imm: imm}); check(x) == api.OK {
						l = append(l, x)
					}
				}
			}
		}
	}
	return l
}

// TestChangedFields: P4.6, for each field that is not used, and for Reg where it is none of the form.
func TestChangedFields(t *testing.T) {
	var wrong []api.Ins
	each(func(op int, reg bool) {
		l := someCorrect(op, reg)
		if f := formOf(op); (len(l) == 0) != (f == nil || reg && !f.takesRegister()) {
			t.Errorf("%d correct instructions with Op %d and Reg %v", len(l), op, reg)
		}
		u := uses(op, reg)
		for _, x := range l {
			if got := insn.Check(x); got != api.OK {
				t.Errorf("Check(%+v) = %v", x, got)
			}
			for _, n := range []int{1, 2, 10, -1, 11, 32768, math.MinInt, math.MaxInt} {
				for _, c := range []struct {
					used bool
					set  func(*api.Ins)
				}{
					{u.Dst, func(y *api.Ins) { y.Dst = n }}, {u.Src, func(y *api.Ins) { y.Src = n }}, {u.Off, func(y *api.Ins) { y.Off = n }}, {u.Imm, func(y *api.Ins) { y.Imm = int64(n) }},
					{formOf(op).takesRegister(), func(y *api.Ins) { y.Reg = true }},
				} {
					y := x
					c.set(&y)
					if !c.used && insn.Check(y) != api.ErrField {
						wrong = append(wrong, y)
					}
				}
			}
		}
	})
	if len(wrong) != 0 {
		t.Errorf("%d changed instructions do not have the error ErrField, the first one of them is %+v", len(wrong), wrong[0])
	}
}

// TestConcurrent: the functions may be called concurrently, and their results stay the same.
func TestConcurrent(t *testing.T) {
	var group sync.WaitGroup
	for range 8 {
		group.Go(func() {
			each(func(op int, reg bool) {
				x := api.Ins{Op: op, Reg: reg, Dst: 1, Imm: 1}
				if insn.Uses(op, reg) != uses(op, reg) || insn.Check(x) != check(x) {
					t.Errorf("Uses(%d, %v) = %+v, Check(%+v) = %v", op, reg, insn.Uses(op, reg), x, insn.Check(x))
				}
			})
		})
	}
	group.Wait()
}

// FuzzCheck: P4.1, P4.2 and P4.6.
func FuzzCheck(f *testing.F) {
	f.Add(0, true, 1, 2, 0, int64(5))
	f.Add(45, false, 10, 0, -32768, int64(math.MinInt32))
	f.Add(67, false, 0, 0, 0, int64(3))
	f.Add(85, false, 11, 0, 0, int64(255))
	f.Add(-1, false, 0, 0, 0, int64(0))
	f.Fuzz(func(t *testing.T, op int, reg bool, dst, src, off int, imm int64) {
		x := api.Ins{Op: op, Reg: reg, Dst: dst, Src: src, Off: off, Imm: imm}
		checkCheck(t, x)
		// Most numbers are none of an operation or a register: the same, with numbers that are more likely.
		x.Op, x.Dst, x.Src, x.Off = int(uint(op)%87), dst%12, src%12, int(int16(off))
		checkCheck(t, x)
		x.Reg = reg && formOf(x.Op) != nil && formOf(x.Op).takesRegister()
		u := uses(x.Op, x.Reg)
		if got := insn.Uses(x.Op, x.Reg); got != u {
			t.Errorf("Uses(%d, %v) = %+v; want %+v", x.Op, x.Reg, got, u)
		}
		if !u.Dst {
			x.Dst = 0
		}
		if !u.Src {
			x.Src = 0
		}
		if !u.Off {
			x.Off = 0
		}
		if !u.Imm {
			x.Imm = 0
		}
		checkCheck(t, x)
	})
}
