package cond_test

import (
	"math"
	"math/big"
	"slices"
	"strings"
	"sync"
	"testing"

	"slotcode/api"
	"slotcode/cond"
	"slotcode/ops"
)

// groups are the rows of the table of chapter 3 with their forms, one after the other.
var groups = []struct {
	form  int
	names string
}{
	{api.Alu, "add64 sub64 mul64 div64 or64 and64 lsh64 rsh64 mod64 xor64 mov64 arsh64 sdiv64 smod64"},
	{api.Alu, "add32 sub32 mul32 div32 or32 and32 lsh32 rsh32 mod32 xor32 mov32 arsh32 sdiv32 smod32"},
	{api.Unary, "neg64 neg32"},
	{api.Extend, "movsb64 movsh64 movsw64 movsb32 movsh32"},
	{api.Unary, "le16 le32 le64 be16 be32 be64 bswap16 bswap32 bswap64"},
	{api.Go, "ja"},
	{api.Jump, "jeq jgt jge jset jne jsgt jsge jlt jle jslt jsle"},
	{api.Jump, "jeq32 jgt32 jge32 jset32 jne32 jsgt32 jsge32 jlt32 jle32 jslt32 jsle32"},
	{api.Call, "call"},
	{api.Exit, "exit"},
	{api.Load, "ldxb ldxh ldxw ldxdw ldxsb ldxsh ldxsw"},
	{api.Store, "stb sth stw stdw"},
	{api.StoreReg, "stxb stxh stxw stxdw"},
	{api.Wide, "lddw"},
	{api.MapRef, "ldmap"},
}

// row is an operation of the table.
type row struct {
	name string
	form int
}

var rows = func() []row {
	var l []row
	for _, g := range groups {
		for _, name := range strings.Fields(g.names) {
			l = append(l, row{name, g.form})
		}
	}
	return l
}()

// jumps are the numbers of the operations with the form Jump.
var jumps = func() []int {
	var l []int
	for op, r := range rows {
		if r.form == api.Jump {
			l = append(l, op)
		}
	}
	return l
}()

// absent are numbers of no operation, among them ones that are equal to numbers of jumps in their last bits.
var absent = []int{-1, 86, 87, -2, -44, -45, -66, -86, 97, 100, 128, 255, 256, 256 + 45, 1 << 16, 1<<16 + 44, 1 << 32, 1<<32 + 44, 1<<32 + 45, math.MinInt + 45, math.MaxInt32, math.MinInt32, math.MaxInt, math.MinInt}

// values are operands: the bounds of both widths with their neighbours, and numbers that differ only in the upper or the last bits.
var values = func() []uint64 {
	l := []uint64{
		2, 3, 5, 7, 10, 1000, 0x1122334455667788, 0x8877665544332211, 0xaaaaaaaa_55555555, 0x55555555_aaaaaaaa,
		0x00000001_00000005, 0x00000005_00000001, 0xffffffff_00000005, 0x00000005_ffffffff, 0x80000000_00000005, 0x7fffffff_80000000,
		0xffffffff_80000000, 0xffffffff_7fffffff, 0xffffffff_00000000, 0x80000000_80000000, 0x80000000_7fffffff,
	}
	for _, bit := range []int{0, 7, 8, 15, 16, 31, 32, 33, 62, 63} {
		l = append(l, 1<<bit-1, 1<<bit, 1<<bit+1, -(1 << bit), -(1<<bit + 1), -(1<<bit - 1))
	}
	return l
}()

// number returns the number of an operation.
func number(name string) int {
	for op, r := range rows {
		if r.name == name {
			return op
		}
	}
	panic("no operation: " + name)
}

// parts returns the name of the condition of a jump, and the number of its bits.
func parts(name string) (string, int) {
	if stem, ok := strings.CutSuffix(name, "32"); ok {
		return stem, 32
	}
	return name, 64
}

// natural returns the last bits of x, as a number that is not negative.
func natural(x uint64, n int) *big.Int {
	return new(big.Int).Mod(new(big.Int).SetUint64(x), new(big.Int).Lsh(big.NewInt(1), uint(n)))
}

// integer returns the signed value of the last bits of x.
func integer(x uint64, n int) *big.Int {
	a := natural(x, n)
	if a.Bit(n-1) == 1 {
		a.Sub(a, new(big.Int).Lsh(big.NewInt(1), uint(n)))
	}
	return a
}

// meets is the table of the chapter, row by row, with numbers of any size.
func meets(name string, dst, second uint64) bool {
	stem, n := parts(name)
	order := natural(dst, n).Cmp(natural(second, n))
	signedOrder := integer(dst, n).Cmp(integer(second, n))
	switch stem {
	case "jeq":
		return order == 0
	case "jne":
		return order != 0
	case "jgt":
		return order == 1
	case "jge":
		return order != -1
	case "jlt":
		return order == -1
	case "jle":
		return order != 1
	case "jsgt":
		return signedOrder == 1
	case "jsge":
		return signedOrder != -1
	case "jslt":
		return signedOrder == -1
	case "jsle":
		return signedOrder != 1
	case "jset":
		return new(big.Int).And(natural(dst, n), natural(second, n)).Sign() != 0
	}
	panic(name)
}

// expected is P7.1.
func expected(x api.Ins, dst, src uint64) bool {
	if x.Op < 0 || x.Op >= len(rows) {
		return false
	}
	second := uint64(x.Imm)
	if x.Reg {
		second = src
	}
	switch r := rows[x.Op]; r.form {
	case api.Go:
		return true
	case api.Jump:
		return meets(r.name, dst, second)
	}
	return false
}

func checkHolds(t *testing.T, x api.Ins, dst, src uint64) {
	t.Helper()
	if got, want := cond.Holds(x, dst, src), expected(x, dst, src); got != want {
		t.Errorf("Holds(%+v, %#x, %#x) = %v; want %v", x, dst, src, got, want)
	}
}

// each calls a function with all pairs of values.
func each(do func(a, b uint64)) {
	for _, a := range values {
		for _, b := range values {
			do(a, b)
		}
	}
}

// TestTable checks the table of the tests: the names and the forms in the order of their numbers, and the bits of jumps.
func TestTable(t *testing.T) {
	if len(rows) != ops.Count() || len(jumps) != 22 {
		t.Fatal("the table of the test has a wrong length", len(rows), len(jumps))
	}
	for op, r := range rows {
		if r.name != ops.Name(op) || r.form != ops.Form(op) {
			t.Errorf("the operation %d is not %+v", op, r)
		}
	}
	for _, op := range jumps {
		if _, n := parts(rows[op].name); n != ops.Bits(op) {
			t.Errorf("%s has not %d bits", rows[op].name, n)
		}
	}
}

// TestExamples: P7.1, the conditions of each operation written out, so that an error of the model is seen. The columns are
// the operands, and the conditions of 64 and of 32 bits that hold for them; the others do not.
func TestExamples(t *testing.T) {
	const (
		equal           = "jeq jge jle jsge jsle"
		less            = "jne jlt jle jslt jsle"
		greater         = "jne jgt jge jsgt jsge"
		lessButSigned   = "jne jlt jle jsgt jsge"
		greaterAsSigned = "jne jgt jge jslt jsle"
		minus           = math.MaxUint64
	)
	for _, c := range []struct {
		a, b         uint64
		wide, narrow string
	}{
		{0, 0, equal, equal}, {5, 5, equal + " jset", equal + " jset"}, {minus, minus, equal + " jset", equal + " jset"},
		{1, 2, less, less}, {2, 1, greater, greater}, {1, 3, less + " jset", less + " jset"}, {6, 3, greater + " jset", greater + " jset"},
		{1, minus, lessButSigned + " jset", lessButSigned + " jset"}, {minus, 1, greaterAsSigned + " jset", greaterAsSigned + " jset"},
		{0, minus, lessButSigned, lessButSigned}, {minus, 0, greaterAsSigned, greaterAsSigned},
		{minus - 1, minus, less + " jset", less + " jset"}, {minus, minus - 1, greater + " jset", greater + " jset"},
		{math.MaxInt64, 1 << 63, lessButSigned, greaterAsSigned}, {1 << 63, math.MaxInt64, greaterAsSigned, lessButSigned},
		{math.MaxInt32, 1 << 31, less, lessButSigned}, {1 << 31, math.MaxInt32, greater, greaterAsSigned},
		{1 << 32, 0, greater, equal}, {0, 1 << 32, less, equal}, {1 << 32, 1 << 32, equal + " jset", equal}, {1<<32 + 1, 2, greater, less}, {2, 1<<32 + 1, less, greater},
		{1 << 63, 0, greaterAsSigned, equal}, {0, 1 << 63, lessButSigned, equal}, {1 << 63, math.MaxUint32 << 32, less + " jset", equal}, {math.MaxUint32 << 32, 1 << 32, greaterAsSigned + " jset", equal},
		{math.MaxUint32, minus, lessButSigned + " jset", equal + " jset"}, {math.MaxUint32, 1, greater + " jset", greaterAsSigned + " jset"}, {1, math.MaxUint32, less + " jset", lessButSigned + " jset"},
	} {
		for _, op := range jumps {
			stem, n := parts(rows[op].name)
			want := slices.Contains(strings.Fields(c.wide), stem)
			if n == 32 {
				want = slices.Contains(strings.Fields(c.narrow), stem)
			}
			if got := cond.Holds(api.Ins{Op: op, Reg: true, Dst: 1, Src: 2}, c.a, c.b); got != want {
				t.Errorf("%s of %#x and %#x: %v; want %v", rows[op].name, c.a, c.b, got, want)
			}
			if got := cond.Holds(api.Ins{Op: op, Dst: 1, Imm: int64(c.b)}, c.a, 99); got != want {
				t.Errorf("%s of %#x and the immediate %#x: %v; want %v", rows[op].name, c.a, c.b, got, want)
			}
		}
	}
}

// TestHolds: P7.1, for all conditional jumps, with a register, and with an immediate of 32 or 64 bits.
func TestHolds(t *testing.T) {
	for _, op := range jumps {
		each(func(a, b uint64) {
			checkHolds(t, api.Ins{Op: op, Reg: true, Dst: 1, Src: 2}, a, b)
			checkHolds(t, api.Ins{Op: op, Dst: 1, Imm: int64(b)}, a, ^b)
			checkHolds(t, api.Ins{Op: op, Dst: 1, Imm: int64(int32(b))}, a, b+1)
		})
	}
}

// TestHoldsOthers: P7.1, the form Go, all other forms, and numbers of no operation.
func TestHoldsOthers(t *testing.T) {
	others := slices.Clone(absent)
	for op := range rows {
		if !slices.Contains(jumps, op) {
			others = append(others, op)
		}
	}
	for _, op := range others {
		want := op == number("ja")
		for _, reg := range []bool{false, true} {
			for _, b := range []uint64{0, 1, 5, 1 << 40, math.MaxUint64} {
				for _, a := range values {
					if got := cond.Holds(api.Ins{Op: op, Reg: reg, Imm: int64(b)}, a, b); got != want {
						t.Errorf("Holds of the operation %d with %#x and %#x = %v; want %v", op, a, b, got, want)
					}
				}
			}
		}
	}
}

// TestHoldsFields: P7.1, the registers and the offset of an instruction do not matter, even if they are wrong.
func TestHoldsFields(t *testing.T) {
	wrong := []int{0, 1, 8, 10, 11, 16, 32, -1, 255, math.MaxInt, math.MinInt}
	for op := -2; op < len(rows)+2; op++ {
		for _, reg := range []bool{false, true} {
			for _, imm := range []int64{0, 3, -7, math.MaxInt64, math.MinInt64} {
				for _, a := range []uint64{0, 3, 5, 0xffffffff_fffffff9, 1 << 63} {
					want := cond.Holds(api.Ins{Op: op, Reg: reg, Imm: imm}, a, 5)
					for i, n := range wrong {
						x := api.Ins{Op: op, Reg: reg, Dst: n, Src: wrong[(i+3)%len(wrong)], Off: wrong[(i+5)%len(wrong)], Imm: imm}
						if got := cond.Holds(x, a, 5); got != want {
							t.Errorf("Holds(%+v, %#x, 5) = %v; without the other fields %v", x, a, got, want)
						}
					}
				}
			}
		}
	}
}

// TestHoldsOperands: P7.1, the operand that an instruction does not have does not matter.
func TestHoldsOperands(t *testing.T) {
	for _, op := range jumps {
		each(func(a, b uint64) {
			for _, other := range []uint64{0, a, ^a, b ^ 1, 1 << 63} {
				checkHolds(t, api.Ins{Op: op, Reg: true, Imm: int64(other)}, a, b)
				checkHolds(t, api.Ins{Op: op, Imm: int64(b)}, a, other)
			}
		})
	}
}

// TestLastBits: P7.1, the upper bits of operands of 32 bits do not matter.
func TestLastBits(t *testing.T) {
	uppers := []uint64{1 << 32, 31 << 32, 1 << 63, math.MaxUint32 << 32, 0x12345678 << 32}
	for _, op := range jumps {
		if _, n := parts(rows[op].name); n != 32 {
			continue
		}
		each(func(a, b uint64) {
			want := cond.Holds(api.Ins{Op: op, Reg: true}, a, b)
			for _, u := range uppers {
				if cond.Holds(api.Ins{Op: op, Reg: true}, a^u, b) != want || cond.Holds(api.Ins{Op: op, Reg: true}, a, b^u) != want || cond.Holds(api.Ins{Op: op, Imm: int64(b ^ u)}, a, 0) != want {
					t.Errorf("%s of %#x and %#x depends on the upper bits %#x", rows[op].name, a, b, u)
				}
			}
		})
	}
}

// checkPairs checks a function that maps operations: those of the pairs of names for 64 bits in both directions, those of 32
// bits in the same way, and all others to nothing.
func checkPairs(t *testing.T, what string, pair func(int) (int, bool), pairs [][2]string) {
	t.Helper()
	want := map[int]int{}
	for _, p := range pairs {
		for _, bits := range []string{"", "32"} {
			want[number(p[0]+bits)] = number(p[1] + bits)
			want[number(p[1]+bits)] = number(p[0] + bits)
		}
	}
	all := slices.Clone(absent)
	for op := range rows {
		all = append(all, op)
	}
	for _, op := range all {
		wantOther, wantOK := want[op]
		if got, ok := pair(op); got != wantOther || ok != wantOK {
			t.Errorf("%s(%d) = %d, %v; want %d, %v", what, op, got, ok, wantOther, wantOK)
		}
	}
}

// TestOpposite: P7.2, the pairs written out, and nothing for jset, other forms and numbers of no operation.
func TestOpposite(t *testing.T) {
	checkPairs(t, "Opposite", cond.Opposite, [][2]string{{"jeq", "jne"}, {"jgt", "jle"}, {"jge", "jlt"}, {"jsgt", "jsle"}, {"jsge", "jslt"}})
}

// TestMirror: P7.3, the pairs written out, and nothing for other forms and numbers of no operation.
func TestMirror(t *testing.T) {
	checkPairs(t, "Mirror", cond.Mirror, [][2]string{{"jeq", "jeq"}, {"jne", "jne"}, {"jset", "jset"}, {"jgt", "jlt"}, {"jge", "jle"}, {"jsgt", "jslt"}, {"jsge", "jsle"}})
}

// related returns the only jump of the same number of bits that fulfils a condition for all values together with one, or
// 0 and false if there is none.
func related(t *testing.T, op int, fulfils func(other int, a, b uint64) bool) (int, bool) {
	t.Helper()
	var found []int
	for _, other := range jumps {
		fits := ops.Bits(other) == ops.Bits(op)
		each(func(a, b uint64) { fits = fits && fulfils(other, a, b) })
		if fits {
			found = append(found, other)
		}
	}
	if len(found) > 1 {
		t.Errorf("%d has the related operations %v", op, found)
	}
	if len(found) == 0 {
		return 0, false
	}
	return found[0], true
}

// holds is the condition of an operation with two registers.
func holds(op int, a, b uint64) bool { return cond.Holds(api.Ins{Op: op, Reg: true}, a, b) }

// TestOppositeConditions: P7.2, the opposite operation is the one whose condition holds exactly if the other one does not.
func TestOppositeConditions(t *testing.T) {
	for _, op := range jumps {
		want, wantOK := related(t, op, func(other int, a, b uint64) bool { return holds(other, a, b) != holds(op, a, b) })
		if got, ok := cond.Opposite(op); got != want || ok != wantOK {
			t.Errorf("Opposite of %s = %d, %v; the conditions tell %d, %v", rows[op].name, got, ok, want, wantOK)
		}
	}
}

// TestMirrorConditions: P7.3, the mirror is the operation whose condition holds for exchanged values exactly if the other one does.
func TestMirrorConditions(t *testing.T) {
	for _, op := range jumps {
		want, wantOK := related(t, op, func(other int, a, b uint64) bool { return holds(other, b, a) == holds(op, a, b) })
		if got, ok := cond.Mirror(op); got != want || !ok || !wantOK {
			t.Errorf("Mirror of %s = %d, %v; the conditions tell %d, %v", rows[op].name, got, ok, want, wantOK)
		}
	}
}

// TestInverses: P7.4, both are their own inverses; of the conditional jumps, only jset and jset32 have no opposite operation.
func TestInverses(t *testing.T) {
	for _, op := range jumps {
		stem, _ := parts(rows[op].name)
		other, ok := cond.Opposite(op)
		if ok != (stem != "jset") {
			t.Errorf("Opposite of %s = %d, %v", rows[op].name, other, ok)
		}
		if again, found := cond.Opposite(other); ok && (again != op || !found) {
			t.Errorf("Opposite of %s twice = %d, %v", rows[op].name, again, found)
		}
		mirror, ok := cond.Mirror(op)
		if again, found := cond.Mirror(mirror); again != op || !ok || !found {
			t.Errorf("Mirror of %s twice = %d, %v", rows[op].name, again, found)
		}
	}
}

// TestConcurrent: the functions may be called concurrently (rule 6), and depend on their arguments only (rule 7).
func TestConcurrent(t *testing.T) {
	var group sync.WaitGroup
	for worker := range 4 {
		group.Go(func() {
			for i := range 2000 {
				op := jumps[(i+5*worker)%len(jumps)]
				checkHolds(t, api.Ins{Op: op, Reg: i%3 == 0, Imm: int64(i) - 1000}, uint64(i)<<30, uint64(i*worker))
				mirror, _ := cond.Mirror(op)
				if again, ok := cond.Mirror(mirror); again != op || !ok {
					t.Errorf("Mirror of %d twice = %d, %v", op, again, ok)
				}
			}
		})
	}
	group.Wait()
}

func FuzzHolds(f *testing.F) {
	for op := -1; op <= len(rows); op++ {
		f.Add(op, op%2 == 0, int64(-5), uint64(0x1122334455667788), uint64(0xff00000021))
	}
	f.Fuzz(func(t *testing.T, op int, reg bool, imm int64, dst, src uint64) {
		x := api.Ins{Op: op, Reg: reg, Imm: imm}
		checkHolds(t, x, dst, src)
		checkHolds(t, x, src, src)
		if other, ok := cond.Opposite(op); ok && holds(other, dst, src) == holds(op, dst, src) {
			t.Errorf("the opposite of %d, %d, has the same condition for %#x and %#x", op, other, dst, src)
		}
		if other, ok := cond.Mirror(op); ok && holds(other, src, dst) != holds(op, dst, src) {
			t.Errorf("the mirror of %d, %d, has another condition for %#x and %#x", op, other, src, dst)
		}
	})
}
