package alu_test

import (
	"math"
	"math/big"
	"slices"
	"strconv"
	"strings"
	"sync"
	"testing"

	"slotcode/alu"
	"slotcode/api"
	"slotcode/ops"
)

// groups are the rows of the table of chapter 3 with their forms, one after the other. computes says that the chapter has a
// result for them.
var groups = []struct {
	form     int
	computes bool
	names    string
}{
	{api.Alu, true, "add64 sub64 mul64 div64 or64 and64 lsh64 rsh64 mod64 xor64 mov64 arsh64 sdiv64 smod64"},
	{api.Alu, true, "add32 sub32 mul32 div32 or32 and32 lsh32 rsh32 mod32 xor32 mov32 arsh32 sdiv32 smod32"},
	{api.Unary, true, "neg64 neg32"},
	{api.Extend, true, "movsb64 movsh64 movsw64 movsb32 movsh32"},
	{api.Unary, true, "le16 le32 le64 be16 be32 be64 bswap16 bswap32 bswap64"},
	{api.Go, false, "ja"},
	{api.Jump, false, "jeq jgt jge jset jne jsgt jsge jlt jle jslt jsle"},
	{api.Jump, false, "jeq32 jgt32 jge32 jset32 jne32 jsgt32 jsge32 jlt32 jle32 jslt32 jsle32"},
	{api.Call, false, "call"},
	{api.Exit, false, "exit"},
	{api.Load, false, "ldxb ldxh ldxw ldxdw ldxsb ldxsh ldxsw"},
	{api.Store, false, "stb sth stw stdw"},
	{api.StoreReg, false, "stxb stxh stxw stxdw"},
	{api.Wide, false, "lddw"},
	{api.MapRef, false, "ldmap"},
}

// row is an operation of the table.
type row struct {
	name     string
	form     int
	computes bool
}

var rows = func() []row {
	var l []row
	for _, g := range groups {
		for _, name := range strings.Fields(g.names) {
			l = append(l, row{name, g.form, g.computes})
		}
	}
	return l
}()

// absent are numbers of no operation, among them ones that are equal to numbers of operations in their last bits.
var absent = []int{-1, 86, 87, -2, -30, -86, 100, 128, 255, 256, 256 + 30, 1 << 16, 1<<16 + 10, 1 << 32, 1<<32 + 34, math.MaxInt32, math.MinInt32, math.MaxInt, math.MinInt}

// noWidths are neighbours and negatives of the widths of Swap, and numbers that a shift would take badly.
var noWidths = []int{0, 1, -1, 7, 8, 9, 15, 17, 24, 31, 33, 40, 48, 56, 63, 65, 72, 128, 256 + 16, 1<<32 + 32, -8, -16, -32, -64, math.MinInt, math.MaxInt}

// values are operands: the bounds of all widths with their neighbours, and numbers with different bytes.
var values = func() []uint64 {
	l := []uint64{
		2, 3, 5, 6, 7, 8, 10, 100, 1000, 0x1122, 0x112233, 0x11223344, 0x1122334455667788, 0x8877665544332211, 0xfedcba9876543210, 0x0123456789abcdef,
		0x80808080_80808080, 0x7f7f7f7f_7f7f7f7f, 0xff00ff00_ff00ff00, 0x00000001_00000000, 0x00000005_00000003, 0xffffffff_00000000, 0x80000000_00000000, 0x7fffffff_80000000,
		0xffffffff_80000000, 0xffffffff_7fffffff, 0xaaaaaaaa_55555555, 0x12345678_00000000, 0x00000007_ffffffff, 0xfffffff9_00000007,
	}
	for _, bit := range []int{0, 7, 8, 15, 16, 31, 32, 33, 62, 63} {
		l = append(l, 1<<bit-1, 1<<bit, 1<<bit+1, -(1 << bit), -(1<<bit + 1), -(1<<bit - 1))
	}
	return l
}()

// number returns the number of an operation.
func number(name string) int {
	for op, r := range rows {
		if r.name == name {
			return op
		}
	}
	panic("no operation: " + name)
}

// natural returns the last bits of x, as a number that is not negative.
func natural(x uint64, n int) *big.Int { return modulo(new(big.Int).SetUint64(x), n) }

// modulo returns x modulo 2^n.
func modulo(x *big.Int, n int) *big.Int {
	return new(big.Int).Mod(x, new(big.Int).Lsh(big.NewInt(1), uint(n)))
}

// integer returns the signed value of the last bits of x.
func integer(x uint64, n int) *big.Int {
	a := natural(x, n)
	if a.Bit(n-1) == 1 {
		a.Sub(a, new(big.Int).Lsh(big.NewInt(1), uint(n)))
	}
	return a
}

// turned returns the number with as many of the last bytes of x as n says, in reverse order.
func turned(x uint64, n int) uint64 {
	text := big.NewInt(0)
	for range n / 8 {
		text.Add(text.Lsh(text, 8), new(big.Int).SetUint64(x%256))
		x /= 256
	}
	return text.Uint64()
}

// quotient and remainder are those of the chapter: rounded toward 0, and 0 and a for b = 0.
func quotient(a, b *big.Int) *big.Int {
	if b.Sign() == 0 {
		return new(big.Int)
	}
	return new(big.Int).Quo(a, b)
}

func remainder(a, b *big.Int) *big.Int {
	return new(big.Int).Sub(a, new(big.Int).Mul(quotient(a, b), b))
}

// computed is the table of the chapter, row by row, with numbers of any size.
func computed(name string, dst, second uint64) uint64 {
	stem := strings.TrimRight(name, "0123456789")
	n, err := strconv.Atoi(name[len(stem):])
	if err != nil {
		panic(name)
	}
	a, b, sa, sb := natural(dst, n), natural(second, n), integer(dst, n), integer(second, n)
	count := uint(new(big.Int).Mod(b, big.NewInt(int64(n))).Uint64())
	z := new(big.Int)
	switch stem {
	case "add":
		z.Add(a, b)
	case "sub":
		z.Sub(a, b)
	case "mul":
		z.Mul(a, b)
	case "div":
		z = quotient(a, b)
	case "mod":
		z = remainder(a, b)
	case "sdiv":
		z = quotient(sa, sb)
	case "smod":
		z = remainder(sa, sb)
	case "or":
		z.Or(a, b)
	case "and":
		z.And(a, b)
	case "xor":
		z.Xor(a, b)
	case "lsh":
		z.Lsh(a, count)
	case "rsh":
		z.Rsh(a, count)
	case "arsh":
		z.Rsh(sa, count)
	case "mov":
		z = b
	case "neg":
		z.Neg(a)
	case "movsb":
		z = integer(second, 8)
	case "movsh":
		z = integer(second, 16)
	case "movsw":
		z = integer(second, 32)
	case "le":
		z = a
	case "be", "bswap":
		z.SetUint64(turned(dst, n))
	default:
		panic(name)
	}
	return modulo(z, n).Uint64()
}

// second is the paragraph on operands.
func second(x api.Ins, src uint64) uint64 {
	isExtend := x.Op >= 0 && x.Op < len(rows) && rows[x.Op].form == api.Extend
	if x.Reg || isExtend {
		return src
	}
	return uint64(x.Imm)
}

func checkDo(t *testing.T, x api.Ins, dst, src uint64) {
	t.Helper()
	want, wantOK := dst, x.Op >= 0 && x.Op < len(rows) && rows[x.Op].computes
	if wantOK {
		want = computed(rows[x.Op].name, dst, second(x, src))
	}
	if got, ok := alu.Do(x, dst, src); got != want || ok != wantOK {
		t.Errorf("Do(%+v, %#x, %#x) = %#x, %v; want %#x, %v", x, dst, src, got, ok, want, wantOK)
	}
}

// each calls a function with all pairs of values, and the pairs of all values with all small numbers, which count shifts.
func each(do func(a, b uint64)) {
	for _, a := range values {
		for _, b := range values {
			do(a, b)
		}
		for b := range uint64(67) {
			do(a, b)
			do(a, b+1<<32)
			do(a, -b)
		}
	}
}

// TestTable checks the table of the tests: the names and the forms in the order of their numbers.
func TestTable(t *testing.T) {
	if len(rows) != ops.Count() {
		t.Fatal("the table of the test has a wrong length", len(rows))
	}
	for op, r := range rows {
		if r.name != ops.Name(op) || r.form != ops.Form(op) || r.computes != (r.form == api.Alu || r.form == api.Unary || r.form == api.Extend) {
			t.Errorf("the operation %d is not %+v", op, r)
		}
	}
}

// TestExamples: P6.2, results of each operation written out one by one, so that an error of the model is seen.
func TestExamples(t *testing.T) {
	seen := map[string]bool{}
	for _, c := range []struct {
		name         string
		a, b, result uint64
	}{
		{"add32", 1<<32 + 5, 7, 12}, {"div64", 5, 0, 0}, {"mod64", 5, 0, 5}, {"be16", 0x112233, 0, 0x3322},

		{"add64", math.MaxUint64, 2, 1}, {"add64", math.MaxUint32, 1, 1 << 32}, {"add32", math.MaxUint32, 2, 1}, {"add32", 1, math.MaxUint64, 0},
		{"sub64", 5, 7, 0xffffffff_fffffffe}, {"sub64", 1 << 32, 1, math.MaxUint32}, {"sub32", 5, 7, 0xfffffffe}, {"sub32", 7<<32 + 7, 5, 2},
		{"mul64", 1 << 32, 1<<32 + 3, 3 << 32}, {"mul64", 3, 0xffffffff_ffffffff, 0xffffffff_fffffffd}, {"mul32", 1 << 16, 1 << 16, 0}, {"mul32", 0x10001, 0x10001, 0x20001},
		{"div64", 17, 5, 3}, {"div64", 0xffffffff_fffffff0, 16, 0x0fffffff_ffffffff}, {"div64", 5, 6, 0}, {"div32", 17, 5, 3}, {"div32", 0xfffffff0, 16, 0x0fffffff}, {"div32", 1<<32 + 17, 5<<32 + 5, 3}, {"div32", 17, 0, 0}, {"div32", 17, 1 << 32, 0},
		{"mod64", 17, 5, 2}, {"mod64", 0xffffffff_ffffffff, 16, 15}, {"mod64", 1<<40 + 1, 0, 1<<40 + 1}, {"mod32", 17, 5, 2}, {"mod32", 1<<32 + 17, 0, 17}, {"mod32", 1<<32 + 17, 7 << 32, 17}, {"mod32", 0xffffffff, 16, 15},
		{"or64", 0xf0_00000001, 0x0f_00000002, 0xff_00000003}, {"or32", 0xf0_00000001, 0x0f_00000002, 3}, {"and64", 0xff_00000003, 0x0f_00000006, 0x0f_00000002}, {"and32", 0xff_00000003, 0x0f_00000006, 2}, {"xor64", 0xff_00000003, 0x0f_00000006, 0xf0_00000005}, {"xor32", 0xff_00000003, 0x0f_00000006, 5},
		{"lsh64", 3, 63, 1 << 63}, {"lsh64", 3, 64, 3}, {"lsh64", 3, 65, 6}, {"lsh64", 1, 32, 1 << 32}, {"lsh32", 3, 31, 1 << 31}, {"lsh32", 3, 32, 3}, {"lsh32", 3, 33, 6}, {"lsh32", 3 << 32, 0, 0}, {"lsh32", 3, 1 << 32, 3},
		{"rsh64", 1 << 63, 63, 1}, {"rsh64", 1 << 63, 64, 1 << 63}, {"rsh64", 1 << 63, 127, 1}, {"rsh64", math.MaxUint64, 32, math.MaxUint32}, {"rsh32", 1 << 31, 31, 1}, {"rsh32", 1 << 31, 32, 1 << 31}, {"rsh32", 1 << 32, 1, 0}, {"rsh32", 0xffffffff_80000000, 4, 0x08000000},
		{"arsh64", 1 << 63, 63, math.MaxUint64}, {"arsh64", 1 << 62, 61, 2}, {"arsh64", 1 << 63, 64, 1 << 63}, {"arsh64", 1 << 63, 1, 3 << 62}, {"arsh64", 1 << 31, 1, 1 << 30}, {"arsh32", 1 << 31, 31, math.MaxUint32}, {"arsh32", 1 << 31, 32, 1 << 31}, {"arsh32", 1 << 31, 1, 3 << 30}, {"arsh32", 0xffffffff_40000000, 1, 1 << 29},
		{"mov64", 1, 0x12345678_9abcdef0, 0x12345678_9abcdef0}, {"mov32", 1, 0x12345678_9abcdef0, 0x9abcdef0},
		{"sdiv64", 0xffffffff_fffffff9, 2, 0xffffffff_fffffffd}, {"sdiv64", 7, 0xffffffff_fffffffe, 0xffffffff_fffffffd}, {"sdiv64", 0xffffffff_fffffff9, 0xffffffff_fffffffe, 3}, {"sdiv64", 1 << 63, math.MaxUint64, 1 << 63}, {"sdiv64", 7, 0, 0},
		{"smod64", 0xffffffff_fffffff9, 2, math.MaxUint64}, {"smod64", 7, 0xffffffff_fffffffe, 1}, {"smod64", 0xffffffff_fffffff9, 0xffffffff_fffffffe, math.MaxUint64}, {"smod64", 1 << 63, math.MaxUint64, 0}, {"smod64", 1 << 63, 0, 1 << 63},
		{"sdiv32", 0xfffffff9, 2, 0xfffffffd}, {"sdiv32", 7, 0xfffffffe, 0xfffffffd}, {"sdiv32", 1 << 31, math.MaxUint32, 1 << 31}, {"sdiv32", 0xfffffff9, 1 << 32, 0}, {"sdiv32", 5<<32 + 7, 7<<32 + 2, 3},
		{"smod32", 0xfffffff9, 2, math.MaxUint32}, {"smod32", 7, 0xfffffffe, 1}, {"smod32", 1 << 31, math.MaxUint32, 0}, {"smod32", 0xffffffff_fffffff9, 0, 0xfffffff9}, {"smod32", 0xfffffff9, 3 << 32, 0xfffffff9},
		{"neg64", 5, 0, 0xffffffff_fffffffb}, {"neg64", 0, 1, 0}, {"neg64", 1 << 63, 1, 1 << 63}, {"neg32", 5, 0, 0xfffffffb}, {"neg32", 7 << 32, 1, 0}, {"neg32", 1 << 31, 0, 1 << 31},
		{"movsb64", 1, 0x1280, 0xffffffff_ffffff80}, {"movsb64", 1, 0xff7f, 0x7f}, {"movsh64", 1, 0x128000, 0xffffffff_ffff8000}, {"movsh64", 1, 0xff7fff, 0x7fff}, {"movsw64", 1, 0x12_80000000, 0xffffffff_80000000}, {"movsw64", 1, 0xff_7fffffff, 0x7fffffff},
		{"movsb32", 1, 0x1280, 0xffffff80}, {"movsb32", 1, 0xff7f, 0x7f}, {"movsh32", 1, 0x128000, 0xffff8000}, {"movsh32", 1, 0xff7fff, 0x7fff},
		{"le16", 0x11223344_55667788, 0, 0x7788}, {"le32", 0x11223344_55667788, 0, 0x55667788}, {"le64", 0x11223344_55667788, 0, 0x11223344_55667788},
		{"be16", 0x11223344_55667788, 0, 0x8877}, {"be32", 0x11223344_55667788, 0, 0x88776655}, {"be64", 0x11223344_55667788, 0, 0x88776655_44332211},
		{"bswap16", 0x11223344_55667788, 0, 0x8877}, {"bswap32", 0x11223344_55667788, 0, 0x88776655}, {"bswap64", 0x11223344_55667788, 0, 0x88776655_44332211},
	} {
		seen[c.name] = true
		op := number(c.name)
		reg := rows[op].form == api.Alu // the others have no second operand, or a register without Reg
		if got, ok := alu.Do(api.Ins{Op: op, Reg: reg, Dst: 1, Src: 2}, c.a, c.b); got != c.result || !ok {
			t.Errorf("%s of %#x and %#x = %#x, %v; want %#x, true", c.name, c.a, c.b, got, ok, c.result)
		}
		if !reg {
			continue
		}
		if got, ok := alu.Do(api.Ins{Op: op, Dst: 1, Imm: int64(c.b)}, c.a, 99); got != c.result || !ok {
			t.Errorf("%s of %#x and the immediate %#x = %#x, %v; want %#x, true", c.name, c.a, c.b, got, ok, c.result)
		}
	}
	for _, r := range rows {
		if r.computes && !seen[r.name] {
			t.Errorf("no example of %s", r.name)
		}
	}
}

// TestDo: P6.2, for all operations that compute, with a register, and with an immediate of 32 or 64 bits.
func TestDo(t *testing.T) {
	for op, r := range rows {
		if !r.computes {
			continue
		}
		each(func(a, b uint64) {
			checkDo(t, api.Ins{Op: op, Reg: true, Dst: 1, Src: 2}, a, b)
			checkDo(t, api.Ins{Op: op, Dst: 1, Imm: int64(b)}, a, 0x5a5a5a5a_5a5a5a5a)
			checkDo(t, api.Ins{Op: op, Dst: 1, Imm: int64(int32(b))}, a, b+1)
		})
	}
}

// TestDoOthers: P6.2, operations that do not compute, and numbers of no operation.
func TestDoOthers(t *testing.T) {
	others := slices.Clone(absent)
	for op, r := range rows {
		if !r.computes {
			others = append(others, op)
		}
	}
	for _, op := range others {
		for _, reg := range []bool{false, true} {
			for _, a := range values {
				for _, b := range []uint64{0, 1, 7, 1 << 40, math.MaxUint64} {
					if got, ok := alu.Do(api.Ins{Op: op, Reg: reg, Dst: 1, Src: 2, Imm: int64(b)}, a, b); got != a || ok {
						t.Errorf("Do of the operation %d with %#x and %#x = %#x, %v; want %#x, false", op, a, b, got, ok, a)
					}
				}
			}
		}
	}
}

// TestDoFields: P6.2, the registers and the offset of an instruction do not matter, even if they are wrong.
func TestDoFields(t *testing.T) {
	wrong := []int{0, 1, 8, 10, 11, 16, 32, -1, 255, math.MaxInt, math.MinInt}
	for op := -2; op < len(rows)+2; op++ {
		for _, reg := range []bool{false, true} {
			for _, imm := range []int64{0, 3, -7, math.MaxInt64, math.MinInt64} {
				want, wantOK := alu.Do(api.Ins{Op: op, Reg: reg, Imm: imm}, 0x8877665544332211, 0xff00000085)
				for i, n := range wrong {
					x := api.Ins{Op: op, Reg: reg, Dst: n, Src: wrong[(i+3)%len(wrong)], Off: wrong[(i+5)%len(wrong)], Imm: imm}
					if got, ok := alu.Do(x, 0x8877665544332211, 0xff00000085); got != want || ok != wantOK {
						t.Errorf("Do(%+v) = %#x, %v; without the other fields %#x, %v", x, got, ok, want, wantOK)
					}
				}
			}
		}
	}
}

// TestDoOperands: P6.2, the operand that an instruction does not have does not matter.
func TestDoOperands(t *testing.T) {
	for op, r := range rows {
		for _, reg := range []bool{false, true} {
			x := api.Ins{Op: op, Reg: reg, Imm: 0x1003}
			base, _ := alu.Do(x, 0x4005, 0x2007)
			otherImm, _ := alu.Do(api.Ins{Op: op, Reg: reg, Imm: 0x11}, 0x4005, 0x2007)
			otherSrc, _ := alu.Do(x, 0x4005, 0x12)
			takesImm, takesSrc := r.form == api.Alu && !reg, r.form == api.Alu && reg || r.form == api.Extend
			if !takesImm && otherImm != base || !takesSrc && otherSrc != base {
				t.Errorf("the result of %s with Reg = %v depends on an operand that it does not have", r.name, reg)
			}
		}
	}
}

// TestOperandExamples: P6.1, for an operation of each form, and for numbers of no operation.
func TestOperandExamples(t *testing.T) {
	for _, c := range []struct {
		x    api.Ins
		want uint64
	}{
		{api.Ins{Op: number("add64"), Imm: 5}, 5}, {api.Ins{Op: number("add64"), Imm: -1}, math.MaxUint64}, {api.Ins{Op: number("add64"), Reg: true, Imm: 5}, 77}, {api.Ins{Op: number("add64"), Src: 3}, 0},
		{api.Ins{Op: number("add32"), Imm: -1}, math.MaxUint64}, {api.Ins{Op: number("add32"), Reg: true}, 77}, {api.Ins{Op: number("mov64"), Imm: math.MinInt64}, 1 << 63}, {api.Ins{Op: number("mov32"), Imm: 1 << 40}, 1 << 40},
		{api.Ins{Op: number("neg64"), Imm: 5}, 5}, {api.Ins{Op: number("neg64"), Reg: true}, 77}, {api.Ins{Op: number("be16"), Imm: 5}, 5},
		{api.Ins{Op: number("movsb64"), Src: 1}, 77}, {api.Ins{Op: number("movsw64"), Imm: 5}, 77}, {api.Ins{Op: number("movsh32"), Reg: true, Imm: 5}, 77},
		{api.Ins{Op: number("ja"), Imm: 5, Off: 3}, 5}, {api.Ins{Op: number("jeq"), Imm: -5}, 0xffffffff_fffffffb}, {api.Ins{Op: number("jsle32"), Reg: true, Imm: 5}, 77},
		{api.Ins{Op: number("call"), Imm: 2}, 2}, {api.Ins{Op: number("exit")}, 0}, {api.Ins{Op: number("exit"), Reg: true}, 77},
		{api.Ins{Op: number("ldxb"), Src: 1}, 0}, {api.Ins{Op: number("stw"), Imm: -2}, 0xffffffff_fffffffe}, {api.Ins{Op: number("stxw"), Src: 1, Imm: 3}, 3}, {api.Ins{Op: number("lddw"), Imm: 1 << 60}, 1 << 60}, {api.Ins{Op: number("ldmap"), Imm: 3}, 3}, {api.Ins{Op: number("ldmap"), Reg: true, Imm: 3}, 77},
		{api.Ins{Op: -1, Imm: 5}, 5}, {api.Ins{Op: -1, Reg: true, Imm: 5}, 77}, {api.Ins{Op: 86, Imm: -5}, 0xffffffff_fffffffb}, {api.Ins{Op: 86, Reg: true}, 77}, {api.Ins{Op: math.MinInt, Imm: 5}, 5}, {api.Ins{Op: math.MaxInt, Reg: true}, 77},
	} {
		if got := alu.Operand(c.x, 77); got != c.want {
			t.Errorf("Operand(%+v, 77) = %d; want %d", c.x, got, c.want)
		}
	}
}

// TestOperand: P6.1, for all operations and numbers of no operation; other fields do not matter.
func TestOperand(t *testing.T) {
	all := slices.Clone(absent)
	for op := range rows {
		all = append(all, op)
	}
	for _, op := range all {
		for _, reg := range []bool{false, true} {
			for _, other := range []int{0, 7, -1, math.MaxInt, math.MinInt} {
				for _, v := range values {
					x := api.Ins{Op: op, Reg: reg, Dst: other, Src: other, Off: other, Imm: int64(v)}
					if got, want := alu.Operand(x, ^v), second(x, ^v); got != want {
						t.Errorf("Operand(%+v, %#x) = %#x; want %#x", x, ^v, got, want)
					}
				}
			}
		}
	}
}

// TestSwap: P6.3 and P6.5, for all numbers of two bytes at all places.
func TestSwap(t *testing.T) {
	for _, c := range []struct {
		x    uint64
		bits int
		want uint64
	}{
		{0x112233, 16, 0x3322}, {0x1122334455667788, 16, 0x8877}, {0x1122334455667788, 32, 0x88776655}, {0x1122334455667788, 64, 0x8877665544332211}, {0x80, 16, 0x8000}, {0x80, 32, 0x80000000}, {0x80, 64, 1 << 63}, {1 << 63, 64, 0x80}, {1 << 63, 32, 0}, {math.MaxUint64, 16, 0xffff}, {math.MaxUint64, 32, 0xffffffff}, {math.MaxUint64, 64, math.MaxUint64}, {0, 64, 0},
		{0x1122334455667788, 8, 0}, {0x1122334455667788, 0, 0}, {0x1122334455667788, -16, 0}, {0x1122334455667788, 24, 0}, {0x1122334455667788, 128, 0},
	} {
		if got := alu.Swap(c.x, c.bits); got != c.want {
			t.Errorf("Swap(%#x, %d) = %#x; want %#x", c.x, c.bits, got, c.want)
		}
	}
	for x := range uint64(1 << 16) {
		for shift := 0; shift < 64; shift += 8 {
			checkSwap(t, x<<shift)
		}
	}
	for _, x := range values {
		checkSwap(t, x)
		for _, bits := range noWidths {
			if got := alu.Swap(x, bits); got != 0 {
				t.Errorf("Swap(%#x, %d) = %#x; want 0", x, bits, got)
			}
		}
	}
}

func checkSwap(t *testing.T, x uint64) {
	t.Helper()
	for _, bits := range []int{16, 32, 64} {
		got := alu.Swap(x, bits)
		if want := turned(x, bits); got != want {
			t.Errorf("Swap(%#x, %d) = %#x; want %#x", x, bits, got, want)
		}
		if again := alu.Swap(got, bits); again != natural(x, bits).Uint64() {
			t.Errorf("Swap(%#x, %d) twice = %#x", x, bits, again)
		}
	}
}

// TestDivideExamples: P6.4, written out, among them the bounds and the quotient that has no 64 bits.
func TestDivideExamples(t *testing.T) {
	for _, c := range []struct{ a, b, quotient, remainder int64 }{
		{7, 2, 3, 1}, {-7, 2, -3, -1}, {7, -2, -3, 1}, {-7, -2, 3, -1}, {6, 3, 2, 0}, {-6, 3, -2, 0}, {1, 2, 0, 1}, {-1, 2, 0, -1}, {0, 5, 0, 0}, {0, -5, 0, 0},
		{5, 0, 0, 5}, {-5, 0, 0, -5}, {0, 0, 0, 0}, {math.MinInt64, 0, 0, math.MinInt64}, {math.MaxInt64, 0, 0, math.MaxInt64},
		{math.MinInt64, -1, math.MinInt64, 0}, {math.MinInt64, 1, math.MinInt64, 0}, {math.MaxInt64, -1, -math.MaxInt64, 0}, {math.MinInt64, math.MinInt64, 1, 0}, {math.MaxInt64, math.MinInt64, 0, math.MaxInt64}, {math.MinInt64, math.MaxInt64, -1, -1}, {math.MinInt64, 2, -1 << 62, 0}, {-1, math.MinInt64, 0, -1}, {math.MinInt64 + 1, -1, math.MaxInt64, 0},
	} {
		if q, r := alu.Divide(c.a, c.b); q != c.quotient || r != c.remainder {
			t.Errorf("Divide(%d, %d) = %d, %d; want %d, %d", c.a, c.b, q, r, c.quotient, c.remainder)
		}
	}
}

// TestDivide: P6.4, for all pairs of values.
func TestDivide(t *testing.T) {
	each(func(a, b uint64) { checkDivide(t, int64(a), int64(b)) })
}

func checkDivide(t *testing.T, a, b int64) {
	t.Helper()
	wantQ := int64(modulo(quotient(big.NewInt(a), big.NewInt(b)), 64).Uint64())
	wantR := int64(modulo(remainder(big.NewInt(a), big.NewInt(b)), 64).Uint64())
	if q, r := alu.Divide(a, b); q != wantQ || r != wantR {
		t.Errorf("Divide(%d, %d) = %d, %d; want %d, %d", a, b, q, r, wantQ, wantR)
	}
}

// TestLastBits: P6.5, the upper bits of operands of 32 bits do not matter, and those of the result are 0.
func TestLastBits(t *testing.T) {
	uppers := []uint64{1 << 32, 31 << 32, 1 << 63, math.MaxUint32 << 32, 0x12345678 << 32}
	for op, r := range rows {
		if !r.computes || !strings.HasSuffix(r.name, "32") {
			continue
		}
		each(func(a, b uint64) {
			x := api.Ins{Op: op, Reg: true}
			want, _ := alu.Do(x, a, b)
			if want>>32 != 0 {
				t.Errorf("%s of %#x and %#x = %#x, with upper bits", r.name, a, b, want)
			}
			for _, u := range uppers {
				if got, _ := alu.Do(x, a^u, b); got != want {
					t.Errorf("%s of %#x and %#x = %#x, but %#x for other upper bits of a", r.name, a, b, want, got)
				}
				if got, _ := alu.Do(x, a, b^u); got != want {
					t.Errorf("%s of %#x and %#x = %#x, but %#x for other upper bits of b", r.name, a, b, want, got)
				}
				if got, _ := alu.Do(api.Ins{Op: op, Imm: int64(b ^ u)}, a, b); r.form == api.Alu && got != want {
					t.Errorf("%s of %#x and the immediate %#x = %#x, but %#x for other upper bits of it", r.name, a, b, want, got)
				}
			}
		})
	}
}

// TestSwappedTwice: P6.5, be and bswap keep the last bits if they are done twice.
func TestSwappedTwice(t *testing.T) {
	for _, name := range []string{"be16", "be32", "be64", "bswap16", "bswap32", "bswap64"} {
		op := number(name)
		for _, a := range values {
			once, _ := alu.Do(api.Ins{Op: op}, a, 0)
			twice, _ := alu.Do(api.Ins{Op: op}, once, 0)
			if want := natural(a, ops.Bits(op)).Uint64(); twice != want {
				t.Errorf("%s of %#x twice = %#x; want %#x", name, a, twice, want)
			}
		}
	}
}

// TestConcurrent: the functions may be called concurrently (rule 6), and depend on their arguments only (rule 7).
func TestConcurrent(t *testing.T) {
	var group sync.WaitGroup
	for worker := range 4 {
		group.Go(func() {
			for i := range 2000 {
				op := (i + 11*worker) % len(rows)
				checkDo(t, api.Ins{Op: op, Reg: i%3 == 0, Imm: int64(i) - 1000}, uint64(i)<<30, uint64(i*worker))
				checkDivide(t, int64(i)-1000, int64(i%7)-3)
			}
		})
	}
	group.Wait()
}

func FuzzDo(f *testing.F) {
	for op := -1; op <= len(rows); op++ {
		f.Add(op, op%2 == 0, int64(-5), uint64(0x1122334455667788), uint64(0xff00000021))
	}
	f.Fuzz(func(t *testing.T, op int, reg bool, imm int64, dst, src uint64) {
		x := api.Ins{Op: op, Reg: reg, Imm: imm}
		checkDo(t, x, dst, src)
		if got, want := alu.Operand(x, src), second(x, src); got != want {
			t.Errorf("Operand(%+v, %#x) = %#x; want %#x", x, src, got, want)
		}
		checkSwap(t, dst)
		checkDivide(t, int64(dst), int64(src))
		checkDivide(t, imm, int64(src))
	})
}
