package ops_test

import (
	"math"
	"strconv"
	"strings"
	"sync"
	"testing"

	"slotcode/api"
	"slotcode/ops"
)

// row is what the chapter says about one operation. told is the field that tells it from others with its opcode:
// off, imm, src or none of them.
type row struct {
	name          string
	form, bits    int
	code          byte
	takesRegister bool
	told          string
	value         int
}

// groups are the rows of the chapter's table, one after the other, with the names, the bits and the opcodes as it has
// them. A single number of bits holds for all names.
var groups = []struct {
	first, last       int
	names, bits, code string
	form              int
}{
	{0, 13, "add64 sub64 mul64 div64 or64 and64 lsh64 rsh64 mod64 xor64 mov64 arsh64 sdiv64 smod64", "64", "07 17 27 37 47 57 67 77 97 a7 b7 c7 37 97", api.Alu},
	{14, 27, "add32 sub32 mul32 div32 or32 and32 lsh32 rsh32 mod32 xor32 mov32 arsh32 sdiv32 smod32", "32", "04 14 24 34 44 54 64 74 94 a4 b4 c4 34 94", api.Alu},
	{28, 29, "neg64 neg32", "64 32", "87 84", api.Unary},
	{30, 34, "movsb64 movsh64 movsw64 movsb32 movsh32", "64 64 64 32 32", "bf bf bf bc bc", api.Extend},
	{35, 43, "le16 le32 le64 be16 be32 be64 bswap16 bswap32 bswap64", "16 32 64 16 32 64 16 32 64", "d4 d4 d4 dc dc dc d7 d7 d7", api.Unary},
	{44, 44, "ja", "0", "05", api.Go},
	{45, 55, "jeq jgt jge jset jne jsgt jsge jlt jle jslt jsle", "64", "15 25 35 45 55 65 75 a5 b5 c5 d5", api.Jump},
	{56, 66, "jeq32 jgt32 jge32 jset32 jne32 jsgt32 jsge32 jlt32 jle32 jslt32 jsle32", "32", "16 26 36 46 56 66 76 a6 b6 c6 d6", api.Jump},
	{67, 67, "call", "0", "85", api.Call},
	{68, 68, "exit", "0", "95", api.Exit},
	{69, 75, "ldxb ldxh ldxw ldxdw ldxsb ldxsh ldxsw", "8 16 32 64 8 16 32", "71 69 61 79 91 89 81", api.Load},
	{76, 79, "stb sth stw stdw", "8 16 32 64", "72 6a 62 7a", api.Store},
	{80, 83, "stxb stxh stxw stxdw", "8 16 32 64", "73 6b 63 7b", api.StoreReg},
	{84, 84, "lddw", "64", "18", api.Wide},
	{85, 85, "ldmap", "64", "18", api.MapRef},
}

// fixed are the values of fields that the paragraph on fixed fields mentions, other than those that follow from the form.
var fixed = map[string]int{
	"sdiv64": 1, "smod64": 1, "sdiv32": 1, "smod32": 1,
	"movsb64": 8, "movsh64": 16, "movsw64": 32, "movsb32": 8, "movsh32": 16,
	"le16": 16, "le32": 32, "le64": 64, "be16": 16, "be32": 32, "be64": 64, "bswap16": 16, "bswap32": 32, "bswap64": 64,
	"ldmap": 1,
}

// absent are numbers of no operation.
var absent = []int{-1, 86, 87, -2, -86, 100, 128, 255, 256, 256 + 1, 1 << 16, 1 << 32, 1<<32 + 5, math.MaxInt32, math.MinInt32, math.MaxInt, math.MinInt}

// fields are the values with which each field is tried: all fixed ones, their neighbours, and ones that are equal to
// them in their last bits.
var fields = []int{0, 1, 2, 8, 16, 32, 64, -1, -8, 3, 7, 9, 15, 17, 24, 31, 33, 63, 65, 128, 256, 256 + 8, 1 << 16, 1<<16 + 1, 1<<16 + 16, 1 << 32, 1<<32 + 1, 1<<32 + 64, math.MaxInt, math.MinInt, math.MinInt + 1}

// rows are the operations, as the chapter tells them.
func rows(t testing.TB) []row {
	t.Helper()
	var l []row
	for _, g := range groups {
		names, bits, codes := strings.Fields(g.names), strings.Fields(g.bits), strings.Fields(g.code)
		if len(names) != len(codes) || len(names) != g.last-g.first+1 || len(l) != g.first {
			t.Fatalf("the table of the test is wrong at %d", g.first)
		}
		for i, name := range names {
			code, err := strconv.ParseUint(codes[i], 16, 8)
			n, err2 := strconv.Atoi(bits[i%len(bits)])
			if err != nil || err2 != nil {
				t.Fatalf("the table of the test is wrong at %s", name)
			}
			told := ""
			switch {
			case g.form == api.Alu || g.form == api.Extend:
				told = "off"
			case strings.HasPrefix(name, "le") || strings.HasPrefix(name, "be") || strings.HasPrefix(name, "bswap"):
				told = "imm"
			case code == 0x18:
				told = "src"
			}
			l = append(l, row{name, g.form, n, byte(code), g.form == api.Alu || g.form == api.Jump, told, fixed[name]})
		}
	}
	return l
}

// identify is P3.5 word by word.
func identify(l []row, code byte, src, off, imm int) (int, bool, bool) {
	for op, r := range l {
		if r.told == "src" && src != r.value || r.told == "off" && off != r.value || r.told == "imm" && imm != r.value {
			continue
		}
		if r.code == code {
			return op, false, true
		}
		if r.takesRegister && r.code+8 == code {
			return op, true, true
		}
	}
	return 0, false, false
}

func checkIdentify(t *testing.T, l []row, code byte, src, off, imm int) {
	t.Helper()
	op, reg, ok := ops.Identify(code, src, off, imm)
	wantOp, wantReg, wantOK := identify(l, code, src, off, imm)
	if op != wantOp || reg != wantReg || ok != wantOK {
		t.Errorf("Identify(%02x, %d, %d, %d) = %d, %v, %v; want %d, %v, %v", code, src, off, imm, op, reg, ok, wantOp, wantReg, wantOK)
	}
}

// TestRows: P3.1.
func TestRows(t *testing.T) {
	l := rows(t)
	if len(l) != 86 || ops.Count() != 86 {
		t.Fatalf("Count() = %d, and the table has %d rows", ops.Count(), len(l))
	}
	for op, want := range l {
		if got := ops.Name(op); got != want.name {
			t.Errorf("Name(%d) = %q; want %q", op, got, want.name)
		}
		if got := ops.Form(op); got != want.form {
			t.Errorf("Form(%d) = %d; want %d (%s)", op, got, want.form, want.name)
		}
		if got := ops.Bits(op); got != want.bits {
			t.Errorf("Bits(%d) = %d; want %d (%s)", op, got, want.bits, want.name)
		}
	}
}

// TestSomeRows: P3.1 and P3.3, for operations written out one by one.
func TestSomeRows(t *testing.T) {
	for _, c := range []struct {
		op         int
		name       string
		form, bits int
		code       byte
	}{
		{0, "add64", 0, 64, 0x07}, {13, "smod64", 0, 64, 0x97}, {14, "add32", 0, 32, 0x04}, {27, "smod32", 0, 32, 0x94},
		{28, "neg64", 1, 64, 0x87}, {29, "neg32", 1, 32, 0x84}, {32, "movsw64", 2, 64, 0xbf}, {33, "movsb32", 2, 32, 0xbc},
		{35, "le16", 1, 16, 0xd4}, {39, "be32", 1, 32, 0xdc}, {43, "bswap64", 1, 64, 0xd7}, {44, "ja", 3, 0, 0x05},
		{45, "jeq", 4, 64, 0x15}, {66, "jsle32", 4, 32, 0xd6}, {67, "call", 5, 0, 0x85}, {68, "exit", 6, 0, 0x95},
		{69, "ldxb", 7, 8, 0x71}, {72, "ldxdw", 7, 64, 0x79}, {75, "ldxsw", 7, 32, 0x81}, {76, "stb", 8, 8, 0x72}, {79, "stdw", 8, 64, 0x7a},
		{80, "stxb", 9, 8, 0x73}, {83, "stxdw", 9, 64, 0x7b}, {84, "lddw", 10, 64, 0x18}, {85, "ldmap", 11, 64, 0x18},
	} {
		code, ok := ops.Code(c.op, false)
		if ops.Name(c.op) != c.name || ops.Form(c.op) != c.form || ops.Bits(c.op) != c.bits || code != c.code || !ok {
			t.Errorf("%d: %s %d %d %02x %v; want %+v", c.op, ops.Name(c.op), ops.Form(c.op), ops.Bits(c.op), code, ok, c)
		}
	}
}

// TestAbsent: P3.1, P3.3 and P3.4, for numbers of no operation.
func TestAbsent(t *testing.T) {
	for _, op := range absent {
		if name, form, bits := ops.Name(op), ops.Form(op), ops.Bits(op); name != "" || form != -1 || bits != 0 {
			t.Errorf("%d has the name %q, the form %d and the bits %d", op, name, form, bits)
		}
		for _, reg := range []bool{false, true} {
			if code, ok := ops.Code(op, reg); code != 0 || ok {
				t.Errorf("Code(%d, %v) = %02x, %v", op, reg, code, ok)
			}
		}
		if src, off, imm := ops.Fixed(op); src != 0 || off != 0 || imm != 0 {
			t.Errorf("Fixed(%d) = %d, %d, %d", op, src, off, imm)
		}
	}
}

// TestFind: P3.2.
func TestFind(t *testing.T) {
	for op, r := range rows(t) {
		if got, ok := ops.Find(r.name); got != op || !ok {
			t.Errorf("Find(%q) = %d, %v; want %d, true", r.name, got, ok, op)
		}
		if got, ok := ops.Find(strings.Clone(ops.Name(op))); got != op || !ok {
			t.Errorf("Find(Name(%d)) = %d, %v", op, got, ok)
		}
	}
}

// TestFindNone: P3.2, for texts that are no names, many of them close to one.
func TestFindNone(t *testing.T) {
	names := map[string]bool{}
	for _, r := range rows(t) {
		names[r.name] = true
	}
	texts := []string{
		"", " ", "add", "sub", "add16", "add8", "64", "32", "neg", "neg16", "mov", "movs", "movsb", "movsw32", "movsb16", "le", "le8", "be", "be8", "bswap", "bswap8",
		"ja32", "jmp", "goto", "j", "jeq64", "jset16", "jge8", "call32", "exit32", "ret", "ldx", "ldxq", "ldxsdw", "st", "stq", "stx", "stxsb", "ldd", "ld", "map", "lddw32", "ldmap64",
		"r0", "L0", "0", "7", "\x00", "é", "ａdd64", "\xff", strings.Repeat("add64", 1000), strings.Repeat("a", 1<<20),
	}
	for name := range names {
		texts = append(texts, strings.ToUpper(name), strings.ToUpper(name[:1])+name[1:], name[1:], name[:len(name)-1], name+" ", " "+name, name+"\x00", name+"\n", "\t"+name,
			name+name, name+":", name+"0", name+"2", "x"+name, name[1:]+name[:1], strings.Replace(name, name[:1], "\u00e9", 1))
	}
	for _, s := range texts {
		if names[s] {
			continue
		}
		if op, ok := ops.Find(s); op != 0 || ok {
			t.Errorf("Find(%.40q) = %d, %v", s, op, ok)
		}
	}
}

// TestCode: P3.3.
func TestCode(t *testing.T) {
	for op, r := range rows(t) {
		if code, ok := ops.Code(op, false); code != r.code || !ok {
			t.Errorf("Code(%d, false) = %02x, %v; want %02x, true (%s)", op, code, ok, r.code, r.name)
		}
		want := byte(0)
		if r.takesRegister {
			want = r.code + 8
		}
		if code, ok := ops.Code(op, true); code != want || ok != r.takesRegister {
			t.Errorf("Code(%d, true) = %02x, %v; want %02x, %v (%s)", op, code, ok, want, r.takesRegister, r.name)
		}
	}
}

// TestFixed: P3.4.
func TestFixed(t *testing.T) {
	for op, r := range rows(t) {
		want := map[string]int{r.told: r.value}
		if src, off, imm := ops.Fixed(op); src != want["src"] || off != want["off"] || imm != want["imm"] {
			t.Errorf("Fixed(%d) = %d, %d, %d; want %v (%s)", op, src, off, imm, want, r.name)
		}
	}
}

// TestIdentifyExamples: P3.5, for the chapter's examples and others like them.
func TestIdentifyExamples(t *testing.T) {
	for _, c := range []struct {
		code          byte
		src, off, imm int
		want          string
		reg           bool
	}{
		{0x0f, 0, 0, 0, "add64", true}, {0x37, 0, 0, 0, "div64", false}, {0x37, 0, 1, 0, "sdiv64", false}, {0x37, 0, 2, 0, "", false}, {0x37, 0, -1, 0, "", false},
		{0x07, 0, 0, 0, "add64", false}, {0x07, 9, 0, 77, "add64", false}, {0x07, 0, 1, 0, "", false}, {0x0f, 0, 1, 0, "", false},
		{0x3f, 0, 0, 0, "div64", true}, {0x3f, 5, 1, 9, "sdiv64", true}, {0x3f, 1, 8, 0, "", false}, {0x9c, 0, 1, 0, "smod32", true}, {0x94, 0, 0, 1, "mod32", false},
		{0xbf, 0, 0, 0, "mov64", true}, {0xbf, 0, 1, 0, "", false}, {0xbf, 0, 8, 0, "movsb64", false}, {0xbf, 0, 16, 0, "movsh64", false}, {0xbf, 0, 32, 0, "movsw64", false}, {0xbf, 0, 64, 0, "", false},
		{0xbc, 0, 0, 0, "mov32", true}, {0xbc, 0, 8, 0, "movsb32", false}, {0xbc, 0, 16, 0, "movsh32", false}, {0xbc, 0, 32, 0, "", false}, {0xb7, 0, 8, 0, "", false},
		{0xd4, 0, 0, 16, "le16", false}, {0xd4, 7, 7, 32, "le32", false}, {0xd4, 0, 0, 64, "le64", false}, {0xd4, 0, 0, 0, "", false}, {0xd4, 0, 0, 8, "", false}, {0xd4, 16, 16, 17, "", false},
		{0xdc, 0, 0, 16, "be16", false}, {0xd7, 0, 0, 64, "bswap64", false}, {0xd7, 0, 0, -64, "", false}, {0xdf, 0, 0, 64, "", false},
		{0x87, 1, 2, 3, "neg64", false}, {0x84, -1, -2, -3, "neg32", false}, {0x8f, 0, 0, 0, "", false}, {0x8c, 0, 0, 0, "", false},
		{0x18, 0, 0, 0, "lddw", false}, {0x18, 1, 0, 0, "ldmap", false}, {0x18, 1, 5, 5, "ldmap", false}, {0x18, 2, 0, 0, "", false}, {0x18, -1, 0, 0, "", false}, {0x20, 0, 0, 0, "", false},
		{0x05, 3, 3, 3, "ja", false}, {0x0d, 0, 0, 0, "", false}, {0x06, 0, 0, 0, "", false}, {0x15, 1, -5, 9, "jeq", false}, {0x1d, 1, -5, 9, "jeq", true}, {0xde, 1, 1, 1, "jsle32", true},
		{0x85, 1, 0, 3, "call", false}, {0x8d, 0, 0, 0, "", false}, {0x95, 9, 9, 9, "exit", false}, {0x9d, 0, 0, 0, "", false},
		{0x71, 1, 2, 3, "ldxb", false}, {0x79, 0, 0, 0, "ldxdw", false}, {0x81, 0, 0, 0, "ldxsw", false}, {0x99, 0, 0, 0, "", false}, {0x7a, 1, 1, 1, "stdw", false}, {0x7b, 1, 1, 1, "stxdw", false}, {0x82, 0, 0, 0, "", false},
		{0x00, 0, 0, 0, "", false}, {0x08, 0, 0, 0, "", false}, {0xff, 0, 0, 0, "", false},
	} {
		op, reg, ok := ops.Identify(c.code, c.src, c.off, c.imm)
		name := ""
		if ok {
			name = ops.Name(op)
		}
		if name != c.want || reg != c.reg || !ok && op != 0 {
			t.Errorf("Identify(%02x, %d, %d, %d) = %d (%q), %v, %v; want %q, %v", c.code, c.src, c.off, c.imm, op, name, reg, ok, c.want, c.reg)
		}
	}
}

// TestIdentify: P3.5, for all opcodes with many fields.
func TestIdentify(t *testing.T) {
	l := rows(t)
	for code := range 256 {
		for _, src := range fields {
			for _, off := range fields {
				checkIdentify(t, l, byte(code), src, off, 0)
				checkIdentify(t, l, byte(code), src, off, 16)
				checkIdentify(t, l, byte(code), 0, off, src)
			}
		}
	}
}

// TestIdentifySmall: P3.5, for all opcodes and each field alone with all small values, which contain all fixed ones.
func TestIdentifySmall(t *testing.T) {
	l := rows(t)
	for code := range 256 {
		for x := -300; x <= 300; x++ {
			checkIdentify(t, l, byte(code), x, 0, 0)
			checkIdentify(t, l, byte(code), 0, x, 0)
			checkIdentify(t, l, byte(code), 0, 0, x)
		}
	}
}

// TestInverse: P3.6.
func TestInverse(t *testing.T) {
	seen := map[[4]int]int{}
	for op := range 86 {
		for _, reg := range []bool{false, true} {
			code, ok := ops.Code(op, reg)
			if !ok {
				continue
			}
			src, off, imm := ops.Fixed(op)
			key := [4]int{int(code), src, off, imm}
			if other, twice := seen[key]; twice {
				t.Errorf("%s and %s are encoded alike", ops.Name(other), ops.Name(op))
			}
			seen[key] = op
			if gotOp, gotReg, gotOK := ops.Identify(code, src, off, imm); gotOp != op || gotReg != reg || !gotOK {
				t.Errorf("Identify of Code(%d, %v) = %d, %v, %v", op, reg, gotOp, gotReg, gotOK)
			}
		}
	}
	if len(seen) != 86+28+22 {
		t.Errorf("%d codes with their fields; want one for each operation, and another one for each with the form Alu or Jump", len(seen))
	}
}

// TestConcurrent: the functions may be called concurrently, and their results stay the same.
func TestConcurrent(t *testing.T) {
	l := rows(t)
	var group sync.WaitGroup
	for range 8 {
		group.Go(func() {
			for op, r := range l {
				if n, ok := ops.Find(r.name); n != op || !ok || ops.Name(op) != r.name {
					t.Errorf("Find(%q) = %d, %v", r.name, n, ok)
				}
			}
		})
	}
	group.Wait()
}

// FuzzIdentify: P3.5.
func FuzzIdentify(f *testing.F) {
	f.Add(byte(0x37), 0, 1, 0)
	f.Add(byte(0xd7), 0, 0, 64)
	f.Add(byte(0x18), 1, 0, 0)
	l := rows(f)
	f.Fuzz(func(t *testing.T, code byte, src, off, imm int) {
		checkIdentify(t, l, code, src, off, imm)
	})
}

// FuzzFind: P3.2.
func FuzzFind(f *testing.F) {
	f.Add("add64")
	f.Add("ADD64")
	f.Add("")
	l := rows(f)
	f.Fuzz(func(t *testing.T, s string) {
		want, wantOK := 0, false
		for op, r := range l {
			if r.name == s {
				want, wantOK = op, true
			}
		}
		if op, ok := ops.Find(s); op != want || ok != wantOK {
			t.Errorf("Find(%q) = %d, %v; want %d, %v", s, op, ok, want, wantOK)
		}
	})
}
