package print_test

import (
	"math"
	"regexp"
	"slices"
	"strconv"
	"strings"
	"sync"
	"testing"

	"slotcode/api"
	"slotcode/insn"
	"slotcode/parse"
	"slotcode/print"
	"slotcode/prog"
)

// Numbers of operations, as the table of chapter 3 has them.
const (
	add64, mov64, neg64, movsb64, ja, jeq, call, exit, ldxb, ldxw, stb, stxb, lddw, ldmap = 0, 10, 28, 30, 44, 45, 67, 68, 69, 71, 76, 80, 84, 85
)

// operations are the names of the operations in the order of their numbers, with the texts of the operands behind the last one of each form.
const operations = `
add64 sub64 mul64 div64 or64 and64 lsh64 rsh64 mod64 xor64 mov64 arsh64 sdiv64 smod64 add32 sub32 mul32 div32 or32 and32 lsh32 rsh32 mod32 xor32 mov32 arsh32 sdiv32 smod32: DST, SECOND
neg64 neg32: DST
movsb64 movsh64 movsw64 movsb32 movsh32: DST, SRC
le16 le32 le64 be16 be32 be64 bswap16 bswap32 bswap64: DST
ja: TARGET
jeq jgt jge jset jne jsgt jsge jlt jle jslt jsle jeq32 jgt32 jge32 jset32 jne32 jsgt32 jsge32 jlt32 jle32 jslt32 jsle32: DST, SECOND, TARGET
call: HELPER
exit:
ldxb ldxh ldxw ldxdw ldxsb ldxsh ldxsw: DST, [SRCOFF]
stb sth stw stdw: [DSTOFF], IMM
stxb stxh stxw stxdw: [DSTOFF], SRC
lddw: DST, IMM
ldmap: DST, MAP
`

// texts are the texts of the instructions with each operation, with words in place of operands.
var texts = func() []string {
	var l []string
	for _, line := range strings.Split(strings.TrimSpace(operations), "\n") {
		names, operands, _ := strings.Cut(line, ":")
		for _, name := range strings.Fields(names) {
			l = append(l, name+operands)
		}
	}
	return l
}()

var (
	registerName = regexp.MustCompile(`\Ar([0-9]|10)\z`)
	identifier   = regexp.MustCompile(`\A[A-Za-z_.][A-Za-z0-9_.]{0,31}\z`)
)

func isIdentifier(s string) bool { return identifier.MatchString(s) && !registerName.MatchString(s) }

// isRight reports whether a statement fulfils the rows of chapter 10's table about each statement.
func isRight(s api.Stmt) bool {
	jumps, refers := false, s.Ins.Op == ldmap
	if insn.Check(s.Ins) == api.OK {
		jumps = strings.HasSuffix(texts[s.Ins.Op], "TARGET")
	}
	for _, label := range s.Labels {
		if !isIdentifier(label) {
			return false
		}
	}
	return insn.Check(s.Ins) == api.OK && (!jumps || s.Ins.Off == 0) && (!refers || s.Ins.Imm == 0) &&
		isIdentifier(s.Target) == jumps && (s.Target == "") != jumps && isIdentifier(s.Map) == refers && (s.Map == "") != refers
}

// code returns what Code has to return.
func code(s api.Stmt) string {
	if !isRight(s) {
		return ""
	}
	x := s.Ins
	dst, src, imm := "r"+strconv.Itoa(x.Dst), "r"+strconv.Itoa(x.Src), strconv.FormatInt(x.Imm, 10)
	second, off, helper := imm, "", ""
	if x.Reg {
		second = src
	}
	if x.Off != 0 {
		off = strconv.Itoa(x.Off)
		if off[0] != '-' {
			off = "+" + off
		}
	}
	if 1 <= x.Imm && x.Imm <= 3 {
		helper = [...]string{"lookup", "update", "delete"}[x.Imm-1]
	}
	name, operands, space := strings.Cut(texts[x.Op], " ")
	if !space {
		return name
	}
	return name + " " + strings.NewReplacer("DST", dst, "SRC", src, "SECOND", second, "OFF", off, "IMM", imm, "TARGET", s.Target, "MAP", s.Map, "HELPER", helper).Replace(operands)
}

// program returns what Program has to return.
func program(p api.Program) string {
	if _, e := prog.Check(p); e != api.OK {
		return ""
	}
	text := ""
	for _, d := range p.Maps {
		text += "map " + d.Name + " " + strconv.Itoa(d.Key) + " " + strconv.Itoa(d.Value) + " " + strconv.Itoa(d.Entries) + "\n"
	}
	for _, s := range p.Stmts {
		for _, label := range s.Labels {
			text += label + ":\n"
		}
		text += code(s) + "\n"
	}
	return text
}

// build returns the program with the maps and the instructions of lines, whether it is correct or not.
func build(lines ...string) api.Program {
	var p api.Program
	var labels []string
	for _, s := range lines {
		items, e := parse.Line(s)
		if e != api.OK {
			panic("the test has the line " + s)
		}
		for _, item := range items {
			switch x := item.(type) {
			case parse.Label:
				labels = append(labels, x.Name)
			case parse.Map:
				p.Maps = append(p.Maps, x.Def)
			case parse.Code:
				p.Stmts = append(p.Stmts, api.Stmt{Labels: labels, Ins: x.Ins, Target: x.Target, Map: x.Map})
				labels = nil
			}
		}
	}
	return p
}

// lists returns all lists of up to n of some elements.
func lists[T any](l []T, n int) [][]T {
	all := [][]T{nil}
	for from := 0; n > 0; n-- {
		end := len(all)
		for _, shorter := range all[from:end] {
			for _, x := range l {
				all = append(all, append(slices.Clone(shorter), x))
			}
		}
		from = end
	}
	return all
}

// correctText is the text of a correct program with an instruction of each form, and with statements without labels, with one and with two.
const correctText = `map m 4 8 16
map n 1 1 1
map map 64 256 1024
a:
b:
mov64 r1, 5
neg64 r2
movsb64 r3, r10
jeq r1, r2, a
c:
ja d
d:
e:
jlt32 r10, -5, c
call update
ldxb r4, [r10-8]
stb [r10-1], -1
f:
stxdw [r9+8], r10
lddw r9, -1
ldmap r1, n
ldmap r2, map
add32 r0, r10
ldxdw r0, [r10]
jne r0, 0, exit
exit
exit:
ja exit
`

func correct() api.Program { return build(strings.Split(strings.TrimSpace(correctText), "\n")...) }

func def(name string, key, value, entries int) api.Def {
	return api.Def{Name: name, Key: key, Value: value, Entries: entries}
}

// copyOf returns a copy of a statement with labels of its own.
func copyOf(s api.Stmt) api.Stmt {
	s.Labels = slices.Clone(s.Labels)
	return s
}

func sameStmt(s, t api.Stmt) bool {
	return prog.Same(api.Program{Stmts: []api.Stmt{s}}, api.Program{Stmts: []api.Stmt{t}})
}

func wantCode(t *testing.T, s api.Stmt, want string) {
	t.Helper()
	before := copyOf(s)
	if got := print.Code(s); got != want {
		t.Errorf("Code(%v) = %q; want %q", s, got, want)
	}
	if !sameStmt(s, before) {
		t.Errorf("Code changes %v to %v", before, s)
	}
}

// checkCode compares Code with the model, and reads what it returns.
func checkCode(t *testing.T, s api.Stmt) {
	t.Helper()
	want := code(s)
	wantCode(t, s, want)
	if want == "" {
		return
	}
	if got, e := parse.Statement(want); got != (parse.Code{Ins: s.Ins, Target: s.Target, Map: s.Map}) || e != api.OK {
		t.Errorf("Statement(%q) = %v, %v; want %v", want, got, e, s)
	}
}

func wantProgram(t *testing.T, p api.Program, want string) {
	t.Helper()
	before := prog.Clone(p)
	if got := print.Program(p); got != want {
		t.Errorf("Program(%.2000v) = %.2000q; want %.2000q", before, got, want)
	}
	if !prog.Same(p, before) {
		t.Errorf("Program changes %.2000v to %.2000v", before, p)
	}
}

// checkProgram compares Program with the model, and reads what it returns.
func checkProgram(t *testing.T, p api.Program) {
	t.Helper()
	want := program(p)
	wantProgram(t, p, want)
	if want != "" {
		wantRead(t, p, want)
	}
}

// wantRead checks that a text is read as a program, with instructions in the lines that the chapter puts them in.
func wantRead(t *testing.T, p api.Program, text string) {
	t.Helper()
	q, lines, line, e := prog.Parse(text)
	if !prog.Same(p, q) || line != 0 || e != api.OK {
		t.Errorf("Parse(%.2000q) = %.2000v, %d, %v; want %.2000v", text, q, line, e, p)
	}
	var want []int
	at := len(p.Maps)
	for _, s := range p.Stmts {
		at += len(s.Labels) + 1
		want = append(want, at)
	}
	if !slices.Equal(lines, want) || strings.Count(text, "\n") != at || !strings.HasSuffix(text, "\n") {
		t.Errorf("Parse(%.2000q) has instructions in the lines %.2000v; want %.2000v", text, lines, want)
	}
}

// TestTexts checks the table of the tests, by the operations that the other tests name.
func TestTexts(t *testing.T) {
	for op, want := range map[int]string{add64: "add64 DST, SECOND", mov64: "mov64 DST, SECOND", neg64: "neg64 DST", movsb64: "movsb64 DST, SRC", 35: "le16 DST", ja: "ja TARGET", jeq: "jeq DST, SECOND, TARGET", 66: "jsle32 DST, SECOND, TARGET", call: "call HELPER", exit: "exit", ldxb: "ldxb DST, [SRCOFF]", ldxw: "ldxw DST, [SRCOFF]", stb: "stb [DSTOFF], IMM", stxb: "stxb [DSTOFF], SRC", lddw: "lddw DST, IMM", ldmap: "ldmap DST, MAP"} {
		if texts[op] != want {
			t.Errorf("the operation %d has the text %q in the test; want %q", op, texts[op], want)
		}
	}
	if len(texts) != 86 {
		t.Errorf("there are %d operations in the test", len(texts))
	}
}

// TestNumber: P11.1.
func TestNumber(t *testing.T) {
	for x, want := range map[int64]string{0: "0", 1: "1", -1: "-1", 7: "7", 9: "9", 10: "10", -10: "-10", 255: "255", 1000000: "1000000", 32768: "32768", -32768: "-32768", 1 << 31: "2147483648", -1 << 31: "-2147483648", 1<<53 + 1: "9007199254740993", math.MaxInt64: "9223372036854775807", math.MinInt64: "-9223372036854775808", math.MinInt64 + 1: "-9223372036854775807"} {
		if got := print.Number(x); got != want {
			t.Errorf("Number(%d) = %q; want %q", x, got, want)
		}
	}
}

// TestMemory: P11.1, written out.
func TestMemory(t *testing.T) {
	for _, c := range []struct {
		reg, off int
		want     string
	}{
		{0, 0, "[r0]"}, {1, 0, "[r1]"}, {10, 0, "[r10]"}, {10, -8, "[r10-8]"}, {10, 8, "[r10+8]"}, {0, 1, "[r0+1]"}, {0, -1, "[r0-1]"}, {9, 10, "[r9+10]"}, {5, 100, "[r5+100]"}, {3, 32767, "[r3+32767]"}, {3, -32768, "[r3-32768]"}, {3, -32767, "[r3-32767]"},
		{-1, 0, ""}, {11, 0, ""}, {-1, 5, ""}, {11, -5, ""}, {256, 0, ""}, {1 << 32, 0, ""}, {math.MaxInt, 0, ""}, {math.MinInt, 0, ""},
		{0, 32768, ""}, {0, -32769, ""}, {10, 65535, ""}, {10, 65536, ""}, {10, -65536, ""}, {1, 1 << 32, ""}, {1, 1<<32 + 5, ""}, {1, -1 << 32, ""}, {1, math.MaxInt, ""}, {1, math.MinInt, ""}, {math.MinInt, math.MinInt, ""}, {11, 32768, ""},
	} {
		if got := print.Memory(c.reg, c.off); got != c.want {
			t.Errorf("Memory(%d, %d) = %q; want %q", c.reg, c.off, got, c.want)
		}
	}
}

// TestMemoryAll: P11.1, for all registers and offsets, and for numbers beside them.
func TestMemoryAll(t *testing.T) {
	for reg := -3; reg <= 14; reg++ {
		name := "[r" + strconv.Itoa(reg)
		for off := -33000; off <= 33000; off++ {
			want := name + "]"
			switch {
			case reg < 0 || reg > 10 || off < -32768 || off > 32767:
				want = ""
			case off > 0:
				want = name + "+" + strconv.Itoa(off) + "]"
			case off < 0:
				want = name + "-" + strconv.Itoa(-off) + "]"
			}
			if got := print.Memory(reg, off); got != want {
				t.Fatalf("Memory(%d, %d) = %q; want %q", reg, off, got, want)
			}
		}
	}
}

// TestCode: P11.2, for each form, written out.
func TestCode(t *testing.T) {
	for _, c := range []struct {
		s    api.Stmt
		want string
	}{
		{api.Stmt{Ins: api.Ins{Op: add64}}, "add64 r0, 0"}, {api.Stmt{Ins: api.Ins{Op: add64, Reg: true}}, "add64 r0, r0"}, {api.Stmt{Ins: api.Ins{Op: mov64, Dst: 1, Imm: -5}}, "mov64 r1, -5"}, {api.Stmt{Ins: api.Ins{Op: mov64, Reg: true, Dst: 1, Src: 10}}, "mov64 r1, r10"}, {api.Stmt{Ins: api.Ins{Op: 27, Dst: 9, Imm: math.MinInt32}}, "smod32 r9, -2147483648"}, {api.Stmt{Ins: api.Ins{Op: 14, Dst: 9, Imm: math.MaxInt32}}, "add32 r9, 2147483647"},
		{api.Stmt{Ins: api.Ins{Op: neg64, Dst: 2}}, "neg64 r2"}, {api.Stmt{Ins: api.Ins{Op: 35}}, "le16 r0"}, {api.Stmt{Ins: api.Ins{Op: 43, Dst: 9}}, "bswap64 r9"},
		{api.Stmt{Ins: api.Ins{Op: movsb64, Dst: 1, Src: 2}}, "movsb64 r1, r2"}, {api.Stmt{Ins: api.Ins{Op: 34, Src: 10}}, "movsh32 r0, r10"},
		{api.Stmt{Ins: api.Ins{Op: ja}, Target: "x"}, "ja x"}, {api.Stmt{Ins: api.Ins{Op: ja}, Target: "ja"}, "ja ja"},
		{api.Stmt{Ins: api.Ins{Op: jeq}, Target: "a.b"}, "jeq r0, 0, a.b"}, {api.Stmt{Ins: api.Ins{Op: jeq, Dst: 10, Imm: -5}, Target: "end"}, "jeq r10, -5, end"}, {api.Stmt{Ins: api.Ins{Op: 66, Reg: true, Dst: 3, Src: 4}, Target: "_"}, "jsle32 r3, r4, _"}, {api.Stmt{Ins: api.Ins{Op: 48, Imm: 255}, Target: "r11"}, "jset r0, 255, r11"},
		{api.Stmt{Ins: api.Ins{Op: call, Imm: 1}}, "call lookup"}, {api.Stmt{Ins: api.Ins{Op: call, Imm: 2}}, "call update"}, {api.Stmt{Ins: api.Ins{Op: call, Imm: 3}}, "call delete"},
		{api.Stmt{Ins: api.Ins{Op: exit}}, "exit"},
		{api.Stmt{Ins: api.Ins{Op: ldxw, Dst: 1, Src: 10, Off: -8}}, "ldxw r1, [r10-8]"}, {api.Stmt{Ins: api.Ins{Op: ldxb, Dst: 2, Src: 3}}, "ldxb r2, [r3]"}, {api.Stmt{Ins: api.Ins{Op: 75, Dst: 4, Src: 5, Off: 32767}}, "ldxsw r4, [r5+32767]"},
		{api.Stmt{Ins: api.Ins{Op: stb, Dst: 10, Off: -1, Imm: 7}}, "stb [r10-1], 7"}, {api.Stmt{Ins: api.Ins{Op: 79, Dst: 1, Imm: -1}}, "stdw [r1], -1"}, {api.Stmt{Ins: api.Ins{Op: 77, Off: 2}}, "sth [r0+2], 0"},
		{api.Stmt{Ins: api.Ins{Op: stxb, Dst: 10, Src: 9, Off: -32768}}, "stxb [r10-32768], r9"}, {api.Stmt{Ins: api.Ins{Op: 83, Dst: 1, Src: 10}}, "stxdw [r1], r10"}, {api.Stmt{Ins: api.Ins{Op: 82, Off: 4}}, "stxw [r0+4], r0"},
		{api.Stmt{Ins: api.Ins{Op: lddw}}, "lddw r0, 0"}, {api.Stmt{Ins: api.Ins{Op: lddw, Dst: 9, Imm: math.MinInt64}}, "lddw r9, -9223372036854775808"}, {api.Stmt{Ins: api.Ins{Op: lddw, Dst: 1, Imm: math.MaxInt64}}, "lddw r1, 9223372036854775807"}, {api.Stmt{Ins: api.Ins{Op: lddw, Dst: 1, Imm: 1 << 32}}, "lddw r1, 4294967296"},
		{api.Stmt{Ins: api.Ins{Op: ldmap, Dst: 1}, Map: "n"}, "ldmap r1, n"}, {api.Stmt{Ins: api.Ins{Op: ldmap}, Map: "map"}, "ldmap r0, map"},
		{api.Stmt{Labels: []string{"a"}, Ins: api.Ins{Op: exit}}, "exit"}, {api.Stmt{Labels: []string{"a", "b", "c"}, Ins: api.Ins{Op: ja}, Target: "b"}, "ja b"}, {api.Stmt{Labels: []string{}, Ins: api.Ins{Op: neg64}}, "neg64 r0"}, // labels are no part of it
	} {
		wantCode(t, c.s, c.want)
		checkCode(t, c.s)
	}
}

// TestCodeWrong: P11.2, for statements that break one of the conditions for themselves, written out.
func TestCodeWrong(t *testing.T) {
	for _, s := range []api.Stmt{
		{Labels: []string{""}, Ins: api.Ins{Op: exit}}, {Labels: []string{"r1"}, Ins: api.Ins{Op: exit}}, {Labels: []string{"a", "1"}, Ins: api.Ins{Op: exit}}, {Labels: []string{"a b", "c"}, Ins: api.Ins{Op: exit}}, {Labels: []string{"a:"}, Ins: api.Ins{Op: exit}}, {Labels: []string{strings.Repeat("a", 33)}, Ins: api.Ins{Op: exit}},
		{Ins: api.Ins{Op: -1}}, {Ins: api.Ins{Op: 86}}, {Ins: api.Ins{Op: math.MinInt}}, {Ins: api.Ins{Op: math.MaxInt}},
		{Ins: api.Ins{Op: exit, Dst: 1}}, {Ins: api.Ins{Op: exit, Reg: true}}, {Ins: api.Ins{Op: neg64, Reg: true}}, {Ins: api.Ins{Op: add64, Off: 1}}, {Ins: api.Ins{Op: add64, Src: 1}}, {Ins: api.Ins{Op: add64, Reg: true, Imm: 1}}, {Ins: api.Ins{Op: ldxb, Imm: 1}},
		{Ins: api.Ins{Op: add64, Dst: 11}}, {Ins: api.Ins{Op: add64, Dst: -1}}, {Ins: api.Ins{Op: add64, Reg: true, Src: 11}}, {Ins: api.Ins{Op: stxb, Src: 11}},
		{Ins: api.Ins{Op: call}}, {Ins: api.Ins{Op: call, Imm: 4}}, {Ins: api.Ins{Op: call, Imm: -1}}, {Ins: api.Ins{Op: add64, Imm: 1 << 31}}, {Ins: api.Ins{Op: stb, Imm: -1<<31 - 1}}, {Ins: api.Ins{Op: ldxb, Off: 32768}}, {Ins: api.Ins{Op: stb, Off: -32769}},
		{Ins: api.Ins{Op: ja, Off: 1}, Target: "a"}, {Ins: api.Ins{Op: jeq, Off: -1}, Target: "a"}, {Ins: api.Ins{Op: ldmap, Imm: 1}, Map: "m"}, {Ins: api.Ins{Op: ldmap, Imm: 255}, Map: "m"},
		{Ins: api.Ins{Op: exit}, Target: "a"}, {Ins: api.Ins{Op: exit}, Map: "m"}, {Ins: api.Ins{Op: ja}, Target: "a", Map: "m"}, {Ins: api.Ins{Op: ldmap}, Target: "a", Map: "m"}, {Ins: api.Ins{Op: exit}, Target: "1"},
		{Ins: api.Ins{Op: ja}}, {Ins: api.Ins{Op: ja}, Target: "r0"}, {Ins: api.Ins{Op: jeq}, Target: "1"}, {Ins: api.Ins{Op: jeq}, Target: "a\n"}, {Ins: api.Ins{Op: ldmap}}, {Ins: api.Ins{Op: ldmap}, Map: "r10"}, {Ins: api.Ins{Op: ldmap}, Map: "é"},
	} {
		wantCode(t, s, "")
		checkCode(t, s)
	}
}

// TestCodeAlone: P11.2, statements for themselves have texts, even if all programs with them are incorrect, or only those without other statements.
func TestCodeAlone(t *testing.T) {
	for _, c := range []struct {
		s    api.Stmt
		want string
	}{
		{api.Stmt{Labels: []string{"a", "a"}, Ins: api.Ins{Op: exit}}, "exit"}, {api.Stmt{Labels: []string{"a", "b", "a"}, Ins: api.Ins{Op: ja}, Target: "c"}, "ja c"}, // ErrDuplicate
		{api.Stmt{Ins: api.Ins{Op: ja}, Target: "a"}, "ja a"}, {api.Stmt{Labels: []string{"a"}, Ins: api.Ins{Op: ja}, Target: "a"}, "ja a"}, {api.Stmt{Ins: api.Ins{Op: ldmap}, Map: "m"}, "ldmap r0, m"}, // ErrUndefined
		{api.Stmt{Ins: api.Ins{Op: mov64, Dst: 10, Imm: 5}}, "mov64 r10, 5"}, {api.Stmt{Ins: api.Ins{Op: neg64, Dst: 10}}, "neg64 r10"}, {api.Stmt{Ins: api.Ins{Op: ldxb, Dst: 10, Src: 10}}, "ldxb r10, [r10]"}, {api.Stmt{Ins: api.Ins{Op: ldmap, Dst: 10}, Map: "m"}, "ldmap r10, m"}, // ErrWrite
		{api.Stmt{Labels: []string{"a"}, Ins: api.Ins{Op: jeq}, Target: "a"}, "jeq r0, 0, a"}, {api.Stmt{Ins: api.Ins{Op: call, Imm: 1}}, "call lookup"}, // ErrEnd
	} {
		wantCode(t, c.s, c.want)
		checkCode(t, c.s)
	}
}

// TestCodeFields: P11.2 and P11.5, for all operations with few values of all fields at a time.
func TestCodeFields(t *testing.T) {
	right := map[int]bool{}
	for op := -1; op <= 86; op++ {
		for _, reg := range []bool{false, true} {
			for _, dst := range []int{0, 9, 10, 11} {
				for _, src := range []int{0, 10, -1} {
					for _, off := range []int{0, 8, -32768, 32768} {
						for _, imm := range []int64{0, 2, -5, 1 << 40} {
							x := api.Ins{Op: op, Reg: reg, Dst: dst, Src: src, Off: off, Imm: imm}
							right[op] = checkWithNames(t, x) || right[op]
						}
					}
				}
			}
		}
		if t.Failed() {
			return
		}
		if right[op] != (0 <= op && op < 86) {
			t.Errorf("something has a text for the operation %d: %v", op, right[op])
		}
	}
}

// checkWithNames checks Code for an instruction, with each of the names that it might refer to. It reports whether there is a text.
func checkWithNames(t *testing.T, x api.Ins) bool {
	t.Helper()
	right := false
	for _, s := range []api.Stmt{{Ins: x}, {Ins: x, Target: "a"}, {Ins: x, Map: "m"}, {Ins: x, Target: "a", Map: "m"}, {Labels: []string{"a", "b"}, Ins: x}, {Labels: []string{"1"}, Ins: x, Target: "a"}, {Labels: []string{"L0"}, Ins: x, Target: "1"}, {Ins: x, Map: "r1"}} {
		checkCode(t, s)
		right = right || code(s) != ""
	}
	return right
}

// TestCodeNumbers: P11.2 and P11.5, for numbers around the bounds of all numbers of bits.
func TestCodeNumbers(t *testing.T) {
	numbers := []int64{math.MinInt64, math.MinInt64 + 1, math.MaxInt64, math.MaxInt64 - 1}
	for bits := range 63 {
		for d := int64(-2); d <= 2; d++ {
			numbers = append(numbers, 1<<bits+d, -1<<bits+d)
		}
	}
	for _, x := range numbers {
		for dst := range 11 {
			checkCode(t, api.Stmt{Ins: api.Ins{Op: mov64, Dst: dst, Imm: x}})
			checkCode(t, api.Stmt{Ins: api.Ins{Op: jeq, Dst: dst, Imm: x}, Target: "a"})
			checkCode(t, api.Stmt{Ins: api.Ins{Op: call, Imm: x}})
			checkCode(t, api.Stmt{Ins: api.Ins{Op: lddw, Dst: dst, Imm: x}})
			checkCode(t, api.Stmt{Ins: api.Ins{Op: ldmap, Dst: dst, Imm: x}, Map: "m"})
			checkCode(t, api.Stmt{Ins: api.Ins{Op: stb, Dst: dst, Off: int(x), Imm: x}})
			checkCode(t, api.Stmt{Ins: api.Ins{Op: stb, Dst: dst, Off: 1, Imm: x}})
			checkCode(t, api.Stmt{Ins: api.Ins{Op: stxb, Dst: dst, Src: 10 - dst, Off: int(x)}})
			checkCode(t, api.Stmt{Ins: api.Ins{Op: ldxb, Dst: dst, Src: 10 - dst, Off: int(x)}})
			checkCode(t, api.Stmt{Ins: api.Ins{Op: ja, Off: int(x)}, Target: "a"})
		}
	}
}

// names are names of all kinds, identifiers and others.
func names() []string {
	l := []string{"", "a", "Z", "_", ".", "a.b_9", "map", "exit", "lookup", "L0", "R1", "r", "r00", "r01", "r11", "r100", "rr1", "r1a", "1", "1a", "9.", "0x1", "-", "-1", "a-b", "a b", " a", "a ", "a:", "a\n", "a;", "#", "\x00", "a\x00", "é", "aé", "\xff", "a\xff", "ａ", "a,", "[r1]"}
	for n := range 11 {
		l = append(l, "r"+strconv.Itoa(n))
	}
	for _, n := range []int{31, 32, 33, 64} {
		l = append(l, strings.Repeat("a", n), "r"+strings.Repeat("1", n-1), strings.Repeat("1", n), strings.Repeat("é", n/2))
	}
	return l
}

// TestNames: P11.2 to P11.5, for all kinds of names in all places where names stand.
func TestNames(t *testing.T) {
	for _, name := range names() {
		right := isIdentifier(name)
		for _, c := range []struct {
			s    api.Stmt
			want string
		}{
			{api.Stmt{Labels: []string{name}, Ins: api.Ins{Op: exit}}, "exit"}, {api.Stmt{Labels: []string{"x", name}, Ins: api.Ins{Op: neg64}}, "neg64 r0"}, {api.Stmt{Labels: []string{name, "x"}, Ins: api.Ins{Op: ja}, Target: "y"}, "ja y"},
			{api.Stmt{Ins: api.Ins{Op: ja}, Target: name}, "ja " + name}, {api.Stmt{Ins: api.Ins{Op: jeq}, Target: name}, "jeq r0, 0, " + name}, {api.Stmt{Ins: api.Ins{Op: ldmap}, Map: name}, "ldmap r0, " + name},
		} {
			if !right {
				c.want = ""
			}
			wantCode(t, c.s, c.want)
			checkCode(t, c.s)
		}
		text, whole := "map "+name+" 1 2 3", "map "+name+" 1 2 3\n"+name+":\nldmap r1, "+name+"\nja "+name+"\n"
		if !right {
			text, whole = "", ""
		}
		if got := print.Def(def(name, 1, 2, 3)); got != text {
			t.Errorf("Def with the name %q = %q; want %q", name, got, text)
		}
		p := api.Program{Maps: []api.Def{def(name, 1, 2, 3)}, Stmts: []api.Stmt{{Labels: []string{name}, Ins: api.Ins{Op: ldmap, Dst: 1}, Map: name}, {Ins: api.Ins{Op: ja}, Target: name}}}
		wantProgram(t, p, whole)
		checkProgram(t, p)
	}
}

// TestDef: P11.3, written out.
func TestDef(t *testing.T) {
	for _, c := range []struct {
		d    api.Def
		want string
	}{
		{def("m", 1, 1, 1), "map m 1 1 1"}, {def("m", 4, 8, 16), "map m 4 8 16"}, {def("m", 64, 256, 1024), "map m 64 256 1024"}, {def("map", 1, 2, 3), "map map 1 2 3"}, {def("a.B_9", 10, 100, 1000), "map a.B_9 10 100 1000"}, {def("r11", 1, 1, 1), "map r11 1 1 1"}, {def(strings.Repeat("x", 32), 1, 1, 1), "map " + strings.Repeat("x", 32) + " 1 1 1"},
		{api.Def{}, ""}, {def("", 1, 1, 1), ""}, {def("r1", 1, 1, 1), ""}, {def("1", 1, 1, 1), ""}, {def("a b", 1, 1, 1), ""}, {def(strings.Repeat("x", 33), 1, 1, 1), ""},
		{def("m", 0, 1, 1), ""}, {def("m", 1, 0, 1), ""}, {def("m", 1, 1, 0), ""}, {def("m", 65, 1, 1), ""}, {def("m", 1, 257, 1), ""}, {def("m", 1, 1, 1025), ""}, {def("m", -1, 1, 1), ""}, {def("m", 1, math.MinInt, 1), ""}, {def("m", 1, 1, math.MaxInt), ""}, {def("m", 1<<32+1, 1, 1), ""}, {def("r1", 0, 0, 0), ""},
	} {
		if got := print.Def(c.d); got != c.want {
			t.Errorf("Def(%v) = %q; want %q", c.d, got, c.want)
		}
	}
}

// TestDefSizes: P11.3 and P11.5, for all permitted sizes, and for others around their bounds.
func TestDefSizes(t *testing.T) {
	sizes := []int{0, 1, 2, 63, 64, 65, 255, 256, 257, 1023, 1024, 1025, -1, -64, 1 << 16, 1<<32 + 1, -1 << 32, math.MaxInt32, math.MaxInt, math.MinInt, math.MinInt + 1}
	for _, key := range sizes {
		for _, value := range sizes {
			for _, entries := range sizes {
				checkDef(t, def("m", key, value, entries))
				checkDef(t, def("1", key, value, entries))
			}
		}
	}
	for n := range 1100 {
		checkDef(t, def("m", n, 1, 1))
		checkDef(t, def("m", 1, n, 1))
		checkDef(t, def("m", 1, 1, n))
	}
}

// checkDef compares Def with the model, and reads what it returns.
func checkDef(t *testing.T, d api.Def) {
	t.Helper()
	want := ""
	if isIdentifier(d.Name) && min(d.Key, d.Value, d.Entries) > 0 && d.Key <= 64 && d.Value <= 256 && d.Entries <= 1024 {
		want = strings.Join([]string{"map", d.Name, strconv.Itoa(d.Key), strconv.Itoa(d.Value), strconv.Itoa(d.Entries)}, " ")
	}
	got := print.Def(d)
	if got != want {
		t.Errorf("Def(%v) = %q; want %q", d, got, want)
	}
	if want == "" {
		return
	}
	if items, e := parse.Line(got); e != api.OK || len(items) != 1 || items[0] != (parse.Map{Def: d}) {
		t.Errorf("Line(%q) = %v, %v; want %v", got, items, e, d)
	}
}

// TestProgram: P11.4, written out.
func TestProgram(t *testing.T) {
	for _, c := range []struct {
		p    api.Program
		want string
	}{
		{correct(), correctText}, {build("exit"), "exit\n"}, {build("x: ja x"), "x:\nja x\n"}, {build("map m 1 1 1", "exit"), "map m 1 1 1\nexit\n"}, {build("map n 1 2 3", "map m 4 5 6", "exit"), "map n 1 2 3\nmap m 4 5 6\nexit\n"},
		{build("y: x: ja x", "ja y"), "y:\nx:\nja x\nja y\n"}, {build("exit", "a: exit", "exit", "b: c: d: exit"), "exit\na:\nexit\nexit\nb:\nc:\nd:\nexit\n"}, {build("unused: mov64 r1, 0xff", "exit"), "unused:\nmov64 r1, 255\nexit\n"}, {build("map m 0x1 01 1", "m:ldmap r1,m", "ja m"), "map m 1 1 1\nm:\nldmap r1, m\nja m\n"},
		{build("mov64 r1, 4294967295", "exit"), "mov64 r1, -1\nexit\n"}, {build("ldxb r1, [ r2 + 65535 ]", "exit"), "ldxb r1, [r2-1]\nexit\n"}, {build("ldxb r1, [r2-0]", "exit"), "ldxb r1, [r2]\nexit\n"},
	} {
		wantProgram(t, c.p, c.want)
		checkProgram(t, c.p)
	}
}

// TestProgramWrong: P11.4, for programs that break one of the conditions, written out.
func TestProgramWrong(t *testing.T) {
	wrong := []api.Program{
		{}, {Maps: []api.Def{}, Stmts: []api.Stmt{}}, build("map m 1 1 1"), build("map m 1 1 1", "map m 2 2 2", "exit"), build("map m 1 1 1", "map n 1 1 1", "map m 1 1 1", "exit"),
		build("ja x"), build("exit", "x: ja y"), build("ldmap r1, m", "exit"), build("map m 1 1 1", "ja m"), build("m: ldmap r1, m", "exit"), build("x: exit", "x: exit"), build("x: x: exit"), build("x: exit", "y: x: ja y"),
		build("mov64 r10, 5", "exit"), build("exit", "ldxb r10, [r10]", "exit"), build("mov64 r0, 5"), build("exit", "neg64 r1"), build("x: jeq r0, 0, x"), build("exit", "call lookup"), build("exit", "stb [r10], 5"),
		{Maps: []api.Def{def("r1", 1, 1, 1)}, Stmts: build("exit").Stmts}, {Maps: []api.Def{def("m", 1, 1, 1), def("n", 1, 257, 1)}, Stmts: build("exit").Stmts}, {Maps: []api.Def{{}}, Stmts: build("exit").Stmts},
		{Stmts: []api.Stmt{{Ins: api.Ins{Op: 86}}, {Ins: api.Ins{Op: exit}}}}, {Stmts: []api.Stmt{{Ins: api.Ins{Op: exit}}, {Labels: []string{"1"}, Ins: api.Ins{Op: exit}}}}, {Stmts: []api.Stmt{{Ins: api.Ins{Op: exit}, Target: "x"}}}, {Stmts: []api.Stmt{{Labels: []string{"x"}, Ins: api.Ins{Op: ja, Off: -1}, Target: "x"}}}, {Stmts: []api.Stmt{{Ins: api.Ins{Op: ja}}}},
	}
	for i := range correct().Stmts {
		for _, change := range []func(s *api.Stmt){
			func(s *api.Stmt) { s.Ins.Op = 86 }, func(s *api.Stmt) { s.Ins.Dst = 11 }, func(s *api.Stmt) { s.Ins.Off = 1 << 15 }, func(s *api.Stmt) { s.Target += "-" }, func(s *api.Stmt) { s.Map += "-" }, func(s *api.Stmt) { s.Labels = append(s.Labels, "") }, func(s *api.Stmt) { s.Labels = append(s.Labels, "x", "x") }, func(s *api.Stmt) { *s = api.Stmt{Ins: api.Ins{Op: mov64, Dst: 10}} }, func(s *api.Stmt) { *s = api.Stmt{Ins: api.Ins{Op: ja}, Target: "x"} },
		} {
			p := correct()
			change(&p.Stmts[i])
			wrong = append(wrong, p)
		}
	}
	for _, p := range wrong {
		wantProgram(t, p, "")
		checkProgram(t, p)
	}
}

// TestProgramSmall: P11.4 and P11.5, for all programs of up to four lines out of some.
func TestProgramSmall(t *testing.T) {
	right := 0
	for _, l := range lists([]string{"exit", "x: ja x", "x: y: exit", "ja y", "map m 1 1 1", "map n 1 2 3", "z: ldmap r1, m", "mov64 r10, 1", "jeq r1, -5, x", "stb [r10+1], 0x10"}, 4) {
		p := build(l...)
		checkProgram(t, p)
		if program(p) != "" {
			right++
		}
		if t.Failed() {
			return
		}
	}
	if right < 1000 {
		t.Errorf("only %d programs are correct", right)
	}
}

// TestProgramManyMaps: P11.4, for about as many maps as are permitted.
func TestProgramManyMaps(t *testing.T) {
	p := build("exit")
	want := ""
	for i := range 258 {
		switch {
		case i > 255:
			wantProgram(t, p, "")
		default:
			wantProgram(t, p, want+"exit\n")
			wantRead(t, p, want+"exit\n")
		}
		p.Maps = append(p.Maps, def("m"+strconv.Itoa(i), 1, 1, i+1))
		want += "map m" + strconv.Itoa(i) + " 1 1 " + strconv.Itoa(i+1) + "\n"
	}
}

// TestProgramChanged: P11.4 and P11.5, for programs that differ in one thing from a correct one.
func TestProgramChanged(t *testing.T) {
	var l []api.Program
	add := func(change func(p *api.Program)) {
		p := correct()
		change(&p)
		l = append(l, p)
	}
	for i := range correct().Maps {
		add(func(p *api.Program) { p.Maps[i].Name += "x" })
		add(func(p *api.Program) { p.Maps[i].Key++ })
		add(func(p *api.Program) { p.Maps[i].Value++ })
		add(func(p *api.Program) { p.Maps[i].Entries++ })
		add(func(p *api.Program) { p.Maps = slices.Delete(p.Maps, i, i+1) })
		add(func(p *api.Program) { slices.Reverse(p.Maps[i:]) })
	}
	for i := range correct().Stmts {
		for op := -1; op <= 86; op++ {
			add(func(p *api.Program) { p.Stmts[i].Ins.Op = op })
		}
		add(func(p *api.Program) { p.Stmts[i].Ins.Reg = !p.Stmts[i].Ins.Reg })
		add(func(p *api.Program) { p.Stmts[i].Ins.Dst++ })
		add(func(p *api.Program) { p.Stmts[i].Ins.Src-- })
		add(func(p *api.Program) { p.Stmts[i].Ins.Off += 9 })
		add(func(p *api.Program) { p.Stmts[i].Ins.Imm++ })
		add(func(p *api.Program) { p.Stmts[i].Target = "e" })
		add(func(p *api.Program) { p.Stmts[i].Map = "m" })
		add(func(p *api.Program) { p.Stmts[i].Labels = append(p.Stmts[i].Labels, "x") })
		add(func(p *api.Program) { slices.Reverse(p.Stmts[i].Labels) })
		add(func(p *api.Program) { p.Stmts[i].Labels = nil })
		add(func(p *api.Program) { p.Stmts = slices.Delete(p.Stmts, i, i+1) })
		add(func(p *api.Program) { slices.Reverse(p.Stmts[i:]) })
	}
	seen := map[string]api.Program{}
	for _, p := range l {
		checkProgram(t, p)
		text := print.Program(p)
		if q, found := seen[text]; found && text != "" && !prog.Same(p, q) {
			t.Errorf("two programs have the text %q", text)
		}
		seen[text] = p
	}
	if len(seen) < 300 {
		t.Errorf("only %d programs have texts", len(seen))
	}
}

// TestSpaces: P11.5, spaces, comments and the bases of numbers do not change the text of what was read.
func TestSpaces(t *testing.T) {
	const want = "map m 4 8 16\na:\nb:\njeq r1, -5, b\nldxw r2, [r10-8]\nstdw [r10+16], 7\nlddw r3, 255\nldmap r1, m\nc:\nexit\n"
	for _, s := range []string{
		want, want[:len(want)-1], strings.ReplaceAll(want, "\n", " ; map: exit\n"), strings.ReplaceAll(want, "\n", "#\xff\n"), strings.ReplaceAll(want, "\n", "\r\n"), strings.ReplaceAll(want, "\n", "\n\n"), strings.ReplaceAll(want, " ", "\t "), strings.ReplaceAll(want, ", ", ","), strings.ReplaceAll(want, ":\n", ": "), strings.ReplaceAll(want, ":\n", ":"), strings.ReplaceAll(want, ":\n", " :\n;\n\n"), "; c\n" + want + "# d",
		strings.NewReplacer(" 4", " 0x4", "-5", "-0x0005", "255", "0xFF", "-8]", " - 8 ]", "+16", "+0x10", " 7", " 007").Replace(want), strings.NewReplacer("-5", "4294967291", "-8", "+65528", " 7", " 0x0000007").Replace(want), strings.NewReplacer("-5", "0xfffffffb", "-8", "+0xFFF8", " 255", "\t0xfF").Replace(want),
	} {
		p, _, line, e := prog.Parse(s)
		if e != api.OK {
			t.Errorf("Parse(%q) has the error %v in line %d", s, e, line)
		}
		wantProgram(t, p, want)
	}
	for line, want := range map[string]string{
		" mov64\tr1 , 0x10 ; c": "mov64 r1, 16", "mov64 r1,4294967295": "mov64 r1, -1", "mov64 r1,-0": "mov64 r1, 0", "ldxb r1,[r2+0]": "ldxb r1, [r2]", "ldxb r1 , [ r2 - 0x8000 ]": "ldxb r1, [r2-32768]", "ldxb r1, [r2+0x8000]": "ldxb r1, [r2-32768]", "stw [r1-0001],-0x1#": "stw [r1-1], -1", "exit;": "exit", "call  update": "call update", "lddw r1, 0xFFFFFFFFFFFFFFFF": "lddw r1, -1", "lddw r1, 9223372036854775808": "lddw r1, -9223372036854775808", "jeq r1,r2,x": "jeq r1, r2, x",
	} {
		c, e := parse.Statement(line)
		if e != api.OK {
			t.Errorf("Statement(%q) has the error %v", line, e)
		}
		checkCode(t, api.Stmt{Ins: c.Ins, Target: c.Target, Map: c.Map})
		wantCode(t, api.Stmt{Ins: c.Ins, Target: c.Target, Map: c.Map}, want)
	}
}

// TestLengths: rule 4, what lies behind the length of a slice is neither read nor written.
func TestLengths(t *testing.T) {
	p := build("map m 1 1 1", "map n 2 2 2", "exit", "neg64 r1")
	labels := []string{"x", "y", "z"}
	p.Stmts[0].Labels = labels[:1]
	maps, stmts := p.Maps, p.Stmts
	p.Maps, p.Stmts = maps[:1], stmts[:1]
	wantProgram(t, p, "map m 1 1 1\nx:\nexit\n")
	labels[1] = "1"
	wantCode(t, p.Stmts[0], "exit")
	if !slices.Equal(labels, []string{"x", "1", "z"}) || maps[1] != def("n", 2, 2, 2) || !sameStmt(stmts[1], api.Stmt{Ins: api.Ins{Op: neg64, Dst: 1}}) {
		t.Error("something is written behind slices")
	}
}

// TestKept: rules 4 and 7, a text does not change with the program, nor with other calls.
func TestKept(t *testing.T) {
	p := correct()
	text, line, d := print.Program(p), print.Code(p.Stmts[3]), print.Def(p.Maps[0])
	p.Maps[0].Name, p.Stmts[0].Labels[0], p.Stmts[3].Target, p.Stmts[3].Ins.Imm = "o", "g", "g", 7
	changed := print.Program(p)
	if text != correctText || line != "jeq r1, r2, a" || d != "map m 4 8 16" || changed != "" {
		t.Errorf("texts change: %q, %q, %q, %q", text, line, d, changed)
	}
	if print.Program(correct()) != correctText {
		t.Error("a later text is another one")
	}
}

// TestLong: P1 and P11.4, for long programs that take too long if the text is copied for each line.
func TestLong(t *testing.T) {
	const n = 1 << 16
	p := build("exit")
	var want strings.Builder
	for i := range n {
		label, target := "l"+strconv.Itoa(i), "xl"+strconv.Itoa(n-1-i)
		p.Stmts = append(p.Stmts, api.Stmt{Labels: []string{label, "x" + label}, Ins: api.Ins{Op: ja}, Target: target})
		want.WriteString(label + ":\nx" + label + ":\nja " + target + "\n")
	}
	wantProgram(t, p, "exit\n"+want.String())
	wantRead(t, p, "exit\n"+want.String())
	p.Stmts[n].Target = "y"
	wantProgram(t, p, "")
	s := api.Stmt{Ins: api.Ins{Op: exit}}
	for i := range n {
		s.Labels = append(s.Labels, "l"+strconv.Itoa(i))
	}
	wantCode(t, s, "exit")
	wantProgram(t, api.Program{Stmts: []api.Stmt{s}}, strings.Join(s.Labels, ":\n")+":\nexit\n")
	wantProgram(t, api.Program{Maps: make([]api.Def, n), Stmts: p.Stmts}, "")
	long := strings.Repeat("x", 1<<24)
	wantCode(t, api.Stmt{Ins: api.Ins{Op: ja}, Target: long}, "")
	if got := print.Def(def(long, 1, 1, 1)); got != "" {
		t.Errorf("Def of a long name = %.40q…", got)
	}
}

// TestConcurrent: the functions may be called concurrently (rule 6), and depend on their arguments only (rule 7).
func TestConcurrent(t *testing.T) {
	shared := correct()
	var group sync.WaitGroup
	for range 4 {
		group.Go(func() {
			for i := range 200 {
				wantProgram(t, shared, correctText)
				checkCode(t, shared.Stmts[i%len(shared.Stmts)])
				checkDef(t, shared.Maps[i%len(shared.Maps)])
			}
		})
	}
	group.Wait()
}

func FuzzCode(f *testing.F) {
	f.Add(jeq, true, 1, 2, 0, int64(0), "", "x", "")
	f.Add(ldxw, false, 1, 10, -8, int64(0), "a", "", "")
	f.Add(stb, false, 10, 0, -32768, int64(-1), "r1", "", "")
	f.Add(ldmap, false, 3, 0, 0, int64(0), "a", "", "m")
	f.Add(call, false, 0, 0, 0, int64(3), "1", "", "")
	f.Fuzz(func(t *testing.T, op int, reg bool, dst, src, off int, imm int64, label, target, m string) {
		x := api.Ins{Op: op, Reg: reg, Dst: dst, Src: src, Off: off, Imm: imm}
		checkCode(t, api.Stmt{Ins: x, Target: target, Map: m})
		checkCode(t, api.Stmt{Labels: []string{label}, Ins: x, Target: target, Map: m})
		checkProgram(t, api.Program{Maps: []api.Def{def(m, dst, src, off)}, Stmts: []api.Stmt{{Labels: []string{label}, Ins: x, Target: target, Map: m}, {Ins: api.Ins{Op: exit}}}})
		checkDef(t, def(label, dst, src, off))
	})
}

func FuzzProgram(f *testing.F) {
	for _, s := range []string{correctText, "exit", "x:\ny: ja x;", "map m 64 256 1024\nldmap r1, m\nexit", "ldxb r1, [r2+0xffff]\nexit", "stdw [r1 - 1], -0x10\r\nexit", "x: exit\nx: exit"} {
		f.Add(s)
	}
	f.Fuzz(func(t *testing.T, s string) {
		p, _, _, e := prog.Parse(s)
		if e == api.OK && program(p) == "" {
			t.Errorf("the program of %q has no text in the test", s)
		}
		checkProgram(t, p)
	})
}
