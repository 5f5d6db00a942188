package parse_test

import (
	"fmt"
	"math"
	"regexp"
	"slices"
	"strconv"
	"strings"
	"sync"
	"testing"

	"slotcode/api"
	"slotcode/insn"
	"slotcode/lex"
	"slotcode/num"
	"slotcode/parse"
)

// form is a row of the chapter's table: the operations in the order of their numbers, and the operands between the tokens.
type form struct {
	number   int
	names    string
	first    int // number of the first operation
	operands string
}

var forms = []form{
	{api.Alu, "add64 sub64 mul64 div64 or64 and64 lsh64 rsh64 mod64 xor64 mov64 arsh64 sdiv64 smod64 add32 sub32 mul32 div32 or32 and32 lsh32 rsh32 mod32 xor32 mov32 arsh32 sdiv32 smod32", 0, "dst , second"},
	{api.Unary, "neg64 neg32", 28, "dst"},
	{api.Extend, "movsb64 movsh64 movsw64 movsb32 movsh32", 30, "dst , src"},
	{api.Unary, "le16 le32 le64 be16 be32 be64 bswap16 bswap32 bswap64", 35, "dst"},
	{api.Go, "ja", 44, "target"},
	{api.Jump, "jeq jgt jge jset jne jsgt jsge jlt jle jslt jsle jeq32 jgt32 jge32 jset32 jne32 jsgt32 jsge32 jlt32 jle32 jslt32 jsle32", 45, "dst , second , target"},
	{api.Call, "call", 67, "helper"},
	{api.Exit, "exit", 68, ""},
	{api.Load, "ldxb ldxh ldxw ldxdw ldxsb ldxsh ldxsw", 69, "dst , [ src off ]"},
	{api.Store, "stb sth stw stdw", 76, "[ dst off ] , imm32"},
	{api.StoreReg, "stxb stxh stxw stxdw", 80, "[ dst off ] , src"},
	{api.Wide, "lddw", 84, "dst , imm64"},
	{api.MapRef, "ldmap", 85, "dst , map"},
}

// operand is an operand of the chapter's table: a pattern of its tokens, and what it means.
type operand struct {
	tokens string
	put    func(c *parse.Code, text string) api.Errno
}

const word = `[A-Za-z0-9_.]+`

var operands = map[string]operand{
	"dst":    {word, func(c *parse.Code, text string) api.Errno { return putRegister(&c.Ins.Dst, text) }},
	"src":    {word, func(c *parse.Code, text string) api.Errno { return putRegister(&c.Ins.Src, text) }},
	"second": {`(?:- )?` + word, putSecond},
	"imm32":  {`(?:- )?` + word, func(c *parse.Code, text string) api.Errno { return putNumber(&c.Ins.Imm, text, 32) }},
	"imm64":  {`(?:- )?` + word, func(c *parse.Code, text string) api.Errno { return putNumber(&c.Ins.Imm, text, 64) }},
	"off":    {`(?: [+-] ` + word + `)?`, putOff},
	"target": {word, func(c *parse.Code, text string) api.Errno { return putName(&c.Target, text) }},
	"map":    {word, func(c *parse.Code, text string) api.Errno { return putName(&c.Map, text) }},
	"helper": {word, putHelper},
}

var (
	registerName = regexp.MustCompile(`\Ar([0-9]|10)\z`)
	identifier   = regexp.MustCompile(`\A[A-Za-z_.][A-Za-z0-9_.]{0,31}\z`)
	label        = regexp.MustCompile(`\A(` + word + `) :(?: |\z)`)
	firstWord    = regexp.MustCompile(`\A(` + word + `)(?: |\z)`)
	mapShape     = regexp.MustCompile(`\Amap (` + word + `) (` + word + `) (` + word + `) (` + word + `)\z`)
)

func putRegister(field *int, text string) api.Errno {
	m := registerName.FindStringSubmatch(text)
	if m == nil {
		return api.ErrRegister
	}
	*field, _ = strconv.Atoi(m[1])
	return api.OK
}

func putNumber(field *int64, text string, bits int) api.Errno {
	x, e := num.Parse(strings.ReplaceAll(text, " ", ""), bits)
	*field = x
	return e
}

func putSecond(c *parse.Code, text string) api.Errno {
	if registerName.MatchString(text) {
		c.Ins.Reg = true
		return putRegister(&c.Ins.Src, text)
	}
	return putNumber(&c.Ins.Imm, text, 32)
}

func putOff(c *parse.Code, text string) api.Errno {
	if text == "" {
		return api.OK
	}
	x, e := num.Parse(strings.NewReplacer(" ", "", "+", "").Replace(text), 16)
	c.Ins.Off = int(x)
	return e
}

func isIdentifier(s string) bool { return identifier.MatchString(s) && !registerName.MatchString(s) }

func putName(field *string, text string) api.Errno {
	if !isIdentifier(text) {
		return api.ErrName
	}
	*field = text
	return api.OK
}

func putHelper(c *parse.Code, text string) api.Errno {
	n, ok := map[string]int64{"lookup": 1, "update": 2, "delete": 3}[text]
	if !ok {
		return api.ErrName
	}
	c.Ins.Imm = n
	return api.OK
}

// operation is what the model knows of an operation.
type operation struct {
	op   int
	form *form
	all  *regexp.Regexp // of the operands, with the names of the operands
}

var operations = makeOperations()

func makeOperations() map[string]operation {
	all := map[string]operation{}
	for i := range forms {
		f := &forms[i]
		pattern := ""
		for _, part := range strings.Fields(f.operands) {
			text := " " + regexp.QuoteMeta(part)
			if o, ok := operands[part]; ok {
				text = " (?P<" + part + ">" + o.tokens + ")"
			}
			if part == "off" {
				text = text[1:] // its pattern begins with the space
			}
			pattern += text
		}
		re := regexp.MustCompile(`\A` + pattern + `\z`)
		for n, name := range strings.Fields(f.names) {
			all[name] = operation{f.first + n, f, re}
		}
	}
	return all
}

// names returns the names of all operations.
func names() []string {
	var l []string
	for _, f := range forms {
		l = append(l, strings.Fields(f.names)...)
	}
	return l
}

// line says what the chapter requires of Line, with regular expressions on the tokens separated by spaces.
func line(s string) ([]parse.Item, api.Errno) {
	l, _, e := lex.Tokens(s)
	if e != api.OK {
		return nil, api.ErrSyntax
	}
	var texts []string
	for _, x := range l {
		texts = append(texts, x.Text)
	}
	rest := strings.Join(texts, " ")
	var items []parse.Item
	for m := label.FindStringSubmatch(rest); m != nil; m = label.FindStringSubmatch(rest) {
		if !isIdentifier(m[1]) {
			return nil, api.ErrName
		}
		items = append(items, parse.Label{Name: m[1]})
		rest = rest[len(m[0]):]
	}
	if rest == "" {
		return items, api.OK
	}
	m := firstWord.FindStringSubmatch(rest)
	if m == nil {
		return nil, api.ErrSyntax
	}
	var item parse.Item
	if m[1] == "map" {
		item, e = declaration(rest)
	} else {
		item, e = instruction(m[1], rest[len(m[1]):])
	}
	if e != api.OK {
		return nil, e
	}
	return append(items, item), api.OK
}

func declaration(text string) (parse.Item, api.Errno) {
	m := mapShape.FindStringSubmatch(text)
	if m == nil {
		return nil, api.ErrSyntax
	}
	if !isIdentifier(m[1]) {
		return nil, api.ErrName
	}
	var sizes []int
	for _, s := range m[2:] {
		x, e := num.Parse(s, 32)
		if e != api.OK {
			return nil, e
		}
		sizes = append(sizes, int(x))
	}
	for i, greatest := range []int{64, 256, 1024} {
		if sizes[i] < 1 || sizes[i] > greatest {
			return nil, api.ErrMap
		}
	}
	return parse.Map{Def: api.Def{Name: m[1], Key: sizes[0], Value: sizes[1], Entries: sizes[2]}}, api.OK
}

func instruction(name, rest string) (parse.Item, api.Errno) {
	o, ok := operations[name]
	if !ok {
		return nil, api.ErrOp
	}
	m := o.all.FindStringSubmatch(rest)
	if m == nil {
		return nil, api.ErrSyntax
	}
	c := parse.Code{Ins: api.Ins{Op: o.op}}
	for i, operand := range o.all.SubexpNames() {
		if i == 0 {
			continue
		}
		if e := operands[operand].put(&c, m[i]); e != api.OK {
			return nil, e
		}
	}
	return c, api.OK
}

// statement says what P9.3 requires of Statement, by the result of Line.
func statement(items []parse.Item, e api.Errno) (parse.Code, api.Errno) {
	if e != api.OK {
		return parse.Code{}, e
	}
	if len(items) == 1 && items[0].Kind() == parse.OfCode {
		return items[0].(parse.Code), api.OK
	}
	return parse.Code{}, api.ErrSyntax
}

// short returns the beginning of the text of a value, which may be long.
func short(value any) string {
	s := fmt.Sprintf("%+v", value)
	if len(s) > 200 {
		return s[:200] + "…"
	}
	return s
}

// checkLine: P9.1 to P9.4 for a line.
func checkLine(t *testing.T, s string) {
	t.Helper()
	want, wantError := line(s)
	wantLine(t, s, want, wantError)
	wantCode, wantError := statement(want, wantError)
	if got, e := parse.Statement(s); got != wantCode || e != wantError {
		t.Errorf("Statement(%.80q) = %+v, %v; want %+v, %v", s, got, e, wantCode, wantError)
	}
}

func wantLine(t *testing.T, s string, want []parse.Item, wantError api.Errno) {
	t.Helper()
	items, e := parse.Line(s)
	if !slices.Equal(items, want) || e != wantError {
		t.Errorf("Line(%.80q) = %s, %v; want %s, %v", s, short(items), e, short(want), wantError)
	}
	for _, item := range items {
		checkItem(t, item)
	}
}

// checkItem: P9.2 and P9.4 for an item of a line.
func checkItem(t *testing.T, item parse.Item) {
	t.Helper()
	want, wantError := parse.Code{}, api.ErrSyntax
	kind := parse.OfLabel
	switch x := item.(type) {
	case parse.Label:
	case parse.Map:
		kind = parse.OfMap
	case parse.Code:
		kind, want, wantError = parse.OfCode, x, api.OK
		if e := insn.Check(x.Ins); e != api.OK {
			t.Errorf("the instruction %+v is not correct: %v", x, e)
		}
	default:
		t.Errorf("the item %+v has the type %T", item, item)
	}
	if got := item.Kind(); got != kind {
		t.Errorf("Kind of %+v = %d; want %d", item, got, kind)
	}
	checkCode(t, item, want, wantError)
}

// checkCode: P9.2, for an item that is the Code want, or none.
func checkCode(t *testing.T, item parse.Item, want parse.Code, wantError api.Errno) {
	t.Helper()
	if got, ok := parse.AsCode(item); got != want || ok != (wantError == api.OK) {
		t.Errorf("AsCode(%T) = %+v, %v; want %+v, %v", item, got, ok, want, wantError)
	}
	if got := parse.Catch(item); got != wantError {
		t.Errorf("Catch(%T) = %v; want %v", item, got, wantError)
	}
	got, thrown := mustCode(item)
	if wantThrown := any(api.ErrSyntax); wantError == api.OK && thrown != nil || wantError != api.OK && thrown != wantThrown {
		t.Errorf("MustCode(%T) panics with %#v; want %v", item, thrown, wantError)
	}
	if got != want {
		t.Errorf("MustCode(%T) = %+v; want %+v", item, got, want)
	}
}

// mustCode returns the result of MustCode, or the value with which it panics.
func mustCode(item parse.Item) (c parse.Code, thrown any) {
	defer func() { thrown = recover() }()
	return parse.MustCode(item), nil
}

func code(op int, x api.Ins, target, named string) []parse.Item {
	x.Op = op
	return []parse.Item{parse.Code{Ins: x, Target: target, Map: named}}
}

// TestInstructions: P9.1, for each form, with the results written out.
func TestInstructions(t *testing.T) {
	for _, c := range []struct {
		line string
		want []parse.Item
	}{
		{"add64 r1, r2", code(0, api.Ins{Reg: true, Dst: 1, Src: 2}, "", "")},
		{"add64 r1, 5", code(0, api.Ins{Dst: 1, Imm: 5}, "", "")},
		{"add64 r1, -5", code(0, api.Ins{Dst: 1, Imm: -5}, "", "")},
		{"add64 r1, - 5", code(0, api.Ins{Dst: 1, Imm: -5}, "", "")},
		{"mov64 r10, r0", code(10, api.Ins{Reg: true, Dst: 10}, "", "")},
		{"mov32 r0, 0xFFFFffff", code(24, api.Ins{Imm: -1}, "", "")},
		{"smod32 r9, -0x80000000", code(27, api.Ins{Dst: 9, Imm: math.MinInt32}, "", "")},
		{"neg64 r3", code(28, api.Ins{Dst: 3}, "", "")},
		{"bswap64 r10", code(43, api.Ins{Dst: 10}, "", "")},
		{"movsb64 r1, r2", code(30, api.Ins{Dst: 1, Src: 2}, "", "")},
		{"movsh32 r10, r9", code(34, api.Ins{Dst: 10, Src: 9}, "", "")},
		{"ja end", code(44, api.Ins{}, "end", "")},
		{"ja map", code(44, api.Ins{}, "map", "")},
		{"ja exit", code(44, api.Ins{}, "exit", "")},
		{"ja r11", code(44, api.Ins{}, "r11", "")},
		{"jeq r1, r2, end", code(45, api.Ins{Reg: true, Dst: 1, Src: 2}, "end", "")},
		{"jeq r1, 7, end", code(45, api.Ins{Dst: 1, Imm: 7}, "end", "")},
		{"jsle32 r10, -7, .x", code(66, api.Ins{Dst: 10, Imm: -7}, ".x", "")},
		{"call lookup", code(67, api.Ins{Imm: 1}, "", "")},
		{"call update", code(67, api.Ins{Imm: 2}, "", "")},
		{"call delete", code(67, api.Ins{Imm: 3}, "", "")},
		{"exit", code(68, api.Ins{}, "", "")},
		{"ldxb r0, [r10]", code(69, api.Ins{Src: 10}, "", "")},
		{"ldxw r1, [r2+4]", code(71, api.Ins{Dst: 1, Src: 2, Off: 4}, "", "")},
		{"ldxsw r1, [r2-4]", code(75, api.Ins{Dst: 1, Src: 2, Off: -4}, "", "")},
		{"ldxdw r1, [r2+0xffff]", code(72, api.Ins{Dst: 1, Src: 2, Off: -1}, "", "")},
		{"stb [r1], 5", code(76, api.Ins{Dst: 1, Imm: 5}, "", "")},
		{"sth [r1], -5", code(77, api.Ins{Dst: 1, Imm: -5}, "", "")},
		{"stw [r1+2], 5", code(78, api.Ins{Dst: 1, Off: 2, Imm: 5}, "", "")},
		{"stdw [r1+2], -5", code(79, api.Ins{Dst: 1, Off: 2, Imm: -5}, "", "")},
		{"stb [r10-2], 5", code(76, api.Ins{Dst: 10, Off: -2, Imm: 5}, "", "")},
		{"stb [r10-2], -5", code(76, api.Ins{Dst: 10, Off: -2, Imm: -5}, "", "")},
		{"stxb [r1], r2", code(80, api.Ins{Dst: 1, Src: 2}, "", "")},
		{"stxdw [r1+3], r2", code(83, api.Ins{Dst: 1, Src: 2, Off: 3}, "", "")},
		{"stxw [r10-0x8], r2", code(82, api.Ins{Dst: 10, Src: 2, Off: -8}, "", "")},
		{"lddw r1, 0xffffffffffffffff", code(84, api.Ins{Dst: 1, Imm: -1}, "", "")},
		{"lddw r1, 4294967296", code(84, api.Ins{Dst: 1, Imm: 1 << 32}, "", "")},
		{"lddw r1, -9223372036854775808", code(84, api.Ins{Dst: 1, Imm: math.MinInt64}, "", "")},
		{"ldmap r1, n", code(85, api.Ins{Dst: 1}, "", "n")},
		{"ldmap r10, lookup", code(85, api.Ins{Dst: 10}, "", "lookup")},
	} {
		wantLine(t, c.line, c.want, api.OK)
		wantLine(t, "a:"+c.line, append([]parse.Item{parse.Label{Name: "a"}}, c.want...), api.OK)
		checkLine(t, c.line)
	}
}

// TestLabels: P9.1, for lines with labels, and for the chapter's example.
func TestLabels(t *testing.T) {
	const long = "a2345678901234567890123456789012"
	named := func(l ...string) (items []parse.Item) {
		for _, s := range l {
			items = append(items, parse.Label{Name: s})
		}
		return items
	}
	exit := code(68, api.Ins{}, "", "")
	for _, c := range []struct {
		line string
		want []parse.Item
		e    api.Errno
	}{
		{"a: b: jeq r1, -5, end", append(named("a", "b"), code(45, api.Ins{Dst: 1, Imm: -5}, "end", "")...), api.OK}, // the chapter's example
		{"", nil, api.OK}, {" \t\r", nil, api.OK}, {"; a:", nil, api.OK}, {"#@", nil, api.OK},
		{"a:", named("a"), api.OK}, {"a :", named("a"), api.OK}, {"a:b:c:", named("a", "b", "c"), api.OK}, {"b: a: a: b:", named("b", "a", "a", "b"), api.OK},
		{"map:", named("map"), api.OK}, {"exit:", named("exit"), api.OK}, {"exit: exit", append(named("exit"), exit...), api.OK}, {"lookup:", named("lookup"), api.OK},
		{"r11:", named("r11"), api.OK}, {"R1:", named("R1"), api.OK}, {"r00:", named("r00"), api.OK}, {"_:.:", named("_", "."), api.OK}, {long + ":", named(long), api.OK},
		{"map: map: map map 1 2 3", append(named("map", "map"), parse.Map{Def: api.Def{Name: "map", Key: 1, Value: 2, Entries: 3}}), api.OK},
		{long + "3:", nil, api.ErrName}, {"1:", nil, api.ErrName}, {"r0:", nil, api.ErrName}, {"r10: exit", nil, api.ErrName}, {"0x1:", nil, api.ErrName}, {"a: 1a: exit", nil, api.ErrName}, {"1: a: exit", nil, api.ErrName},
		{":", nil, api.ErrSyntax}, {"::", nil, api.ErrSyntax}, {"a::", nil, api.ErrSyntax}, {": a", nil, api.ErrSyntax}, {"a: :exit", nil, api.ErrSyntax}, {"a: ,", nil, api.ErrSyntax}, {"a: [r1]", nil, api.ErrSyntax}, {"-a:", nil, api.ErrSyntax}, {"+", nil, api.ErrSyntax},
		{"a: exit b:", nil, api.ErrSyntax}, {"exit exit", nil, api.ErrSyntax}, {"exit:exit:exit:exit exit", nil, api.ErrSyntax}, {"a, b:", nil, api.ErrOp}, {"a b:", nil, api.ErrOp}, {"a", nil, api.ErrOp}, {"a: b", nil, api.ErrOp},
	} {
		wantLine(t, c.line, c.want, c.e)
		checkLine(t, c.line)
	}
}

// TestMaps: P9.1, for declarations of maps.
func TestMaps(t *testing.T) {
	for _, c := range []struct {
		line                string
		key, value, entries int // of the map m
		e                   api.Errno
	}{
		{"map m 4 8 16", 4, 8, 16, api.OK}, {"map m 1 1 1", 1, 1, 1, api.OK}, {"map m 64 256 1024", 64, 256, 1024, api.OK}, {"map m 0x40 0x100 0x400 ; all", 64, 256, 1024, api.OK}, {" map\tm\r007 008 009", 7, 8, 9, api.OK},
		{"map m 0 1 1", 0, 0, 0, api.ErrMap}, {"map m 1 0 1", 0, 0, 0, api.ErrMap}, {"map m 1 1 0", 0, 0, 0, api.ErrMap},
		{"map m 65 1 1", 0, 0, 0, api.ErrMap}, {"map m 1 257 1", 0, 0, 0, api.ErrMap}, {"map m 1 1 1025", 0, 0, 0, api.ErrMap},
		{"map m 4294967295 1 1", 0, 0, 0, api.ErrMap}, {"map m 1 4294967295 1", 0, 0, 0, api.ErrMap}, {"map m 1 1 0x80000000", 0, 0, 0, api.ErrMap},
		{"map m 4294967297 1 1", 0, 0, 0, api.ErrRange}, {"map m 1 4294967296 1", 0, 0, 0, api.ErrRange}, {"map m 1 1 18446744073709551617", 0, 0, 0, api.ErrRange},
		{"map m a 1 1", 0, 0, 0, api.ErrNumber}, {"map m 1 r1 1", 0, 0, 0, api.ErrNumber}, {"map m 1 1 0x", 0, 0, 0, api.ErrNumber},
		{"map m 0 99999999999 a", 0, 0, 0, api.ErrRange}, {"map m 0 a 99999999999", 0, 0, 0, api.ErrNumber}, {"map m 99999999999 a 0", 0, 0, 0, api.ErrRange}, {"map m a 99999999999 0", 0, 0, 0, api.ErrNumber}, {"map m 0 0 a", 0, 0, 0, api.ErrNumber},
		{"map 1 a 0 99999999999", 0, 0, 0, api.ErrName}, {"map r1 0 0 0", 0, 0, 0, api.ErrName}, {"map 1m 1 1 1", 0, 0, 0, api.ErrName}, {"map a2345678901234567890123456789012x 1 1 1", 0, 0, 0, api.ErrName},
		{"map", 0, 0, 0, api.ErrSyntax}, {"map m", 0, 0, 0, api.ErrSyntax}, {"map m 1 1", 0, 0, 0, api.ErrSyntax}, {"map m 1 1 1 1", 0, 0, 0, api.ErrSyntax}, {"map 1 1 1", 0, 0, 0, api.ErrSyntax}, {"map map m 1 1 1", 0, 0, 0, api.ErrSyntax},
		{"map m, 1, 1, 1", 0, 0, 0, api.ErrSyntax}, {"map m 1 1 -1", 0, 0, 0, api.ErrSyntax}, {"map m -1 1 1", 0, 0, 0, api.ErrSyntax}, {"map r1 1 1 1 :", 0, 0, 0, api.ErrSyntax}, {"map m 1 1 1 exit", 0, 0, 0, api.ErrSyntax}, {"map [m] 1 1 1", 0, 0, 0, api.ErrSyntax}, {"map m: 1 1 1", 0, 0, 0, api.ErrSyntax},
		{"Map m 1 1 1", 0, 0, 0, api.ErrOp}, {"maps m 1 1 1", 0, 0, 0, api.ErrOp}, {"map. m 1 1 1", 0, 0, 0, api.ErrOp},
	} {
		var want []parse.Item
		if c.e == api.OK {
			want = []parse.Item{parse.Map{Def: api.Def{Name: "m", Key: c.key, Value: c.value, Entries: c.entries}}}
		}
		wantLine(t, c.line, want, c.e)
		checkLine(t, c.line)
	}
}

// TestManyMaps: P9.1, for all numbers near the bounds of a map, in all places, and for all kinds of names.
func TestManyMaps(t *testing.T) {
	sizes := []string{"0", "1", "2", "63", "64", "65", "255", "256", "257", "1023", "1024", "1025", "0x7fffffff", "0x80000000", "0xffffffc0", "0xffffffff", "0x100000000", "0x100000001", "a", "0x", "r1"}
	for _, name := range []string{"m", "map", "r1", "9", "a.b"} {
		for _, key := range sizes {
			for _, value := range sizes {
				for _, entries := range sizes {
					checkLine(t, "map "+name+" "+key+" "+value+" "+entries)
				}
			}
		}
	}
}

// TestErrors: P9.1, for lines with wrong instructions.
func TestErrors(t *testing.T) {
	for want, lines := range map[api.Errno][]string{
		api.ErrSyntax: {
			"@", "1: @", "foo @", "add64 r1, *", "map m 1 1 1 é", "exit\n", "add64", "add64 r1", "add64 r1 r2", "add64 r1,", "add64 r1, r2,", "add64 r1, r2, r3", "add64 r1, --5", "add64 r1, +5", "add64 r1, -", "add64 -r1, 5", "add64 , r1", "add64 r1, [r2]", "add64 x, y z",
			"neg64", "neg64 r1, r2", "neg64 -r1", "neg64 [r1]", "movsb64 r1", "movsb64 r1, -r2", "movsb64 r1, -5", "ja", "ja a b", "ja -5", "ja a,", "ja a:", "jeq r1, r2", "jeq r1, r2, a, b", "jeq r1, r2, -a", "jeq r1, --2, a", "jeq r1 r2 a", "jeq -r1, r2, a",
			"call", "call lookup update", "call -1", "call lookup, r1", "exit r0", "exit 0", "exit,", "exit -", "exit -5",
			"ldxb r0", "ldxb r0, r1", "ldxb r0, []", "ldxb r0, [r1", "ldxb r0, r1]", "ldxb r0, [r1+]", "ldxb r0, [r1-]", "ldxb r0, [+1]", "ldxb r0, [r1+-1]", "ldxb r0, [r1--1]", "ldxb r0, [r1++1]", "ldxb r0, [r1 1]", "ldxb r0, [r1+1+1]", "ldxb r0, [r1]+1", "ldxb r0 [r1]", "ldxb [r1], r0", "ldxb r0, -[r1]", "ldxb r0, [-r1]", "ldxb r0, [[r1]]", "ldxb r0, [r1,1]",
			"stb [r1]", "stb [r1], ", "stb r1, 5", "stb [r1] 5", "stb [r1], --5", "stb [r1], +5", "stb [r1], [r2]", "stb [r1+-1], 5", "stb 5, [r1]", "stb [], 5", "stb [r1-], 5", "stb [r1], -", "stb [r1]-, 5",
			"stxb [r1]", "stxb [r1], -r2", "stxb [r1], -5", "stxb r2, [r1]", "stxb [r1] r2", "stxb [r1+2], -r2", "stxb [r1-2], -5", "stxb [r1--2], r2",
			"lddw r1", "lddw r1, --5", "lddw r1 5", "lddw r1, [5]", "lddw r1, 5, 6", "ldmap r1", "ldmap r1, -m", "ldmap m", "ldmap r1 m", "ldmap r1, m, n", "ldmap r1, [m]",
		},
		api.ErrOp: {
			"add r1, 5", // the chapter's example
			"r1", "5", "r1 5", "foo", "ADD64 r1, 5", "Exit", "add64x r1", "add6 4 r1, 5", "lookup", "jeq64 r1, 5, a", "mapx", "1", "0x1", ".", "exit.", "foo [", "foo -", "foo 1 :", "foo r99, --", "a b:", "m map 1 1 1", "_exit", "neg16 r1",
		},
		api.ErrRegister: {
			"add64 r11, 5", "add64 5, r1", "add64 R1, 5", "add64 r01, 5", "add64 a, b", "add64 r, 99999999999", "neg64 a", "neg64 5", "le16 r11", "movsb64 r1, 5", "movsb64 r1, r11", "movsb64 5, r1", "movsb64 a, b", "jeq a, b, 1", "jeq r11, 5, a", "jeq 5, 5, 5",
			"ldxb r0, [a]", "ldxb a, [r0]", "ldxb r0, [5]", "ldxb r0, [5+r1]", "ldxb r0, [r11-99999]", "ldxb a, [b+c]", "stb [a], 5", "stb [5+99999], a", "stb [r11], 99999999999", "stxb [r1], 5", "stxb [r1], a", "stxb [a], r1", "stxb [r1+1], 1", "stxb [r1-1], r11", "stxb [a+b], c", "lddw a, 5", "lddw 5, a", "ldmap m, r1", "ldmap a, 5", "ldmap 1, m",
		},
		api.ErrNumber: {
			"add64 r1, a", "add64 r1, r11", "add64 r1, -r2", "add64 r1, -a", "add64 r1, 0x", "add64 r1, 5a", "add64 r1, 0X5", "add64 r1, .5", "add64 r1, 1_0", "add64 r1, R2", "add64 r1, - r2", "jeq r1, a, 5", "jeq r1, -r2, a", "jeq r1, -r2, r2", "jeq r1, r11, a",
			"ldxb r0, [r1+r2]", "ldxb r0, [r1-a]", "ldxb r0, [r1+0x]", "ldxb r0, [r1-r2]", "stb [r1+a], a", "stb [r1+a], 99999999999", "stb [r1], r2", "stb [r1+1], -r2", "stb [r1-1], a", "stb [r1], 0x", "stxb [r1+a], b", "stxb [r1-r2], 5", "lddw r1, r2", "lddw r1, -a", "lddw r1, 99999999999999999999a",
		},
		api.ErrRange: {
			"add64 r1, 4294967296", "add64 r1, -2147483649", "add32 r1, 0x100000000", "jeq r1, 4294967296, 5", "jeq32 r1, -2147483649, a", "ldxb r0, [r1+65536]", "ldxb r0, [r1-32769]", "ldxb r0, [r1-65535]", "stb [r1+65536], a", "stb [r1-32769], 5", "stb [r1], 4294967296", "stdw [r1], -2147483649", "stdw [r1+1], 0x1ffffffff",
			"stxb [r1+65536], a", "stxb [r1-32769], r1", "lddw r1, 18446744073709551616", "lddw r1, -9223372036854775809", "lddw r1, 0x10000000000000000",
		},
		api.ErrName: {
			"ja r1", "ja 5", "ja 1a", "ja a2345678901234567890123456789012x", "ja r10", "jeq r1, 5, 5", "jeq r1, r2, r3", "jeq r1, -5, 0x5", "call r1", "call 1", "call Lookup", "call lookups", "call LOOKUP", "call map", "call lookup.", "call looku", "call 0", "call insert", "ldmap r1, r2", "ldmap r1, 5", "ldmap r1, 1m", "ldmap r1, a2345678901234567890123456789012x",
		},
	} {
		for _, s := range lines {
			wantLine(t, s, nil, want)
			checkLine(t, s)
		}
	}
}

// sample returns operands of a form that are right, with each one as a text of tokens.
func sample(f *form) string {
	return strings.NewReplacer("dst", "r1", "src", "r2", "second", "5", "imm32", "7", "imm64", "9", "off", "+ 3", "target", "a", "map", "m", "helper", "update").Replace(f.operands)
}

// TestOperations: P9.1, for all operations with the operands of all forms.
func TestOperations(t *testing.T) {
	for i, name := range names() {
		for j := range forms {
			for _, s := range []string{sample(&forms[j]), strings.ReplaceAll(sample(&forms[j]), " + 3", ""), strings.ReplaceAll(sample(&forms[j]), "+", "-"), strings.ReplaceAll(sample(&forms[j]), "5", "-5"), strings.ReplaceAll(sample(&forms[j]), "5", "r5")} {
				checkLine(t, name+" "+s)
			}
		}
		o := operations[name]
		if o.op != i {
			t.Fatalf("the table of the test has the number %d for %s; want %d", o.op, name, i)
		}
		if got, e := parse.Statement(name + " " + sample(o.form)); e != api.OK || got.Ins.Op != i {
			t.Errorf("Statement of %s = %+v, %v", name, got, e)
		}
	}
}

// TestShapes: P9.1, for all lists of up to five tokens behind an operation of each form, and behind map.
func TestShapes(t *testing.T) {
	words := []string{"map"}
	for _, f := range forms {
		words = append(words, strings.Fields(f.names)[0])
	}
	shapes := []string{""}
	for length := 0; length <= 5; length++ {
		var longer []string
		for _, shape := range shapes {
			for _, w := range words {
				checkLine(t, w+shape)
			}
			if t.Failed() {
				return
			}
			for _, token := range []string{" r1", ",", "[", "]", "+", "-", ":"} {
				longer = append(longer, shape+token)
			}
		}
		shapes = longer
	}
}

// TestNearShapes: P9.1, for all operands of which one or two tokens are missing, exchanged or too many.
func TestNearShapes(t *testing.T) {
	for i := range forms {
		f := &forms[i]
		name := strings.Fields(f.names)[0]
		for _, s := range []string{sample(f), strings.ReplaceAll(sample(f), " + 3", ""), strings.ReplaceAll(sample(f), "+", "-"), strings.NewReplacer("5", "- 5", "7", "- 7", "9", "- 9").Replace(sample(f))} {
			for _, near := range nearTokens(strings.Fields(s)) {
				checkLine(t, name+" "+strings.Join(near, " "))
				for _, nearer := range nearTokens(near) {
					checkLine(t, name+" "+strings.Join(nearer, " "))
				}
			}
		}
		if t.Failed() {
			return
		}
	}
}

// nearTokens returns all lists that differ from a list in a token.
func nearTokens(l []string) [][]string {
	var all [][]string
	others := []string{"r1", "5", ",", "[", "]", "+", "-", ":"}
	for i := range len(l) + 1 {
		for _, token := range others {
			all = append(all, slices.Insert(slices.Clone(l), i, token))
		}
		if i == len(l) {
			break
		}
		all = append(all, slices.Delete(slices.Clone(l), i, i+1))
		for _, token := range others {
			near := slices.Clone(l)
			near[i] = token
			all = append(all, near)
		}
	}
	return all
}

// TestOrder: P9.1, the first error, for all combinations of right and wrong operands of each form.
func TestOrder(t *testing.T) {
	texts := map[string][]string{
		"dst": {"r0", "r10", "r11", "5"}, "src": {"r3", "a", "0x1"}, "second": {"r4", "6", "- 6", "- r4", "a", "4294967296"}, "imm32": {"6", "- 6", "r4", "- a", "4294967296"}, "imm64": {"6", "- 6", "r4", "4294967296", "18446744073709551616"},
		"off": {"", "+ 2", "- 2", "+ r2", "- 32769", "+ 65536", "+ 65535"}, "target": {"a", "r1", "5"}, "map": {"m", "r1", "5"}, "helper": {"lookup", "delete", "lookups", "r1", "3"},
	}
	for _, labels := range []string{"", "a:", "a: b:", "1:", "a: r1:", "a::", "@"} {
		for i := range forms {
			lists := []string{strings.Fields(forms[i].names)[0]}
			for _, part := range strings.Fields(forms[i].operands) {
				choices := texts[part]
				if choices == nil {
					choices = []string{part}
				}
				var longer []string
				for _, list := range lists {
					for _, choice := range choices {
						longer = append(longer, list+" "+choice)
					}
				}
				lists = longer
			}
			for _, s := range lists {
				checkLine(t, labels+s)
				checkLine(t, labels+s+" ,")
				checkLine(t, labels+s+" @")
				checkLine(t, labels+"foo"+s)
			}
		}
	}
}

// TestNumbers: P9.1 and P9.4, for numbers around the bounds of all widths, in every place where a number may stand.
func TestNumbers(t *testing.T) {
	numbers := []string{"0", "00", "1", "9", "0x0", "0xa", "0xA", "0x00000000000000000001", "000000000000000000000001", "r1", "a", "0x", "0xg", "1x", "0b1", "1e3", "1.0", "1_0", "_", "99999999999999999999999999", "0xfffffffffffffffff"}
	for _, bits := range []uint{7, 8, 15, 16, 31, 32, 63} {
		for _, delta := range []int64{-2, -1, 0, 1, 2} {
			x := uint64(1<<bits) + uint64(delta)
			numbers = append(numbers, strconv.FormatUint(x, 10), "0x"+strconv.FormatUint(x, 16), "0x"+strings.ToUpper(strconv.FormatUint(x, 16)), "000"+strconv.FormatUint(x, 10))
		}
	}
	numbers = append(numbers, "18446744073709551614", "18446744073709551615", "18446744073709551616", "18446744073709551617", "0xffffffffffffffff", "0x10000000000000000")
	for _, n := range numbers {
		for _, pattern := range []string{"add64 r1, N", "mov32 r1, N", "jeq r1, N, a", "jsle32 r1, N, a", "ldxb r1, [r2+N]", "stb [r1+N], 5", "stb [r1], N", "stdw [r1+3], N", "stw [r1-3], N", "stxb [r1+N], r2", "lddw r1, N"} {
			s := strings.ReplaceAll(pattern, "N", n)
			checkLine(t, s)
			checkLine(t, strings.ReplaceAll(strings.ReplaceAll(pattern, "N", "-"+n), "+-", "-"))
			checkLine(t, strings.ReplaceAll(pattern, "N", "- "+n))
			checkLine(t, strings.ReplaceAll(pattern, "N", "--"+n))
		}
		checkLine(t, "stb [r1+"+n+"], "+n)
		checkLine(t, "stb [r1-"+n+"], -"+n)
	}
}

// TestNames: P9.1, for registers, names and others in every place where a word may stand.
func TestNames(t *testing.T) {
	words := []string{"a", "A", "_", ".", "a.b", "x1", "map", "exit", "lookup", "update", "delete", "Lookup", "lookup1", "add64", "L0", "R1", "r", "rr1", "r1r", "r00", "r01", "r010", "r1.", "r_1", "r11", "r12", "r99", "r100", "1r", "0", "5", "0x1", "1a", "9.", "dst", "w"}
	for n := range 11 {
		words = append(words, "r"+strconv.Itoa(n))
	}
	for _, n := range []int{31, 32, 33, 64} {
		words = append(words, strings.Repeat("a", n), "r"+strings.Repeat("1", n-1), strings.Repeat("1", n), "lookup"+strings.Repeat("p", n-6))
	}
	for _, w := range words {
		for _, pattern := range []string{"W:", "a: W: exit", "W", "W r1, 5", "map W 1 2 3", "add64 W, 5", "add64 r1, W", "neg32 W", "movsb64 W, r2", "movsb64 r2, W", "ja W", "jeq W, 5, a", "jeq r1, W, a", "jeq r1, 5, W", "jeq r1, r2, W", "call W", "ldxb W, [r2+1]", "ldxb r1, [W]", "ldxb r1, [W-5]",
			"stb [W], 5", "stb [W+1], 5", "stxb [W], r1", "stxb [r2-1], W", "stxb [r2], W", "lddw W, 5", "ldmap W, m", "ldmap r1, W", "exit W"} {
			checkLine(t, strings.ReplaceAll(pattern, "W", w))
		}
	}
}

// foreign are items of other types than those of the package: even if they call themselves instructions, they are none.
type foreign struct{ kind int }

func (x foreign) Kind() int { return x.kind }

type around struct{ parse.Code }

type silent struct{}

func (silent) Kind() int { panic("not to be called") }

type uncomparable []int

func (uncomparable) Kind() int { return parse.OfCode }

// TestItems: P9.2, and the kinds of the items.
func TestItems(t *testing.T) {
	if parse.OfLabel != 0 || parse.OfMap != 1 || parse.OfCode != 2 {
		t.Errorf("the kinds are %d, %d and %d", parse.OfLabel, parse.OfMap, parse.OfCode)
	}
	if l, m, c := (parse.Label{}).Kind(), (parse.Map{}).Kind(), (parse.Code{}).Kind(); l != 0 || m != 1 || c != 2 {
		t.Errorf("Kind returns %d, %d and %d", l, m, c)
	}
	for _, c := range []parse.Code{{}, {Ins: api.Ins{Op: 45, Reg: true, Dst: 1, Src: 2, Off: 3, Imm: 4}, Target: "a", Map: "m"}, {Ins: api.Ins{Op: -1, Dst: math.MaxInt, Src: math.MinInt, Imm: math.MinInt64}, Target: "é", Map: "\xff"}} {
		checkCode(t, c, c, api.OK)
	}
	var nilCode *parse.Code
	var nilLabel *parse.Label
	for _, x := range []parse.Item{
		nil, parse.Label{}, parse.Label{Name: "exit"}, parse.Map{}, parse.Map{Def: api.Def{Name: "m", Key: 1, Value: 2, Entries: 3}}, &parse.Code{}, &parse.Code{Target: "a"}, nilCode, nilLabel, &parse.Label{}, foreign{0}, foreign{2}, foreign{math.MinInt}, &foreign{2}, around{}, &around{}, silent{}, uncomparable{1}, uncomparable(nil),
	} {
		checkCode(t, x, parse.Code{}, api.ErrSyntax)
	}
}

// TestStatement: P9.3.
func TestStatement(t *testing.T) {
	for _, c := range []struct {
		line string
		want parse.Code
		e    api.Errno
	}{
		{"exit", parse.Code{Ins: api.Ins{Op: 68}}, api.OK}, {"\texit ; a:", parse.Code{Ins: api.Ins{Op: 68}}, api.OK}, {"ja x", parse.Code{Ins: api.Ins{Op: 44}, Target: "x"}, api.OK}, {"ldmap r1, n", parse.Code{Ins: api.Ins{Op: 85, Dst: 1}, Map: "n"}, api.OK}, {"add64 r0, 0", parse.Code{}, api.OK}, {"jeq r1, -5, end", parse.Code{Ins: api.Ins{Op: 45, Dst: 1, Imm: -5}, Target: "end"}, api.OK},
		{"", parse.Code{}, api.ErrSyntax}, {" ; exit", parse.Code{}, api.ErrSyntax}, {"a:", parse.Code{}, api.ErrSyntax}, {"a: b:", parse.Code{}, api.ErrSyntax}, {"a: exit", parse.Code{}, api.ErrSyntax}, {"a: b: exit", parse.Code{}, api.ErrSyntax}, {"map m 1 2 3", parse.Code{}, api.ErrSyntax}, {"a: map m 1 2 3", parse.Code{}, api.ErrSyntax}, {"exit exit", parse.Code{}, api.ErrSyntax},
		{"@", parse.Code{}, api.ErrSyntax}, {"1: exit", parse.Code{}, api.ErrName}, {"a: 1:", parse.Code{}, api.ErrName}, {"a: foo", parse.Code{}, api.ErrOp}, {"add r1, 5", parse.Code{}, api.ErrOp}, {"map m 0 2 3", parse.Code{}, api.ErrMap}, {"a: map m a 2 3", parse.Code{}, api.ErrNumber}, {"map 1 1 2 3", parse.Code{}, api.ErrName}, {"a: neg64 r11", parse.Code{}, api.ErrRegister}, {"lddw r1, a", parse.Code{}, api.ErrNumber}, {"stb [r1+65536], 1", parse.Code{}, api.ErrRange}, {"call r1", parse.Code{}, api.ErrName},
	} {
		if got, e := parse.Statement(c.line); got != c.want || e != c.e {
			t.Errorf("Statement(%q) = %+v, %v; want %+v, %v", c.line, got, e, c.want, c.e)
		}
		checkLine(t, c.line)
	}
}

// TestSpaces: P9.4, spaces between tokens and comments do not matter.
func TestSpaces(t *testing.T) {
	lines := []string{"a: b:", "map m 4 8 16", "a: map m 4 8 16", "map m 4 8 0", "1: exit", "foo r1", "a: exit r1", ""}
	for i := range forms {
		for _, name := range strings.Fields(forms[i].names) {
			lines = append(lines, "x: y: "+name+" "+sample(&forms[i]), name+" "+strings.NewReplacer("+", "-", "5", "- 5", "7", "- 7", "9", "- 9").Replace(sample(&forms[i])))
		}
	}
	for _, s := range lines {
		want, wantError := parse.Line(s)
		for _, space := range []string{" ", "\t", "\r", "  ", " \t\r \t"} {
			for _, end := range []string{"", " ", "\r", ";", "#", "; a: exit", " # é\n\xff@", ";;##"} {
				wantLine(t, strings.ReplaceAll(s, " ", space)+end, want, wantError)
				wantLine(t, space+strings.ReplaceAll(s, " ", space)+space+end, want, wantError)
			}
		}
		wantLine(t, tight(s), want, wantError)
	}
}

// tight returns a line without the spaces that do not separate words.
func tight(s string) string {
	for _, mark := range []string{",", "[", "]", "+", "-", ":"} {
		s = strings.ReplaceAll(strings.ReplaceAll(s, " "+mark, mark), mark+" ", mark)
	}
	return s
}

// TestWrongBytes: P9.1, wrong bytes precede every other error, wherever they stand.
func TestWrongBytes(t *testing.T) {
	for _, s := range []string{"", "1:", "a: exit", "foo", "map 1 2 3 4", "map m 0 0 0", "add64 r11, a", "ldxb r1, [r2+99999]", "call x"} {
		for _, bad := range []string{"@", "\n", "\x00", "é", "\xff", "\u00a0", "*", "(", "=", "\"", "−"} {
			for at := range len(s) + 1 {
				wantLine(t, s[:at]+bad+s[at:], nil, api.ErrSyntax)
			}
		}
	}
}

// TestLong: P1 and P9.1, for lines that take too long if a part of them is visited for each token.
func TestLong(t *testing.T) {
	const n = 1 << 17
	labels, e := parse.Line(strings.Repeat("a:", n))
	if len(labels) != n || e != api.OK || labels[n-1] != (parse.Label{Name: "a"}) {
		t.Errorf("Line with many labels returns %d items and %v", len(labels), e)
	}
	for s, want := range map[string]api.Errno{
		strings.Repeat("a:", n) + "1:": api.ErrName, strings.Repeat("a:", n) + "foo": api.ErrOp, strings.Repeat("a:", n) + ":": api.ErrSyntax, strings.Repeat("a ", n): api.ErrOp, "add64 " + strings.Repeat("r1,", n): api.ErrSyntax, "add64 r1," + strings.Repeat("-", n) + "5": api.ErrSyntax, "map " + strings.Repeat("m ", n): api.ErrSyntax,
		strings.Repeat("a", n): api.ErrOp, strings.Repeat("a", n) + ":": api.ErrName, "add64 r1, " + strings.Repeat("9", n): api.ErrRange, "add64 r1, " + strings.Repeat("9", n) + "a": api.ErrNumber, "ldxb r1, " + strings.Repeat("[", n) + "r1" + strings.Repeat("]", n): api.ErrSyntax, "ja " + strings.Repeat("a", n): api.ErrName, "neg64 " + strings.Repeat("r", n): api.ErrRegister, "add64 r1, 0x" + strings.Repeat("0", n) + "7": api.OK, "exit" + strings.Repeat(" ", n) + ";" + strings.Repeat("@", n): api.OK,
	} {
		if items, e := parse.Line(s); e != want || e != api.OK && len(items) != 0 {
			t.Errorf("Line(%.60q…) = %s, %v; want %v", s, short(items), e, want)
		}
	}
}

// TestNewResults: results of one call do not change with those of another (rule 4).
func TestNewResults(t *testing.T) {
	const s = "a: b: jeq r1, -5, end"
	want, _ := line(s)
	items, _ := parse.Line(s)
	again, _ := parse.Line(s)
	clear(items)
	if !slices.Equal(again, want) {
		t.Errorf("Line(%q) became %v with another result", s, again)
	}
	wantLine(t, s, want, api.OK)
}

// TestConcurrent: the functions may be called concurrently (rule 6), and depend on their arguments only (rule 7).
func TestConcurrent(t *testing.T) {
	var group sync.WaitGroup
	for worker := range 4 {
		group.Go(func() {
			for i := range forms {
				for _, name := range strings.Fields(forms[i].names) {
					checkLine(t, strings.Repeat("a:", worker)+name+" "+sample(&forms[(i+worker*i)%len(forms)]))
					checkLine(t, name+sample(&forms[i]))
				}
				checkCode(t, parse.Label{Name: "a"}, parse.Code{}, api.ErrSyntax)
			}
		})
	}
	group.Wait()
}

func FuzzLine(f *testing.F) {
	for _, s := range []string{"", "a: b: jeq r1, -5, end", "add r1, 5", "map m 4 8 16 ; all", "ldxw r1, [r10-0x8]", "stb [r1+65536], -5", "stxdw [r10], r1", "lddw r1, 0xffffffffffffffff", "ldmap r1, n", "call lookup", "exit # é", "1: @"} {
		f.Add(s)
	}
	for i := range forms {
		f.Add(strings.Fields(forms[i].names)[0] + " " + sample(&forms[i]))
	}
	f.Fuzz(func(t *testing.T, s string) { checkLine(t, s) })
}
