package strtab_test

import (
	"bytes"
	"fmt"
	"math"
	"slices"
	"strconv"
	"strings"
	"sync"
	"testing"

	"slotcode/api"
	"slotcode/strtab"
)

// built returns what Build has to return, with the table as a string.
func built(l []string) (string, []int, api.Errno) {
	table := "\x00"
	var offsets []int
	for _, s := range l {
		if s == "" || strings.IndexByte(s, 0) >= 0 {
			return "", nil, api.ErrName
		}
		offsets = append(offsets, len(table))
		table += s + "\x00"
	}
	return table, offsets, api.OK
}

// parsed returns what Parse has to return.
func parsed(b string) ([]string, []int, api.Errno) {
	l := strings.Split(b, "\x00")
	n := len(l) - 1
	if n == 0 || l[0] != "" || l[n] != "" || slices.Contains(l[1:n], "") {
		return nil, nil, api.ErrBox
	}
	var offsets []int
	for i := range l[1:n] {
		offsets = append(offsets, len(strings.Join(l[:i+1], "\x00"))+1)
	}
	return l[1:n], offsets, api.OK
}

// textAt returns what Get has to return.
func textAt(b string, off int) (string, api.Errno) {
	if off < 0 || off > len(b)-1 {
		return "", api.ErrRange
	}
	for i := off; i < len(b); i++ {
		if b[i] == 0 {
			return b[off:i], api.OK
		}
	}
	return "", api.ErrRange
}

// found returns what Find has to return.
func found(b, s string) (int, bool) {
	for off := range len(b) {
		if text, e := textAt(b, off); text == s && e == api.OK {
			return off, true
		}
	}
	return 0, false
}

// short returns the beginning of the text of a value, which may be long.
func short(x any) string {
	s := fmt.Sprintf("%q", x)
	if len(s) > 200 {
		return s[:200] + "…"
	}
	return s
}

func wantBuild(t *testing.T, l []string, want string, wantOffsets []int, wantE api.Errno) {
	t.Helper()
	before := slices.Clone(l)
	b, offsets, e := strtab.Build(l)
	if string(b) != want || !slices.Equal(offsets, wantOffsets) || e != wantE {
		t.Errorf("Build(%s) = %s, %s, %v; want %s, %s, %v", short(before), short(b), short(offsets), e, short(want), short(wantOffsets), wantE)
	}
	if !slices.Equal(l, before) {
		t.Errorf("Build(%s) changed its argument to %s", short(before), short(l))
	}
}

func wantParse(t *testing.T, b string, want []string, wantOffsets []int, wantE api.Errno) {
	t.Helper()
	arg := []byte(b)
	l, offsets, e := strtab.Parse(arg)
	if !slices.Equal(l, want) || !slices.Equal(offsets, wantOffsets) || e != wantE {
		t.Errorf("Parse(%s) = %s, %s, %v; want %s, %s, %v", short(b), short(l), short(offsets), e, short(want), short(wantOffsets), wantE)
	}
	if string(arg) != b {
		t.Errorf("Parse(%s) changed its argument to %s", short(b), short(arg))
	}
}

func wantGet(t *testing.T, b string, off int, want string, wantE api.Errno) {
	t.Helper()
	arg := []byte(b)
	s, e := strtab.Get(arg, off)
	if s != want || e != wantE {
		t.Errorf("Get(%s, %d) = %s, %v; want %s, %v", short(b), off, short(s), e, short(want), wantE)
	}
	if string(arg) != b {
		t.Errorf("Get(%s, %d) changed its argument to %s", short(b), off, short(arg))
	}
}

func wantFind(t *testing.T, b, s string, want int, wantOK bool) {
	t.Helper()
	arg := []byte(b)
	off, ok := strtab.Find(arg, s)
	if off != want || ok != wantOK {
		t.Errorf("Find(%s, %s) = %d, %v; want %d, %v", short(b), short(s), off, ok, want, wantOK)
	}
	if string(arg) != b {
		t.Errorf("Find(%s, %s) changed its argument to %s", short(b), short(s), short(arg))
	}
}

// wantTable: the table of texts is built, read and searched (P14.1 to P14.5).
func wantTable(t *testing.T, l []string, table string, offsets []int) {
	t.Helper()
	wantBuild(t, l, table, offsets, api.OK)
	wantParse(t, table, l, offsets, api.OK)
	for i, off := range offsets {
		wantGet(t, table, off, l[i], api.OK)
	}
}

// check compares all functions with the model.
func check(t *testing.T, b string, texts []string) {
	t.Helper()
	l, offsets, e := parsed(b)
	wantParse(t, b, l, offsets, e)
	if e == api.OK {
		wantTable(t, l, b, offsets)
	}
	for off := -2; off < len(b)+3; off++ {
		s, e := textAt(b, off)
		wantGet(t, b, off, s, e)
	}
	for _, s := range texts {
		off, ok := found(b, s)
		wantFind(t, b, s, off, ok)
	}
}

// strs returns all strings of up to n of some characters, the shorter ones first.
func strs(characters []string, n int) []string {
	all := []string{""}
	for from := 0; n > 0; n-- {
		end := len(all)
		for _, s := range all[from:end] {
			for _, c := range characters {
				all = append(all, s+c)
			}
		}
		from = end
	}
	return all
}

// TestExamples: the chapter's example, and the table in the one of chapter 16.
func TestExamples(t *testing.T) {
	wantTable(t, []string{"a", "bc"}, string([]byte{0, 97, 0, 98, 99, 0}), []int{1, 3})
	wantTable(t, nil, "\x00", nil)
}

// TestTables: P14.1, P14.2, P14.3 and P14.5, tables written out.
func TestTables(t *testing.T) {
	long := strings.Repeat("n", 100000)
	for _, c := range []struct {
		l       []string
		table   string
		offsets []int
	}{
		{[]string{}, "\x00", []int{}},
		{[]string{"a"}, "\x00a\x00", []int{1}},
		{[]string{"a", "a"}, "\x00a\x00a\x00", []int{1, 3}},
		{[]string{"b", "a", "b"}, "\x00b\x00a\x00b\x00", []int{1, 3, 5}},
		{[]string{"abc", "bc", "c"}, "\x00abc\x00bc\x00c\x00", []int{1, 5, 8}},
		{[]string{"a", "ab", "abc"}, "\x00a\x00ab\x00abc\x00", []int{1, 3, 6}},
		{[]string{"0", "\\0", "\\x00", "nul"}, "\x000\x00\\0\x00\\x00\x00nul\x00", []int{1, 3, 6, 11}},
		{[]string{" ", "\n", "\t", "\r\n"}, "\x00 \x00\n\x00\t\x00\r\n\x00", []int{1, 3, 5, 7}},
		{[]string{"é", "\xff", "\xc0\x80", "\u0100", "\U00010000"}, "\x00é\x00\xff\x00\xc0\x80\x00\u0100\x00\U00010000\x00", []int{1, 4, 6, 9, 12}},
		{[]string{"\x01", "\x80", "\x7f\x01"}, "\x00\x01\x00\x80\x00\x7f\x01\x00", []int{1, 3, 5}},
		{[]string{"x", long, "y"}, "\x00x\x00" + long + "\x00y\x00", []int{1, 3, 100004}},
	} {
		wantTable(t, c.l, c.table, c.offsets)
	}
}

// TestBuildErrors: P14.1, an empty text or a zero byte at any place of any text.
func TestBuildErrors(t *testing.T) {
	for _, wrong := range []string{"", "\x00", "\x00a", "a\x00", "a\x00b", "\x00\x00", "a\x00\x00b", "é\x00", "\xff\x00", strings.Repeat("a", 1000) + "\x00" + strings.Repeat("a", 1000)} {
		for _, l := range [][]string{{wrong}, {wrong, "a"}, {"a", wrong}, {"a", wrong, "b"}, {"a", "b", wrong}, {wrong, wrong}, {wrong, "a", ""}} {
			wantBuild(t, l, "", nil, api.ErrName)
		}
	}
	l := slices.Repeat([]string{"name"}, 1000)
	for i := range l {
		for _, wrong := range []string{"", "na\x00me"} {
			l[i] = wrong
			wantBuild(t, l, "", nil, api.ErrName)
		}
		l[i] = "name"
	}
}

// TestParseErrors: P14.2, bytes that are the table of no texts, and a table with a few bytes less or one more.
func TestParseErrors(t *testing.T) {
	for _, b := range []string{
		"", "a", "ab", "a\x00", "a\x00b\x00", "a\x00\x00", // no zero byte in front
		"\x00a", "\x00ab", "\x00a\x00b", "\x00a\x00bc\x00d", // none behind the last text
		"\x00\x00", "\x00\x00\x00", "\x00\x00a\x00", "\x00a\x00\x00", "\x00a\x00\x00b\x00", "\x00a\x00b\x00\x00", "\x00\x00a", "\x00a\x00\x00b", // an empty text
		"0", "\\0", "\x01", "\x01a\x01", "\xc0\x80a\xc0\x80", "\x80a\x80",
	} {
		wantParse(t, b, nil, nil, api.ErrBox)
	}
	const table = "\x00a\x00bc\x00d\x00"
	for n := range len(table) {
		for i := range len(table) - n + 1 {
			b := table[:i] + table[i+n:]
			l, offsets, e := parsed(b)
			wantParse(t, b, l, offsets, e)
		}
		for _, c := range []string{"\x00", "a"} {
			b := table[:n] + c + table[n:]
			l, offsets, e := parsed(b)
			wantParse(t, b, l, offsets, e)
		}
	}
}

// TestGet: P14.3, texts at all kinds of offsets, in bytes of all kinds.
func TestGet(t *testing.T) {
	for _, c := range []struct {
		b    string
		off  int
		want string
	}{
		{"\x00", 0, ""}, {"\x00a\x00", 0, ""}, {"\x00a\x00", 1, "a"}, {"\x00a\x00", 2, ""},
		{"\x00abc\x00", 1, "abc"}, {"\x00abc\x00", 2, "bc"}, {"\x00abc\x00", 3, "c"}, {"\x00abc\x00", 4, ""},
		{"\x00a\x00bc\x00", 3, "bc"}, {"\x00a\x00bc\x00", 4, "c"}, {"\x00a\x00bc\x00", 5, ""},
		{"ab\x00c", 0, "ab"}, {"ab\x00c", 1, "b"}, {"ab\x00c", 2, ""}, {"a\x00\x00b\x00", 1, ""}, {"a\x00\x00b\x00", 2, ""}, {"a\x00\x00b\x00", 3, "b"},
		{"\xff\x80\x00", 0, "\xff\x80"}, {"\xff\x80\x00", 1, "\x80"}, {"é\x00", 1, "\xa9"}, {"\xc0\x80\x00", 0, "\xc0\x80"},
	} {
		wantGet(t, c.b, c.off, c.want, api.OK)
	}
}

// TestGetErrors: P14.3, offsets of no byte, and texts behind which there is no zero byte.
func TestGetErrors(t *testing.T) {
	for _, b := range []string{"", "\x00", "\x00a\x00", "a\x00b", "a"} {
		for _, off := range []int{math.MinInt, math.MinInt + 1, math.MinInt32, -len(b) - 1, -len(b), -1, len(b), len(b) + 1, len(b) + 2, math.MaxInt32, math.MaxInt - 1, math.MaxInt} {
			if off != 0 || b == "" {
				wantGet(t, b, off, "", api.ErrRange)
			}
		}
	}
	for b, offsets := range map[string][]int{"a": {0}, "abc": {0, 1, 2}, "a\x00b": {2}, "\x00a\x00bc": {3, 4}, "\x00a": {1}, "\xc0\x80": {0, 1}} {
		for _, off := range offsets {
			wantGet(t, b, off, "", api.ErrRange)
		}
	}
}

// TestFind: P14.4, texts that stand in bytes several times, as ends of others, and not at all.
func TestFind(t *testing.T) {
	for _, c := range []struct {
		b, s string
		want int
	}{
		{"\x00", "", 0}, {"\x00a\x00", "", 0}, {"a\x00", "", 1}, {"abc\x00\x00", "", 3}, {"ab\x00c", "", 2},
		{"\x00a\x00", "a", 1}, {"\x00a\x00bc\x00", "bc", 3}, {"\x00a\x00a\x00", "a", 1}, {"\x00b\x00a\x00b\x00", "b", 1},
		{"\x00abc\x00", "abc", 1}, {"\x00abc\x00", "bc", 2}, {"\x00abc\x00", "c", 3}, // ends of a text of the table
		{"\x00abc\x00c\x00bc\x00", "c", 3}, {"\x00abc\x00c\x00bc\x00", "bc", 2}, {"\x00c\x00bc\x00", "bc", 3},
		{"\x00ab\x00a\x00", "a", 4}, {"\x00abc\x00ab\x00", "ab", 5}, {"\x00aa\x00aaa\x00", "aaa", 4}, {"\x00aaa\x00", "aa", 2}, {"\x00aba\x00ab\x00", "ab", 5}, // beginnings of texts are none
		{"a\x00", "a", 0}, {"ab\x00ab", "ab", 0}, {"ab\x00a\x00b", "b", 1}, {"a\x00\x00b\x00", "b", 3},
		{"\xff\x00\xfe\x00", "\xfe", 2}, {"é\x00", "\xa9", 1}, {"\x00\ufffd\x00\xff\x00", "\xff", 5}, {"\x00A\x00a\x00", "a", 3},
	} {
		wantFind(t, c.b, c.s, c.want, true)
	}
	for _, c := range [][2]string{
		{"", ""}, {"a", ""}, {"abc", ""}, // without a zero byte, there are no texts
		{"", "a"}, {"\x00", "a"}, {"a", "a"}, {"\x00a", "a"}, {"\x00b\x00a", "a"}, {"\x00abc", "bc"},
		{"\x00ab\x00", "a"}, {"\x00abc\x00", "b"}, {"\x00a\x00", "aa"}, {"\x00a\x00", "A"}, {"\x00a\x00b\x00", "ab"}, {"\x00é\x00", "e"},
		{"\x00", "\x00"}, {"\x00\x00", "\x00"}, {"\x00a\x00", "a\x00"}, {"\x00a\x00", "\x00a"}, {"\x00a\x00b\x00", "a\x00b"}, {"\x00a\x00b\x00", "\x00a\x00b"}, {"\x00a\x00\x00", "a\x00"}, // no text has a zero byte
	} {
		wantFind(t, c[0], c[1], 0, false)
	}
}

// TestSmallTables: P14.1, P14.2 and P14.5, all tables of up to six bytes out of some, and no other bytes, have texts.
func TestSmallTables(t *testing.T) {
	const size = 6
	texts := strs([]string{"a", "b", "\xff"}, size-2)[1:]
	all := map[string][]string{"\x00": nil}
	last := [][]string{nil}
	for len(last) > 0 {
		var longer [][]string
		for _, l := range last {
			for _, s := range texts {
				table, _, _ := built(append(slices.Clone(l), s))
				if len(table) <= size {
					longer = append(longer, append(slices.Clone(l), s))
					all[table] = longer[len(longer)-1]
				}
			}
		}
		last = longer
	}
	for _, b := range strs([]string{"\x00", "a", "b", "\xff"}, size) {
		l, ok := all[b]
		if !ok {
			wantParse(t, b, nil, nil, api.ErrBox)
			continue
		}
		_, offsets, _ := built(l)
		wantTable(t, l, b, offsets)
	}
}

// TestSmall: P14.2 to P14.5, all bytes of up to six out of some, with all offsets and texts.
func TestSmall(t *testing.T) {
	texts := strs([]string{"\x00", "a", "b"}, 4)
	for _, b := range strs([]string{"\x00", "a", "b"}, 6) {
		if check(t, b, texts); t.Failed() {
			return
		}
	}
}

// TestSmallLists: P14.1, all lists of up to four texts out of some, correct or not.
func TestSmallLists(t *testing.T) {
	for _, code := range strs([]string{"0", "1", "2", "3", "4", "5"}, 4) {
		var l []string
		for _, c := range code {
			l = append(l, []string{"", "a", "ba", "\x00", "a\x00", "\xffé"}[c-'0'])
		}
		table, offsets, e := built(l)
		wantBuild(t, l, table, offsets, e)
	}
}

// TestBytes: P14.1 to P14.5, each byte as a text, and in one.
func TestBytes(t *testing.T) {
	var l []string
	for c := 1; c < 256; c++ {
		s := string([]byte{byte(c)})
		l = append(l, s, "a"+s, s+"a", s+s)
		check(t, s, []string{s, ""})
		check(t, "\x00"+s+"\x00", []string{s, s + s, ""})
	}
	table, offsets, _ := built(l)
	check(t, table, l)
	wantTable(t, l, table, offsets)
}

// TestLengths: rule 4, nothing behind the length of a slice is read.
func TestLengths(t *testing.T) {
	table := []byte("\x00ab\x00c\x00")
	for n := range table {
		b := table[:n]
		l, offsets, e := parsed(string(b))
		if got, gotOffsets, gotE := strtab.Parse(b); !slices.Equal(got, l) || !slices.Equal(gotOffsets, offsets) || gotE != e {
			t.Errorf("Parse of the first %d bytes of %q = %q, %v, %v; want %q, %v, %v", n, table, got, gotOffsets, gotE, l, offsets, e)
		}
		for off := range table {
			s, e := textAt(string(b), off)
			if got, gotE := strtab.Get(b, off); got != s || gotE != e {
				t.Errorf("Get(%d) in the first %d bytes of %q = %q, %v; want %q, %v", off, n, table, got, gotE, s, e)
			}
		}
		for _, s := range []string{"", "ab", "b", "c"} {
			off, ok := found(string(b), s)
			if got, gotOK := strtab.Find(b, s); got != off || gotOK != ok {
				t.Errorf("Find(%q) in the first %d bytes of %q = %d, %v; want %d, %v", s, n, table, got, gotOK, off, ok)
			}
		}
	}
	l := []string{"a", "b", "", "\x00"}
	wantBuild(t, l[:2], "\x00a\x00b\x00", []int{1, 3}, api.OK)
}

// TestKept: rule 4 and rule 7, results share no memory with arguments or with other results.
func TestKept(t *testing.T) {
	l := []string{"ab", "c"}
	table, offsets, _ := strtab.Build(l)
	again, others, _ := strtab.Build(l)
	texts, parsedOffsets, _ := strtab.Parse(table)
	text, _ := strtab.Get(table, 1)
	for i := range table {
		table[i] = 'x'
	}
	offsets[0], offsets[1] = -1, -1
	if string(again) != "\x00ab\x00c\x00" || !slices.Equal(others, []int{1, 4}) {
		t.Errorf("the table of %q became %q, %v with another result", l, again, others)
	}
	if !slices.Equal(texts, l) || !slices.Equal(parsedOffsets, []int{1, 4}) || text != "ab" {
		t.Errorf("the texts of a table became %q, %v, and the one at 1 %q", texts, parsedOffsets, text)
	}
	texts, parsedOffsets, _ = strtab.Parse(again)
	texts[0], parsedOffsets[0] = "x", -1
	wantParse(t, string(again), l, []int{1, 4}, api.OK)
	if texts, parsedOffsets, _ = strtab.Parse(again); !slices.Equal(texts, l) || !slices.Equal(parsedOffsets, []int{1, 4}) {
		t.Errorf("Parse(%q) = %q, %v behind a changed result", again, texts, parsedOffsets)
	}
}

// TestLong: P1, P14.1 to P14.5, many texts and long ones, for which it takes too long to visit the rest for each text or offset.
func TestLong(t *testing.T) {
	const n = 1 << 20
	var table bytes.Buffer
	var l []string
	var offsets []int
	table.WriteByte(0)
	for i := range n {
		l = append(l, "m"+strconv.Itoa(i))
		offsets = append(offsets, table.Len())
		table.WriteString(l[i] + "\x00")
	}
	many := table.String()
	wantBuild(t, l, many, offsets, api.OK)
	wantParse(t, many, l, offsets, api.OK)
	wantFind(t, many, l[n-1], offsets[n-1], true)
	wantFind(t, many, "m", 0, false)
	wantFind(t, many, strings.Repeat("m", n), 0, false)
	wantGet(t, many, offsets[n-1], l[n-1], api.OK)
	wantParse(t, many+"\x00", nil, nil, api.ErrBox)
	wantBuild(t, append(l, ""), "", nil, api.ErrName)

	a := strings.Repeat("a", n)
	wantTable(t, []string{a, a + "b", a}, "\x00"+a+"\x00"+a+"b\x00"+a+"\x00", []int{1, n + 2, 2*n + 4})
	wantFind(t, "\x00"+a+"b\x00", a, 0, false)
	wantFind(t, "\x00"+a+"\x00", a[:n/2], n/2+1, true)
	wantFind(t, "\x00"+a+"\x00"+a+"c\x00", "b"+a[:n/2]+"c", 0, false)
	wantFind(t, strings.Repeat("a\x00", n), "b"+a, 0, false)
	wantFind(t, a, "", 0, false)
	wantGet(t, a, 0, "", api.ErrRange)
	zeros := strings.Repeat("\x00", n)
	wantParse(t, zeros, nil, nil, api.ErrBox)
	wantFind(t, zeros, a, 0, false)
	wantFind(t, zeros+"a\x00", "a", n, true)
}

// TestConcurrent: rule 6, functions may be called concurrently.
func TestConcurrent(t *testing.T) {
	var group sync.WaitGroup
	for worker := range 8 {
		group.Go(func() {
			for i := range 200 {
				l := []string{strings.Repeat("a", i+1), strconv.Itoa(worker), "b"}
				table, offsets, _ := built(l)
				wantTable(t, l, table, offsets)
				wantBuild(t, append(l, ""), "", nil, api.ErrName)
				wantParse(t, table+"b", nil, nil, api.ErrBox)
				wantFind(t, table, "b", offsets[2], true)
			}
		})
	}
	group.Wait()
}

// FuzzBytes: P14.2 to P14.5, compares all functions with the model.
func FuzzBytes(f *testing.F) {
	f.Add("\x00a\x00bc\x00", "bc", 3)
	f.Add("\x00abc\x00c\x00", "c", 5)
	f.Add("a\x00\x00b", "b", math.MaxInt)
	f.Add("", "", -1)
	f.Add("\x00\xff\x00é", "a\x00", math.MinInt)
	f.Fuzz(func(t *testing.T, b, s string, off int) {
		if len(b) > 200 {
			return // the model takes time
		}
		check(t, b, []string{s, ""})
		check(t, "\x00"+b+"\x00", []string{s, ""})
		want, e := textAt(b, off)
		wantGet(t, b, off, want, e)
		for i := range len(s) {
			want, ok := found(b, s[i:])
			wantFind(t, b, s[i:], want, ok)
		}
	})
}

// FuzzTexts: P14.1 and P14.5, builds the table of texts and reads it.
func FuzzTexts(f *testing.F) {
	f.Add("a,bc")
	f.Add("a,,b")
	f.Add("a\x00,b")
	f.Add("\xff,é,a,a")
	f.Add("")
	f.Fuzz(func(t *testing.T, text string) {
		l := strings.Split(text, ",")
		table, offsets, e := built(l)
		wantBuild(t, l, table, offsets, e)
		if e != api.OK {
			return
		}
		wantTable(t, l, table, offsets)
		for _, s := range l {
			off, ok := found(table, s)
			wantFind(t, table, s, off, ok)
		}
	})
}
