package box_test

import (
	"bytes"
	"fmt"
	"math"
	"math/rand"
	"slices"
	"strings"
	"sync"
	"testing"

	"slotcode/api"
	"slotcode/box"
)

// header is the text and the number with which a container begins.
const header = "SLC1\x01\x00"

// number returns a number with n bytes, the least significant one first.
func number(x, n int) string {
	s := ""
	for range n {
		s += string([]byte{byte(x % 256)})
		x /= 256
	}
	return s
}

// padding returns the zero bytes behind n bytes.
func padding(n int) string {
	return strings.Repeat("\x00", (8-n%8)%8)
}

// container returns the container of a list, whether the list is correct or not.
func container(l []box.Section) string {
	var rows, data strings.Builder
	front := 16 + 12*len(l)
	pad := padding(front)
	for _, s := range l {
		rows.WriteString(number(s.Kind, 4) + number(front+len(pad)+data.Len(), 4) + number(len(s.Data), 4))
		data.WriteString(string(s.Data) + padding(len(s.Data)))
	}
	all := front + len(pad) + data.Len()
	return header + number(len(l), 2) + number(all, 4) + "\x00\x00\x00\x00" + rows.String() + pad + data.String()
}

// written returns what Write has to return for a list of small sections.
func written(l []box.Section) (string, api.Errno) {
	if len(l) > 16 {
		return "", api.ErrSize
	}
	for i, s := range l {
		if s.Kind < 1 || s.Kind > 65535 || i > 0 && l[i-1].Kind >= s.Kind {
			return "", api.ErrRange
		}
	}
	return container(l), api.OK
}

// taker takes numbers and bytes off the front of a text, and remembers how many, and whether one was wrong.
type taker struct {
	rest  string
	taken int
	wrong bool
}

func (t *taker) text(n int) string {
	if n > len(t.rest) {
		t.wrong = true
		n = len(t.rest)
	}
	s := t.rest[:n]
	t.rest = t.rest[n:]
	t.taken += n
	return s
}

func (t *taker) number(n int) int {
	x := 0
	s := t.text(n)
	for i := range len(s) {
		x = 256*x + int(s[len(s)-1-i])
	}
	return x
}

func (t *taker) expect(ok bool) {
	t.wrong = t.wrong || !ok
}

func (t *taker) align() {
	for !t.wrong && t.taken%8 != 0 {
		t.expect(t.number(1) == 0)
	}
}

// readable returns what Read has to return, for bytes that are taken one after the other.
func readable(b string) ([]box.Section, api.Errno) {
	t := &taker{rest: b}
	t.expect(t.text(4) == "SLC1")
	t.expect(t.number(2) == 1)
	n := t.number(2)
	t.expect(n <= 16)
	t.expect(t.number(4) == len(b))
	t.expect(t.number(4) == 0)
	if t.wrong {
		return nil, api.ErrBox
	}
	l := make([]box.Section, n)
	offsets, sizes := make([]int, n), make([]int, n)
	for i := range l {
		l[i].Kind, offsets[i], sizes[i] = t.number(4), t.number(4), t.number(4)
		t.expect(l[i].Kind >= 1 && l[i].Kind <= 65535 && (i == 0 || l[i].Kind > l[i-1].Kind))
	}
	t.align()
	for i := range l {
		t.expect(offsets[i] == t.taken)
		l[i].Data = []byte(t.text(sizes[i]))
		t.align()
	}
	if t.wrong || t.rest != "" {
		return nil, api.ErrBox
	}
	return l, api.OK
}

func same(l, m []box.Section) bool {
	return slices.EqualFunc(l, m, func(s, t box.Section) bool { return s.Kind == t.Kind && bytes.Equal(s.Data, t.Data) })
}

func clone(l []box.Section) []box.Section {
	c := slices.Clone(l)
	for i := range c {
		c[i].Data = bytes.Clone(c[i].Data)
	}
	return c
}

// short returns the beginning of the text of a value, which may be long.
func short(x any) string {
	if l, ok := x.([]box.Section); ok {
		s := ""
		for _, t := range l[:min(len(l), 20)] {
			s += fmt.Sprintf("%d:%s ", t.Kind, short(t.Data[:min(len(t.Data), 20)]))
		}
		return fmt.Sprintf("[%s] (%d)", s, len(l))
	}
	if b, ok := x.([]byte); ok {
		x = string(b[:min(len(b), 500)])
	}
	s := fmt.Sprintf("%q", x)
	if len(s) > 500 {
		return s[:500] + "…"
	}
	return s
}

func wantSize(t *testing.T, l []box.Section, want int) {
	t.Helper()
	if got := box.Size(l); got != want {
		t.Errorf("Size(%s) = %d; want %d", short(l), got, want)
	}
}

func wantWrite(t *testing.T, l []box.Section, want string, wantE api.Errno) {
	t.Helper()
	before := clone(l)
	b, e := box.Write(l)
	if string(b) != want || e != wantE {
		t.Errorf("Write(%s) = %s, %v; want %s, %v", short(before), short(b), e, short(want), wantE)
	}
	if !same(l, before) {
		t.Errorf("Write(%s) changed its argument to %s", short(before), short(l))
	}
}

func wantRead(t *testing.T, b string, want []box.Section, wantE api.Errno) {
	t.Helper()
	arg := []byte(b)
	l, e := box.Read(arg)
	if !same(l, want) || e != wantE {
		t.Errorf("Read(%s) = %s, %v; want %s, %v", short(b), short(l), e, short(want), wantE)
	}
	if string(arg) != b {
		t.Errorf("Read(%s) changed its argument to %s", short(b), short(arg))
	}
}

// wantNone: the bytes are no container, of which the model is sure as well.
func wantNone(t *testing.T, b string) {
	t.Helper()
	wantRead(t, b, nil, api.ErrBox)
	if l, e := readable(b); e != api.ErrBox {
		t.Errorf("the model reads %s from %s", short(l), short(b))
	}
}

// wantAsModel compares Read with the model, and what it reads with Write (P15.5), and tells whether there is something.
func wantAsModel(t *testing.T, b string) bool {
	t.Helper()
	l, e := readable(b)
	wantRead(t, b, l, e)
	if e == api.OK {
		wantWrite(t, l, b, api.OK)
		wantSize(t, l, len(b))
	}
	return e == api.OK
}

// wantContainer: the list is written, measured, and read again (P15.1, P15.2, P15.3 and P15.5).
func wantContainer(t *testing.T, l []box.Section, b string) {
	t.Helper()
	wantSize(t, l, len(b))
	wantWrite(t, l, b, api.OK)
	wantRead(t, b, l, api.OK)
}

func wantGet(t *testing.T, l []box.Section, kind int, want string, wantOK bool) {
	t.Helper()
	before := clone(l)
	b, ok := box.Get(l, kind)
	if string(b) != want || ok != wantOK {
		t.Errorf("Get(%s, %d) = %s, %v; want %s, %v", short(l), kind, short(b), ok, short(want), wantOK)
	}
	if !same(l, before) {
		t.Errorf("Get(%s, %d) changed its argument to %s", short(before), kind, short(l))
	}
}

// list returns sections with the Kinds 1, 2 and so on.
func list(data ...string) []box.Section {
	var l []box.Section
	for i, s := range data {
		l = append(l, box.Section{Kind: i + 1, Data: []byte(s)})
	}
	return l
}

// kinds returns sections with one byte each.
func kinds(all ...int) []box.Section {
	var l []box.Section
	for i, kind := range all {
		l = append(l, box.Section{Kind: kind, Data: []byte{byte('a' + i)}})
	}
	return l
}

// oneTo returns the numbers from 1 to n.
func oneTo(n int) []int {
	var l []int
	for i := range n {
		l = append(l, i+1)
	}
	return l
}

// TestExamples: the chapter's examples, and the size of the one of chapter 16.
func TestExamples(t *testing.T) {
	none := string([]byte{83, 76, 67, 49, 1, 0, 0, 0, 16, 0, 0, 0, 0, 0, 0, 0})
	wantContainer(t, nil, none)
	wantContainer(t, []box.Section{}, none)
	one := string([]byte{
		83, 76, 67, 49, 1, 0, 1, 0, 40, 0, 0, 0, 0, 0, 0, 0,
		7, 0, 0, 0, 32, 0, 0, 0, 1, 0, 0, 0, 0, 0, 0, 0,
		9, 0, 0, 0, 0, 0, 0, 0,
	})
	wantContainer(t, []box.Section{{Kind: 7, Data: []byte{9}}}, one)
	wantSize(t, list("\x95\x00\x00\x00\x00\x00\x00\x00", "", "", "", "\x00"), 96)
}

// TestContainers: P15.1, P15.2, P15.3 and P15.5, containers written out.
func TestContainers(t *testing.T) {
	pad := func(n int) string { return strings.Repeat("\x00", n) }
	for _, c := range []struct {
		l []box.Section
		b string
	}{
		{list(""), header + "\x01\x00\x20\x00\x00\x00" + pad(4) + "\x01\x00\x00\x00\x20\x00\x00\x00" + pad(4) + pad(4)},
		{list("1234567"), header + "\x01\x00\x28\x00\x00\x00" + pad(4) + "\x01\x00\x00\x00\x20\x00\x00\x00\x07\x00\x00\x00" + pad(4) + "1234567\x00"},
		{list("12345678"), header + "\x01\x00\x28\x00\x00\x00" + pad(4) + "\x01\x00\x00\x00\x20\x00\x00\x00\x08\x00\x00\x00" + pad(4) + "12345678"},
		{list("123456789"), header + "\x01\x00\x30\x00\x00\x00" + pad(4) + "\x01\x00\x00\x00\x20\x00\x00\x00\x09\x00\x00\x00" + pad(4) + "123456789" + pad(7)},
		{[]box.Section{{Kind: 258, Data: nil}, {Kind: 65535, Data: []byte("\xff")}}, header + "\x02\x00\x30\x00\x00\x00" + pad(4) + "\x02\x01\x00\x00\x28\x00\x00\x00" + pad(4) + "\xff\xff\x00\x00\x28\x00\x00\x00\x01\x00\x00\x00" + "\xff" + pad(7)},
		{[]box.Section{{Kind: 1, Data: []byte("abc")}, {Kind: 256, Data: []byte("")}, {Kind: 257, Data: []byte("\x00\x00")}}, header + "\x03\x00\x48\x00\x00\x00" + pad(4) +
			"\x01\x00\x00\x00\x38\x00\x00\x00\x03\x00\x00\x00" + "\x00\x01\x00\x00\x40\x00\x00\x00" + pad(4) + "\x01\x01\x00\x00\x40\x00\x00\x00\x02\x00\x00\x00" + pad(4) +
			"abc" + pad(5) + pad(8)},
		{list("a", "", "", "b"), header + "\x04\x00\x50\x00\x00\x00" + pad(4) +
			"\x01\x00\x00\x00\x40\x00\x00\x00\x01\x00\x00\x00" + "\x02\x00\x00\x00\x48\x00\x00\x00" + pad(4) + "\x03\x00\x00\x00\x48\x00\x00\x00" + pad(4) + "\x04\x00\x00\x00\x48\x00\x00\x00\x01\x00\x00\x00" +
			"a" + pad(7) + "b" + pad(7)},
	} {
		wantContainer(t, c.l, c.b)
		if model := container(c.l); model != c.b {
			t.Errorf("the model writes %q for %q", model, c.b)
		}
	}
}

// TestNumbers: P15.1 to P15.3, all numbers of sections with data of all small lengths, and numbers of all bytes.
func TestNumbers(t *testing.T) {
	for n := range 17 {
		for size := range 26 {
			l := kinds(oneTo(n)...)
			for i := range l {
				l[i].Data = bytes.Repeat([]byte{byte(200 + i)}, size)
			}
			wantContainer(t, l, container(l))
			for i := range l {
				l[i].Data = bytes.Repeat([]byte{byte(i)}, size*i)
			}
			wantContainer(t, l, container(l))
		}
	}
	for _, size := range []int{255, 256, 257, 65535, 65536, 65537, 1<<24 - 1, 1 << 24, 1<<24 + 1} {
		l := list("a", strings.Repeat("b", size), "c")
		wantContainer(t, l, container(l))
	}
	for kind := 1; kind <= 65535; kind++ {
		l := kinds(kind)
		wantContainer(t, l, container(l))
	}
}

// TestSizes: P15.1, lists that are not correct, and the longest ones.
func TestSizes(t *testing.T) {
	for _, l := range [][]box.Section{kinds(0), kinds(-1), kinds(65536), kinds(2, 1), kinds(1, 1), kinds(math.MinInt, math.MaxInt), kinds(oneTo(17)...), kinds(oneTo(100)...), make([]box.Section, 17), make([]box.Section, 18)} {
		wantSize(t, l, len(container(l)))
	}
	for n, want := range map[int]int{16: 208, 17: 224, 18: 232, 65535: 786440, 65536: 786448, 65537: 786464} {
		wantSize(t, make([]box.Section, n), want)
	}
	const n = 1 << 20
	l := make([]box.Section, n)
	wantSize(t, l, 16+12*n)
	wantSize(t, l[1:], 16+12*n-8)
	data := make([]byte, n)
	for i := range l {
		l[i].Data = data
	}
	wantSize(t, l, 16+12*n+n*n)
	for i := range l {
		l[i].Data = data[:n-7]
	}
	wantSize(t, l, 16+12*n+n*n)
	for i := range l {
		l[i].Data = data[:n-8]
	}
	wantSize(t, l, 16+12*n+n*(n-8))
	wantWrite(t, l[:17], "", api.ErrSize)
}

// TestWriteErrors: P15.2, wrong Kinds at all places, and too many sections, which come first.
func TestWriteErrors(t *testing.T) {
	wrong := []int{0, -1, -65535, -65536, 65536, 65537, 65536 + 8, 131071, 1 << 31, 1<<32 + 8, math.MaxInt32, math.MinInt32, math.MaxInt, math.MinInt, math.MinInt + 8}
	for n := 1; n <= 17; n++ {
		e := api.ErrRange
		if n > 16 {
			e = api.ErrSize
		}
		for i := range n {
			all := oneTo(n)
			for _, kind := range wrong {
				all[i] = kind
				wantWrite(t, kinds(all...), "", e)
			}
			for _, kind := range all[:i] {
				all[i] = kind // equal to one before it, or less than the last one
				wantWrite(t, kinds(all...), "", e)
			}
		}
	}
	for _, n := range []int{17, 18, 32, 256, 257, 65535, 65536, 65537, 65552} {
		wantWrite(t, kinds(oneTo(n)...), "", api.ErrSize)
		wantWrite(t, make([]box.Section, n), "", api.ErrSize)
	}
	for _, all := range [][]int{{1, 1}, {2, 1}, {1, 2, 2}, {1, 3, 2}, {65535, 1}, {65535, 65535}, {65535, 65536}, {5, 4, 6}, {256, 1}, {1, 65536, 2}, {0, 1}, {-1, 1}, {-2, -1}, {0, 0}} {
		wantWrite(t, kinds(all...), "", api.ErrRange)
	}
}

// TestGet: P15.4, in lists of all kinds.
func TestGet(t *testing.T) {
	l := list("a", "", "ccc")
	l = append(l, kinds(65535)...)
	for kind, want := range map[int]string{1: "a", 2: "", 3: "ccc", 65535: "a"} {
		wantGet(t, l, kind, want, true)
	}
	for _, kind := range []int{0, 4, -1, -2, 65534, 65536, 65537, 1<<32 + 1, math.MaxInt, math.MinInt, math.MinInt + 1, -65535} {
		wantGet(t, l, kind, "", false)
		wantGet(t, nil, kind, "", false)
	}
	wrong := kinds(5, 3, 5, 0, 3, -1, 65537, math.MaxInt, math.MinInt, 0)
	for kind, want := range map[int]string{5: "a", 3: "b", 0: "d", -1: "f", 65537: "g", math.MaxInt: "h", math.MinInt: "i"} {
		wantGet(t, wrong, kind, want, true)
	}
	wantGet(t, wrong, 1, "", false)
	wantGet(t, []box.Section{{Kind: 1}, {Kind: 1, Data: []byte("b")}}, 1, "", true)
	many := kinds(oneTo(100)...)
	for i, s := range many {
		wantGet(t, many, s.Kind, string(s.Data), true)
		wantGet(t, many[:i], s.Kind, "", false)
		wantGet(t, many[i+1:], s.Kind, "", false)
	}
}

// at returns bytes with others at an offset.
func at(b string, off int, s string) string {
	return b[:off] + s + b[off+len(s):]
}

// TestReadErrors: P15.3, containers with one thing that is wrong.
func TestReadErrors(t *testing.T) {
	b := container([]box.Section{{Kind: 2, Data: []byte("abc")}, {Kind: 3}, {Kind: 258, Data: []byte("12345678")}})
	// The rows are at 16, 28 and 40, zero bytes at 52, the data at 56, 64 and 64, and the end at 72.
	for _, c := range []struct {
		off int
		s   string
	}{
		{0, "s"}, {0, "slc1"}, {0, "1CLS"}, {3, "2"}, {3, "\x01"}, // the text SLC1
		{4, "\x00"}, {4, "\x02"}, {4, "\x00\x01"}, {5, "\x01"}, // the number 1
		{6, "\x00"}, {6, "\x02"}, {6, "\x04"}, {6, "\x10"}, {6, "\x11"}, {7, "\x01"}, {6, "\xff\xff"}, {6, "\x00\x03"}, // the number of sections
		{8, "\x00"}, {8, "\x47"}, {8, "\x49"}, {8, "\x40"}, {8, "\x50"}, {9, "\x01"}, {11, "\x01"}, {11, "\x80"}, {8, "\x00\x00\x00\x48"}, {8, "\xff\xff\xff\xff"}, // the number of bytes
		{12, "\x01"}, {15, "\x01"}, {13, "\x80"}, // zero bytes of the header
		{16, "\x00"}, {16, "\x03"}, {18, "\x01"}, {19, "\x01"}, {19, "\x80"}, {28, "\x02"}, {28, "\x01"}, {28, "\x02\x01"}, {30, "\x01"}, {41, "\x00"}, {40, "\x03\x00"}, {42, "\x01"}, {43, "\x80"}, // Kinds
		{20, "\x37"}, {20, "\x39"}, {20, "\x40"}, {20, "\x00"}, {21, "\x01"}, {23, "\x01"}, {23, "\x80"}, {20, "\xff\xff\xff\xff"}, {32, "\x38"}, {32, "\x3b"}, {32, "\x48"}, {32, "\x00"}, {32, "\x49"}, {35, "\xff"}, {44, "\x38"}, {44, "\x3c"}, {44, "\x44"}, {44, "\x48"}, {45, "\x01"}, // offsets
		{24, "\x00"}, {24, "\x02"}, {24, "\x09"}, {24, "\x10"}, {24, "\x11"}, {25, "\x01"}, {27, "\x80"}, {24, "\xff\xff\xff\xff"}, {36, "\x01"}, {36, "\x08"}, {36, "\x09"}, {39, "\x01"}, {48, "\x00"}, {48, "\x09"}, {48, "\x10"}, {48, "\xff\xff\xff\xff"}, {51, "\xff"}, // numbers of bytes
		{52, "\x01"}, {55, "\x01"}, {59, "\x01"}, {59, "\xff"}, {63, "\x01"}, {60, "\x00\x01"}, // padding
	} {
		wantNone(t, at(b, c.off, c.s))
	}
	wantNone(t, at(at(b, 16, "\x03"), 28, "\x02")) // Kinds that are exchanged
	wantNone(t, at(at(b, 32, "\x00\x00"), 28, "\x03"))
	for _, s := range []string{"", "S", "SLC1", "SLC1\x01\x00", "SLC1\x01\x00\x00\x00", "SLC1\x01\x00\x00\x00\x10\x00\x00\x00", "\x00", strings.Repeat("\x00", 16), strings.Repeat("\xff", 16), strings.Repeat("SLC1", 4), "SLC1\x01\x00\x00\x00\x00\x00\x00\x10\x00\x00\x00\x00", "SLC1\x00\x01\x00\x00\x10\x00\x00\x00\x00\x00\x00\x00"} {
		wantNone(t, s)
	}
}

// TestReadOthers: P15.3, containers that would be right, were there not something of another list.
func TestReadOthers(t *testing.T) {
	for _, l := range [][]box.Section{kinds(0), kinds(65536), kinds(65537), kinds(0, 1), kinds(1, 65536), kinds(1, 1), kinds(2, 1), kinds(1, 3, 2), kinds(1, 2, 2, 3), kinds(1<<31 - 1), kinds(1<<31 + 1), kinds(1<<32 - 1), kinds(oneTo(17)...), kinds(oneTo(18)...), kinds(oneTo(256)...), kinds(oneTo(65535)...)} {
		wantNone(t, container(l))
	}
	pad := func(n int) string { return strings.Repeat("\x00", n) }
	row := func(kind, off, size int) string { return number(kind, 4) + number(off, 4) + number(size, 4) }
	whole := func(n int, rest string) string {
		return header + number(n, 2) + number(16+len(rest), 4) + pad(4) + rest
	}
	right := whole(2, row(1, 40, 8)+row(2, 48, 8)+"12345678"+"abcdefgh")
	wantContainer(t, list("12345678", "abcdefgh"), right)
	for _, b := range []string{
		whole(2, row(1, 48, 8)+row(2, 40, 8)+"abcdefgh"+"12345678"),         // the data is exchanged
		whole(2, row(1, 40, 8)+row(2, 40, 8)+"12345678"),                    // and shared
		whole(2, row(1, 40, 8)+row(2, 40, 0)+"12345678"),                    // no data at another offset
		whole(2, row(1, 40, 8)+row(2, 56, 8)+"12345678"+pad(8)+"abcdefgh"),  // bytes that are in no section
		whole(2, row(1, 48, 8)+row(2, 56, 8)+pad(8)+"12345678"+"abcdefgh"),  // also in front
		whole(2, row(1, 40, 8)+row(2, 48, 8)+"12345678"+"abcdefgh"+pad(8)),  // and at the end
		whole(2, row(1, 40, 8)+row(2, 48, 7)+"12345678"+"abcdefgh"),         // padding that is not zero
		whole(2, row(1, 40, 9)+row(2, 49, 8)+"123456789"+"abcdefgh"+pad(7)), // no padding
		whole(2, row(1, 40, 8)+row(2, 48, 9)+"12345678"+"abcdefgh"),         // too few bytes
		whole(2, row(1, 40, 8)+row(2, 48, 16)+"12345678"+"abcdefgh"),        // also of a multiple of 8
		whole(2, row(1, 40, 16)+row(2, 56, 0)+"12345678"),                   // and in front of another one
		whole(2, row(1, 40, 16)+row(2, 48, 8)+"12345678"+"abcdefgh"),        // sections that overlap
		whole(2, row(1, 40, 1)+row(2, 41, 8)+"1abcdefgh"+pad(7)),            // an offset that is no multiple of 8
		whole(2, row(2, 40, 8)+row(1, 48, 8)+"12345678"+"abcdefgh"),         // descending Kinds
		whole(2, row(1, 0, 0)+row(2, 0, 0)),                                 // no data at 0
		whole(1, row(1, 28, 8)+"12345678"),                                  // no padding behind the row
		whole(1, row(1, 40, 8)+pad(12)+"12345678"),                          // too much of it
		whole(1, row(1, 32, 8)+"\x00\x00\x00\x01"+"12345678"),               // padding that is not zero
		whole(0, pad(8)), whole(0, row(1, 28, 0)), whole(1, ""), whole(1, pad(12)), whole(1, pad(16)), // more or fewer rows
		whole(2, row(1, 40, 8)+pad(12)+"12345678"), whole(3, row(1, 40, 8)+row(2, 48, 8)+"12345678"+"abcdefgh"),
		whole(1, row(1, 0, 28)), whole(1, row(1, 0, 32)+pad(4)), whole(1, row(1, 16, 12)+pad(4)), // the front as data
		whole(1, row(1, 32, 1<<32-1)+pad(4)), whole(1, row(1, 1<<32-1, 1)+pad(4)), whole(1, row(1, 1<<32-1, 1<<32-1)+pad(4)), whole(1, row(1, 1<<31, 1<<31)+pad(4)), whole(1, row(1, 1<<32-8, 40)+pad(4)+"12345678"), // sums of more than 32 bits
	} {
		wantNone(t, b)
	}
}

// TestReadNear: P15.3 and P15.5, containers with each byte changed to each other one, cut, and with bytes more or less.
func TestReadNear(t *testing.T) {
	for _, l := range [][]box.Section{nil, list("a"), list("", "bc"), {{Kind: 2, Data: []byte("abc")}, {Kind: 300, Data: []byte("12345678")}, {Kind: 65535}}} {
		b := container(l)
		found := 0
		for i := range b {
			for c := range 256 {
				if wantAsModel(t, at(b, i, string([]byte{byte(c)}))) {
					found++
				}
			}
			wantNone(t, b[:i])
			wantNone(t, b[i+1:])
			for n := 1; i+n <= len(b); n++ {
				wantNone(t, b[:i]+b[i+n:])
				wantNone(t, b[:i]+strings.Repeat("\x00", n)+b[i:])
			}
			for n := range 17 {
				wantAsModel(t, b[:i]+strings.Repeat("\x00", min(n, len(b)-i))+b[min(i+n, len(b)):])
			}
		}
		for n := 1; n < 20; n++ {
			wantNone(t, b+strings.Repeat("\x00", n))
			wantNone(t, at(b, 8, number(len(b)+n, 4))+strings.Repeat("\x00", n))
		}
		wantNone(t, b+b)
		if found < len(b) {
			t.Errorf("only %d containers are near %q", found, b)
		}
	}
}

// TestFields: P15.3, all small numbers in all fields of the header and the rows.
func TestFields(t *testing.T) {
	b := container(list("abc", "", "12345678"))
	found := 0
	for off := 8; off < 52; off += 4 {
		for x := range 300 {
			if wantAsModel(t, at(b, off, number(x, 4))) {
				found++
			}
			for other := off + 4; other < 52; other += 4 {
				for y := range 20 {
					if wantAsModel(t, at(at(b, off, number(x%75, 4)), other, number(y*4, 4))) {
						found++
					}
				}
			}
		}
	}
	if found < 100 {
		t.Errorf("only %d containers were found", found)
	}
}

// TestSmall: P15.1 to P15.3 and P15.5, all lists of up to four sections out of some, correct or not.
func TestSmall(t *testing.T) {
	some := []box.Section{{Kind: 0}, {Kind: 1, Data: []byte("a")}, {Kind: 2}, {Kind: 2, Data: []byte("1234567")}, {Kind: 3, Data: []byte("12345678")}, {Kind: 65535, Data: []byte("123456789")}, {Kind: 65536, Data: []byte("b")}}
	lists := [][]box.Section{nil}
	for from := 0; len(lists[from]) < 4; from++ {
		for _, s := range some {
			lists = append(lists, append(slices.Clone(lists[from]), s))
		}
	}
	correct := 0
	for _, l := range lists {
		b, e := written(l)
		wantWrite(t, l, b, e)
		wantSize(t, l, len(container(l)))
		if e == api.OK {
			correct++
			wantRead(t, b, l, api.OK)
		} else {
			wantRead(t, container(l), nil, api.ErrBox)
		}
		for kind := -1; kind < 5; kind++ {
			i := slices.IndexFunc(l, func(s box.Section) bool { return s.Kind == kind })
			if i < 0 {
				wantGet(t, l, kind, "", false)
			} else {
				wantGet(t, l, kind, string(l[i].Data), true)
			}
		}
	}
	if correct != 24 {
		t.Errorf("%d correct lists", correct)
	}
}

// TestRandom: P15.5, containers of lists of random length, and ones with some bytes changed.
func TestRandom(t *testing.T) {
	r := rand.New(rand.NewSource(15))
	for range 20000 {
		var l []box.Section
		kind := 0
		for range r.Intn(17) {
			kind += 1 + r.Intn(4096)
			if kind > 65535 {
				break
			}
			data := make([]byte, r.Intn(20))
			r.Read(data)
			l = append(l, box.Section{Kind: kind, Data: data})
		}
		b := container(l)
		wantContainer(t, l, b)
		for range 3 {
			b = at(b, r.Intn(len(b)), string([]byte{byte(r.Intn(256))}))
			wantAsModel(t, b)
		}
	}
}

// TestGreatest: P15.2 and P15.3, containers of 2^30 bytes, and of more.
func TestGreatest(t *testing.T) {
	const n = 1 << 26
	data := make([]byte, n)
	for i := range data {
		data[i] = byte(i*7 + i>>8)
	}
	l := kinds(oneTo(16)...)
	for i := range l {
		l[i].Data = data
	}
	l[15].Data = data[:n-208+1]
	wantSize(t, l, 1<<30+8)
	if b, e := box.Write(l); len(b) != 0 || e != api.ErrSize {
		t.Errorf("Write of 2^30 + 8 bytes: %d, %v", len(b), e)
	}
	l[0].Kind = 0 // the size comes first
	if b, e := box.Write(l); len(b) != 0 || e != api.ErrSize {
		t.Errorf("Write of 2^30 + 8 bytes: %d, %v", len(b), e)
	}
	l[15].Data = data[:n-208]
	wantSize(t, l, 1<<30)
	if b, e := box.Write(l); len(b) != 0 || e != api.ErrRange {
		t.Errorf("Write of 2^30 bytes with a wrong Kind: %d, %v", len(b), e)
	}
	if testing.Short() {
		return
	}
	l[0].Kind = 1
	b, e := box.Write(l)
	if len(b) != 1<<30 || e != api.OK || string(b[:16]) != header+"\x10\x00\x00\x00\x00\x40\x00\x00\x00\x00" || !bytes.Equal(b[1<<30-n+208:], l[15].Data) {
		t.Errorf("Write of 2^30 bytes: %d, %v", len(b), e)
	}
}

// TestGreatestRead: P15.3, a container of 2^30 bytes, and what would be one, had it not more.
func TestGreatestRead(t *testing.T) {
	if testing.Short() {
		return
	}
	b := make([]byte, 1<<30+8)
	for _, size := range []int{1 << 30, 1<<30 + 8} {
		copy(b, header+"\x01\x00"+number(size, 4)+"\x00\x00\x00\x00"+number(1, 4)+number(32, 4)+number(size-32, 4))
		b[32], b[size-1] = 1, 2
		l, e := box.Read(b[:size])
		if size > 1<<30 {
			if len(l) != 0 || e != api.ErrBox {
				t.Errorf("Read of %d bytes: %d, %v", size, len(l), e)
			}
			continue
		}
		if len(l) != 1 || l[0].Kind != 1 || !bytes.Equal(l[0].Data, b[32:size]) || e != api.OK {
			t.Errorf("Read of %d bytes: %d, %v", size, len(l), e)
		}
	}
}

// TestOverlap: P1, rows that share much data are no container, and it does not take long to see that.
func TestOverlap(t *testing.T) {
	const size = 1 << 26
	b := make([]byte, size)
	for _, n := range []int{2, 16, 17, 65535} {
		copy(b, header+number(n, 2)+number(size, 4)+"\x00\x00\x00\x00")
		for i := range n {
			copy(b[16+12*i:], number(i+1, 4)+number(0, 4)+number(size, 4))
		}
		if l, e := box.Read(b); len(l) != 0 || e != api.ErrBox {
			t.Errorf("Read of %d sections that overlap: %d, %v", n, len(l), e)
		}
	}
}

// TestLengths: rule 4, nothing behind the length of a slice is read.
func TestLengths(t *testing.T) {
	long := []byte("123456789abcdefgh")
	l := []box.Section{{Kind: 1, Data: long[:1]}, {Kind: 2, Data: long[:0]}, {Kind: 3, Data: long[:9]}, {Kind: 3, Data: long}, {Kind: 0}}
	want := list("1", "", "123456789")
	wantContainer(t, l[:3], container(want))
	wantWrite(t, l[:4], "", api.ErrRange)
	wantGet(t, l[:2], 3, "", false)
	if string(long) != "123456789abcdefgh" {
		t.Errorf("the data became %q", long)
	}
	whole := []byte(container(want) + "more")
	for n := range whole {
		got, e := box.Read(whole[:n])
		if n == len(whole)-4 && (!same(got, want) || e != api.OK) || n != len(whole)-4 && (len(got) != 0 || e != api.ErrBox) {
			t.Errorf("Read of the first %d bytes of %q = %s, %v", n, whole, short(got), e)
		}
	}
}

// TestKept: rule 4 and rule 7, results share no memory with arguments or with other results, unless the chapter says so.
func TestKept(t *testing.T) {
	l := list("abc", "", "12345678")
	first, _ := box.Write(l)
	second, _ := box.Write(l)
	want := string(second)
	for i := range first {
		first[i] = 'x'
	}
	if string(second) != want {
		t.Errorf("a container became %q with another result", second)
	}
	l[0].Data[0], l[2].Data[7] = 'x', 'x'
	if string(second) != want {
		t.Errorf("a container became %q with its sections", second)
	}
	m, _ := box.Read(second)
	again, _ := box.Read(second)
	for i := range second {
		second[i] = 'x'
	}
	again[0].Kind, again[0].Data[0] = 5, 'x'
	if !same(m, list("abc", "", "12345678")) {
		t.Errorf("the sections became %s with their container", short(m))
	}
	for i := range m {
		_ = append(m[i].Data, "xxxxxxxxxxxxxxxx"...)
	}
	if !same(m, list("abc", "", "12345678")) {
		t.Errorf("the sections became %s with bytes behind each", short(m))
	}
}

// TestConcurrent: rule 6, functions may be called concurrently.
func TestConcurrent(t *testing.T) {
	shared := list("abc", "", "12345678")
	var group sync.WaitGroup
	for worker := range 8 {
		group.Go(func() {
			for i := range 200 {
				l := append(slices.Clone(shared), box.Section{Kind: 4 + i, Data: bytes.Repeat([]byte{byte(worker)}, i)})
				wantContainer(t, l, container(l))
				wantWrite(t, append(l, shared...), "", api.ErrRange)
				wantRead(t, container(l)+"b", nil, api.ErrBox)
				wantGet(t, shared, 3, "12345678", true)
			}
		})
	}
	group.Wait()
}

// FuzzRead: P15.3 and P15.5, compares Read with the model, also for bytes behind a right header and right rows.
func FuzzRead(f *testing.F) {
	f.Add(container(nil), 0)
	f.Add(container(list("a")), 1)
	f.Add(container(list("abc", "", "12345678")), 3)
	f.Add(container(kinds(oneTo(16)...)), 2)
	f.Add("", -1)
	f.Add(strings.Repeat("\x00", 64), 5)
	f.Fuzz(func(t *testing.T, b string, n int) {
		wantAsModel(t, b)
		n = int(uint(n) % 20)
		wantAsModel(t, header+number(n, 2)+number(16+len(b), 4)+"\x00\x00\x00\x00"+b)
		rows := ""
		front := 16 + 12*n + len(padding(16+12*n))
		for i := range n {
			rows += number(i+1, 4) + number(front, 4)
			if i < len(b) {
				rows += number(int(b[i]), 4)
				front += int(b[i]) + len(padding(int(b[i])))
			} else {
				rows += number(0, 4)
			}
		}
		rows += padding(16 + 12*n)
		for _, rest := range []string{b, b + padding(len(b)), strings.Repeat("\x00", front-16-len(rows))} {
			wantAsModel(t, header+number(n, 2)+number(16+len(rows+rest), 4)+"\x00\x00\x00\x00"+rows+rest)
		}
	})
}

// FuzzWrite: P15.1, P15.2 and P15.5, writes lists and reads what was written.
func FuzzWrite(f *testing.F) {
	f.Add("a,,12345678", 1, 1)
	f.Add("", 65535, 0)
	f.Add("a,b", 65535, 1)
	f.Add("a,b,c", 0, -1)
	f.Add(",,,,,,,,,,,,,,,,", 1, 5)
	f.Add("a,b", math.MaxInt, math.MaxInt)
	f.Fuzz(func(t *testing.T, text string, first, step int) {
		var l []box.Section
		for _, s := range strings.Split(text, ",") {
			l = append(l, box.Section{Kind: first, Data: []byte(s)})
			first += step
		}
		b, e := written(l)
		wantSize(t, l, len(container(l)))
		wantWrite(t, l, b, e)
		if e == api.OK {
			wantRead(t, b, l, api.OK)
		}
		i := slices.IndexFunc(l, func(s box.Section) bool { return s.Kind == first-step })
		wantGet(t, l, first-step, string(l[i].Data), true)
	})
}
