package object_test

import (
	"bytes"
	"fmt"
	"math"
	"math/rand"
	"regexp"
	"runtime"
	"slices"
	"strconv"
	"strings"
	"sync"
	"testing"

	"slotcode/api"
	"slotcode/asm"
	"slotcode/box"
	"slotcode/object"
)

// Slots of exit, and of lddw r0, 5.
const (
	exit = "\x95\x00\x00\x00\x00\x00\x00\x00"
	lddw = "\x18\x00\x00\x00\x05\x00\x00\x00\x00\x00\x00\x00\x00\x00\x00\x00"
)

var (
	registerName = regexp.MustCompile(`\Ar([0-9]|10)\z`)
	identifier   = regexp.MustCompile(`\A[A-Za-z_.][A-Za-z0-9_.]{0,31}\z`)
)

func isIdentifier(s string) bool { return identifier.MatchString(s) && !registerName.MatchString(s) }

// checked returns what Check has to return, by the chapter's conditions one after the other.
func checked(o api.Object) api.Errno {
	var names []string
	for _, d := range o.Maps {
		if !isIdentifier(d.Name) {
			return api.ErrName
		}
		if d.Key < 1 || d.Key > 64 || d.Value < 1 || d.Value > 256 || d.Entries < 1 || d.Entries > 1024 {
			return api.ErrMap
		}
	}
	if len(o.Maps) > 255 {
		return api.ErrSize
	}
	for _, d := range o.Maps {
		if slices.Contains(names, d.Name) {
			return api.ErrDuplicate
		}
		names = append(names, d.Name)
	}
	if len(o.Code) == 0 || len(o.Code)%8 != 0 {
		return api.ErrSlot
	}
	if len(o.Code) > 65535*8 {
		return api.ErrSize
	}
	for i, r := range o.Relocs {
		if r.Slot < 0 || r.Slot > len(o.Code)/8-1 || i > 0 && o.Relocs[i-1].Slot >= r.Slot || r.Symbol < 0 || r.Symbol > len(o.Maps)-1 {
			return api.ErrReloc
		}
	}
	return api.OK
}

// number returns a number with four bytes, the least significant one first.
func number(x int) string {
	n := uint32(x)
	return string([]byte{byte(n % 256), byte(n / 256 % 256), byte(n / 65536 % 256), byte(n / 16777216)})
}

// numbers returns numbers with four bytes each.
func numbers(l ...int) string {
	s := ""
	for _, x := range l {
		s += number(x)
	}
	return s
}

// padded returns bytes with zero bytes behind them.
func padded(s string) string {
	return s + strings.Repeat("\x00", (8-len(s)%8)%8)
}

// parts returns the data of the sections of an object, whether the object is correct or not.
func parts(o api.Object) []string {
	var sizes, symbols, relocs, names strings.Builder
	names.WriteString("\x00")
	for i, d := range o.Maps {
		sizes.WriteString(numbers(d.Key, d.Value, d.Entries, 0))
		symbols.WriteString(numbers(names.Len(), i))
		names.WriteString(d.Name + "\x00")
	}
	for _, r := range o.Relocs {
		relocs.WriteString(numbers(r.Slot, r.Symbol))
	}
	return []string{string(o.Code), sizes.String(), symbols.String(), relocs.String(), names.String()}
}

// container returns the container of sections with the Kinds 1, 2 and so on.
func container(l []string) string {
	front := len(padded(strings.Repeat("x", 16+12*len(l))))
	rows, data := "", ""
	for i, s := range l {
		rows += numbers(i+1, front+len(data), len(s))
		data += padded(s)
	}
	return padded("SLC1\x01\x00"+string([]byte{byte(len(l)), 0})+numbers(front+len(data), 0)+rows) + data
}

// packed returns the bytes that an object would have if it were correct.
func packed(o api.Object) string { return container(parts(o)) }

// taker takes numbers and bytes off the front of a text, and remembers whether one was wrong.
type taker struct {
	rest  string
	taken int
	wrong bool
}

func (t *taker) text(n int) string {
	if n > len(t.rest) {
		t.wrong, n = true, len(t.rest)
	}
	s := t.rest[:n]
	t.rest = t.rest[n:]
	t.taken += n
	return s
}

func (t *taker) number() int {
	s, x := t.text(4), 0
	for i := range len(s) {
		x = 256*x + int(s[len(s)-1-i])
	}
	return x
}

func (t *taker) expect(ok bool) { t.wrong = t.wrong || !ok }

// align takes the padding.
func (t *taker) align() {
	for !t.wrong && t.taken%8 != 0 {
		t.expect(t.text(1) == "\x00")
	}
}

// end returns whether there is nothing more, and nothing was wrong.
func (t *taker) end() bool { return t.rest == "" && !t.wrong }

// readable returns what Parse has to return, for bytes that are taken one after the other.
func readable(b string) (api.Object, api.Errno) {
	t := &taker{rest: b}
	t.expect(t.text(8) == "SLC1\x01\x00\x05\x00")
	t.expect(t.number() == len(b))
	t.expect(t.number() == 0)
	var offsets, sizes [5]int
	for i := range offsets {
		t.expect(t.number() == i+1)
		offsets[i], sizes[i] = t.number(), t.number()
	}
	t.align()
	var l [5]string
	for i := range l {
		t.expect(offsets[i] == t.taken)
		l[i] = t.text(sizes[i])
		t.align()
	}
	if !t.end() {
		return api.Object{}, api.ErrBox
	}
	return objectOf(l)
}

// objectOf returns the object with sections, which are taken apart as well.
func objectOf(l [5]string) (api.Object, api.Errno) {
	o := api.Object{Code: []byte(l[0])}
	sizes, symbols, relocs, names := &taker{rest: l[1]}, &taker{rest: l[2]}, &taker{rest: l[3]}, &taker{rest: l[4]}
	names.expect(names.text(1) == "\x00")
	for i := 0; sizes.rest != "" && !sizes.wrong; i++ {
		d := api.Def{Key: sizes.number(), Value: sizes.number(), Entries: sizes.number()}
		sizes.expect(sizes.number() == 0)
		symbols.expect(symbols.number() == names.taken)
		symbols.expect(symbols.number() == i)
		d.Name = names.text(strings.IndexByte(names.rest+"\x00", 0))
		names.expect(names.text(1) == "\x00")
		o.Maps = append(o.Maps, d)
	}
	for relocs.rest != "" {
		o.Relocs = append(o.Relocs, api.Reloc{Slot: relocs.number(), Symbol: relocs.number()})
	}
	if !sizes.end() || !symbols.end() || !relocs.end() || !names.end() || checked(o) != api.OK {
		return api.Object{}, api.ErrBox
	}
	return o, api.OK
}

func same(a, b api.Object) bool {
	return slices.Equal(a.Maps, b.Maps) && bytes.Equal(a.Code, b.Code) && slices.Equal(a.Relocs, b.Relocs)
}

func clone(o api.Object) api.Object {
	return api.Object{Maps: slices.Clone(o.Maps), Code: bytes.Clone(o.Code), Relocs: slices.Clone(o.Relocs)}
}

// short returns the beginning of the text of a value, which may be long.
func short(x any) string {
	if o, ok := x.(api.Object); ok {
		return fmt.Sprintf("{%d maps %v, %d bytes %x, %d relocations %v}", len(o.Maps), o.Maps[:min(len(o.Maps), 4)], len(o.Code), o.Code[:min(len(o.Code), 32)], len(o.Relocs), o.Relocs[:min(len(o.Relocs), 8)])
	}
	s := fmt.Sprintf("%q", x)
	if len(s) > 500 {
		return s[:500] + "…"
	}
	return s
}

// wantError: the object is not correct, so that it has no bytes (P16.1 and P16.2).
func wantError(t *testing.T, o api.Object, want api.Errno) {
	t.Helper()
	before := clone(o)
	if e := object.Check(o); e != want {
		t.Errorf("Check(%s) = %v; want %v", short(o), e, want)
	}
	if b, e := object.Pack(o); len(b) != 0 || e != want {
		t.Errorf("Pack(%s) = %s, %v; want %v", short(o), short(b), e, want)
	}
	if n := object.Size(o); n != 0 {
		t.Errorf("Size(%s) = %d; want 0", short(o), n)
	}
	if !same(o, before) {
		t.Errorf("%s was changed to %s", short(before), short(o))
	}
}

func wantParse(t *testing.T, b string, want api.Object, wantE api.Errno) {
	t.Helper()
	arg := []byte(b)
	o, e := object.Parse(arg)
	if !same(o, want) || e != wantE {
		t.Errorf("Parse(%s) = %s, %v; want %s, %v", short(b), short(o), e, short(want), wantE)
	}
	if string(arg) != b {
		t.Errorf("Parse(%s) changed its argument to %s", short(b), short(string(arg)))
	}
}

// wantNone: the bytes have no object, of which the model is sure as well.
func wantNone(t *testing.T, b string) {
	t.Helper()
	wantParse(t, b, api.Object{}, api.ErrBox)
	if o, e := readable(b); e != api.ErrBox {
		t.Errorf("the model reads %s from %s", short(o), short(b))
	}
}

// wantBytes: the object is correct, and has these bytes, which have this object (P16.1 to P16.4).
func wantBytes(t *testing.T, o api.Object, want string) {
	t.Helper()
	before := clone(o)
	if e := object.Check(o); e != api.OK {
		t.Errorf("Check(%s) = %v", short(o), e)
	}
	if b, e := object.Pack(o); string(b) != want || e != api.OK {
		t.Errorf("Pack(%s) = %s, %v; want %s", short(o), short(string(b)), e, short(want))
	}
	if n := object.Size(o); n != len(want) {
		t.Errorf("Size(%s) = %d; want %d", short(o), n, len(want))
	}
	if !same(o, before) {
		t.Errorf("%s was changed to %s", short(before), short(o))
	}
	wantParse(t, want, o, api.OK)
}

// wantObject compares all functions with the model for an object and what would be its bytes, and tells whether it is correct.
func wantObject(t *testing.T, o api.Object) bool {
	t.Helper()
	e := checked(o)
	if e != api.OK {
		wantError(t, o, e)
		wantAsModel(t, packed(o))
		return false
	}
	wantBytes(t, o, packed(o))
	return true
}

// wantAsModel compares Parse with the model, and tells whether there is an object.
func wantAsModel(t *testing.T, b string) bool {
	t.Helper()
	o, e := readable(b)
	wantParse(t, b, o, e)
	if e == api.OK {
		wantBytes(t, o, b)
	}
	return e == api.OK
}

func def(name string, key, value, entries int) api.Def {
	return api.Def{Name: name, Key: key, Value: value, Entries: entries}
}

// relocs returns relocations with pairs of a slot and a symbol.
func relocs(l ...int) []api.Reloc {
	var all []api.Reloc
	for i := 0; i < len(l); i += 2 {
		all = append(all, api.Reloc{Slot: l[i], Symbol: l[i+1]})
	}
	return all
}

// code returns bytes that are no instructions, which does not matter.
func code(n int) []byte {
	b := make([]byte, n)
	for i := range b {
		b[i] = byte(7*i + i>>8 + 1)
	}
	return b
}

// some returns a correct object with three maps, four slots and two relocations.
func some() api.Object {
	return api.Object{
		Maps:   []api.Def{def("m", 4, 8, 16), def("counts", 64, 256, 1024), def("n", 1, 1, 1)},
		Code:   code(32),
		Relocs: relocs(0, 1, 3, 2),
	}
}

// with returns a correct object, changed.
func with(change func(o *api.Object)) api.Object {
	o := some()
	change(&o)
	return o
}

// many returns a correct object with n maps, the names of which have up to 32 bytes.
func many(n int) api.Object {
	o := api.Object{Code: []byte(exit)}
	for i := range n {
		name := "m" + strconv.Itoa(i) + strings.Repeat("_", i%32)
		o.Maps = append(o.Maps, def(name[:min(len(name), 32)], i%64+1, i%256+1, i%1024+1))
	}
	return o
}

// TestExamples: the chapter's example, and P16.2 and P16.3 for objects with their bytes written out.
func TestExamples(t *testing.T) {
	wantBytes(t, api.Object{Code: []byte(exit)}, string([]byte{
		83, 76, 67, 49, 1, 0, 5, 0, 96, 0, 0, 0, 0, 0, 0, 0,
		1, 0, 0, 0, 80, 0, 0, 0, 8, 0, 0, 0,
		2, 0, 0, 0, 88, 0, 0, 0, 0, 0, 0, 0,
		3, 0, 0, 0, 88, 0, 0, 0, 0, 0, 0, 0,
		4, 0, 0, 0, 88, 0, 0, 0, 0, 0, 0, 0,
		5, 0, 0, 0, 88, 0, 0, 0, 1, 0, 0, 0,
		0, 0, 0, 0,
		0x95, 0, 0, 0, 0, 0, 0, 0,
		0, 0, 0, 0, 0, 0, 0, 0,
	}))
	wantBytes(t, api.Object{
		Maps:   []api.Def{def("ab", 4, 256, 1024), def("c", 64, 1, 255)},
		Code:   []byte(lddw + exit),
		Relocs: relocs(0, 1, 2, 0),
	}, string([]byte{
		83, 76, 67, 49, 1, 0, 5, 0, 176, 0, 0, 0, 0, 0, 0, 0,
		1, 0, 0, 0, 80, 0, 0, 0, 24, 0, 0, 0,
		2, 0, 0, 0, 104, 0, 0, 0, 32, 0, 0, 0,
		3, 0, 0, 0, 136, 0, 0, 0, 16, 0, 0, 0,
		4, 0, 0, 0, 152, 0, 0, 0, 16, 0, 0, 0,
		5, 0, 0, 0, 168, 0, 0, 0, 6, 0, 0, 0,
		0, 0, 0, 0,
		0x18, 0, 0, 0, 5, 0, 0, 0, 0, 0, 0, 0, 0, 0, 0, 0, 0x95, 0, 0, 0, 0, 0, 0, 0,
		4, 0, 0, 0, 0, 1, 0, 0, 0, 4, 0, 0, 0, 0, 0, 0, 64, 0, 0, 0, 1, 0, 0, 0, 255, 0, 0, 0, 0, 0, 0, 0,
		1, 0, 0, 0, 0, 0, 0, 0, 4, 0, 0, 0, 1, 0, 0, 0,
		0, 0, 0, 0, 1, 0, 0, 0, 2, 0, 0, 0, 0, 0, 0, 0,
		0, 'a', 'b', 0, 'c', 0, 0, 0,
	}))
	wantObject(t, some())
	wantObject(t, api.Object{})
}

// TestNames: P16.1, all kinds of names at all places.
func TestNames(t *testing.T) {
	l := []string{"", "a", "Z", "_", ".", "a.b_9", "map", "exit", "lookup", "L0", "R1", "r", "r00", "r01", "r11", "r100", "rr1", "r1a", "1", "1a", "9.", "0x1", "-", "a-b", "a b", " a", "a ", "a:", "a\n", "\x00", "a\x00", "\x00a", "a\x00b", "é", "aé", "\xff", "a\xff", "ａ", "a,"}
	for n := range 11 {
		l = append(l, "r"+strconv.Itoa(n))
	}
	for _, n := range []int{31, 32, 33, 64, 100000} {
		l = append(l, strings.Repeat("a", n), "r"+strings.Repeat("1", n-1), strings.Repeat("1", n), strings.Repeat("é", n/2))
	}
	for _, name := range l {
		for i := range 3 {
			o := with(func(o *api.Object) { o.Maps[i].Name = name })
			if correct := wantObject(t, o); correct != isIdentifier(name) {
				t.Errorf("the name %q: %v", name, correct)
			}
		}
	}
}

// TestMaps: P16.1, the numbers of maps around the ends of their ranges, and far from them, at all places.
func TestMaps(t *testing.T) {
	for i := range 3 {
		for field, greatest := range []int{64, 256, 1024} {
			set := func(x int) api.Object {
				return with(func(o *api.Object) { *[]*int{&o.Maps[i].Key, &o.Maps[i].Value, &o.Maps[i].Entries}[field] = x })
			}
			for x := 1; x <= greatest; x++ {
				wantBytes(t, set(x), packed(set(x)))
			}
			for _, x := range []int{0, -1, -2, -greatest, greatest + 1, greatest + 2, 2 * greatest, 1025, 65536, 65537, 1<<24 + 1, 1<<31 + 1, 1<<32 - 1} {
				wantError(t, set(x), api.ErrMap)
				wantNone(t, packed(set(x)))
			}
			for _, x := range []int{1 << 32, 1<<32 + 1, math.MinInt32, math.MinInt32 + 1, math.MaxInt, math.MinInt, math.MinInt + 1} {
				wantError(t, set(x), api.ErrMap)
			}
		}
	}
}

// TestManyMaps: P16.1 to P16.4, about as many maps as are permitted, and more.
func TestManyMaps(t *testing.T) {
	for n := range 260 {
		o := many(n)
		if n <= 255 {
			wantBytes(t, o, packed(o))
		} else {
			wantError(t, o, api.ErrSize)
			wantNone(t, packed(o))
		}
	}
	for _, n := range []int{511, 512, 1000, 65536, 65537, 100000} {
		o := many(n)
		wantError(t, o, api.ErrSize)
		o.Maps[n-1].Name = "r1"
		wantError(t, o, api.ErrName)
		o.Maps[n-2].Entries = 1025
		wantError(t, o, api.ErrMap)
	}
}

// TestDuplicates: P16.1 and P16.3, all pairs of maps with the same name.
func TestDuplicates(t *testing.T) {
	const n = 12
	for i := range n {
		for j := range i {
			o := many(n)
			o.Maps[i].Name = o.Maps[j].Name
			wantError(t, o, api.ErrDuplicate)
			wantNone(t, packed(o))
			o.Maps[i].Name += "x"
			wantBytes(t, o, packed(o))
		}
	}
	o := many(255)
	o.Maps[254].Name = o.Maps[0].Name
	wantError(t, o, api.ErrDuplicate)
	wantNone(t, packed(o))
	o.Maps = append(o.Maps, def("more", 1, 1, 1))
	wantError(t, o, api.ErrSize)
	wantObject(t, api.Object{Maps: []api.Def{def("a", 1, 1, 1), def("A", 1, 1, 1), def("aa", 1, 1, 1), def("a_", 1, 1, 1), def("r11", 1, 1, 1)}, Code: []byte(exit)})
}

// TestCode: P16.1 to P16.4, codes of all small lengths, and around the greatest one.
func TestCode(t *testing.T) {
	for n := range 4000 {
		o := api.Object{Code: code(n)}
		if n > 0 && n%8 == 0 {
			wantBytes(t, o, packed(o))
		} else {
			wantError(t, o, api.ErrSlot)
			wantNone(t, packed(o))
		}
	}
	const greatest = 65535 * 8
	for _, n := range []int{32767 * 8, 32768 * 8, 65535, 65536, 65544, greatest - 8, greatest} {
		o := api.Object{Code: code(n)}
		if correct := wantObject(t, o); correct != (n != 65535) {
			t.Errorf("%d bytes: %v", n, correct)
		}
	}
	for n, want := range map[int]api.Errno{greatest - 1: api.ErrSlot, greatest + 1: api.ErrSlot, greatest + 7: api.ErrSlot, greatest + 8: api.ErrSize, greatest + 9: api.ErrSlot, greatest + 16: api.ErrSize, 2 * greatest: api.ErrSize, 2*greatest + 16: api.ErrSize, 1 << 24: api.ErrSize, 1<<24 + 4: api.ErrSlot} {
		o := api.Object{Code: code(n)}
		wantError(t, o, want)
		wantNone(t, packed(o))
	}
	// All slots are permitted, also ones that are no instructions.
	r := rand.New(rand.NewSource(16))
	for range 200 {
		o := some()
		r.Read(o.Code)
		wantBytes(t, o, packed(o))
	}
}

// TestRelocs: P16.1 to P16.4, relocations written out.
func TestRelocs(t *testing.T) {
	for _, l := range [][]int{
		{}, {0, 0}, {3, 0}, {0, 2}, {3, 2}, {1, 1}, {0, 0, 1, 0}, {0, 2, 1, 1}, {0, 0, 3, 0}, {2, 2, 3, 2}, {0, 0, 1, 1, 2, 2}, {1, 2, 2, 1, 3, 0}, {0, 0, 1, 0, 2, 0, 3, 0},
	} {
		o := with(func(o *api.Object) { o.Relocs = relocs(l...) })
		wantBytes(t, o, packed(o))
	}
	for _, l := range [][]int{
		{4, 0}, {5, 0}, {-1, 0}, {0, 3}, {0, 4}, {0, -1}, {4, 3}, {-1, -1}, // one that is wrong
		{0, 0, 0, 0}, {0, 0, 0, 1}, {1, 0, 0, 0}, {3, 0, 3, 1}, {3, 0, 2, 0}, {3, 0, 0, 0}, {1, 0, 1, 0, 2, 0}, {0, 0, 2, 0, 1, 0}, {0, 0, 1, 0, 1, 1}, {1, 0, 2, 0, 0, 0}, // the order
		{-1, 0, 0, 0}, {-2, 0, -1, 0}, {0, 0, -1, 0}, {3, 0, 4, 0}, {4, 0, 3, 0}, {0, 3, 1, 0}, {0, 0, 1, 3}, {0, 0, 1, -1}, {0, -1, 1, 0}, {0, 0, 1, 0, 2, 0, 3, 0, 4, 0}, {0, 0, 1, 0, 2, 0, 3, 0, 3, 0}, // several
	} {
		o := with(func(o *api.Object) { o.Relocs = relocs(l...) })
		wantError(t, o, api.ErrReloc)
		wantNone(t, packed(o))
	}
	for _, x := range []int{4 + 65536, 65536, 1 << 24, math.MaxInt32, 1 << 31, 1<<32 - 1, -65536, math.MinInt32, -4} {
		for _, l := range [][]int{{x, 0}, {0, x}, {0, 0, 1, x}, {0, 0, x, 0}, {x, x}, {x, 0, 1, 0}, {0, x, 1, 0}} {
			o := with(func(o *api.Object) { o.Relocs = relocs(l...) })
			wantError(t, o, api.ErrReloc)
			wantNone(t, packed(o))
		}
	}
	for _, x := range []int{1 << 32, 1<<32 + 1, math.MaxInt - 1, math.MaxInt, math.MinInt, math.MinInt + 1, -1 << 32} {
		for _, l := range [][]int{{x, 0}, {0, x}, {x, 0, 1, 0}, {0, x, 1, 0}, {0, 0, 1, x}, {0, 0, x, 0}, {x, x}} {
			wantError(t, with(func(o *api.Object) { o.Relocs = relocs(l...) }), api.ErrReloc)
		}
	}
	// Without maps, there are no symbols.
	for _, l := range [][]int{{0, 0}, {0, -1}, {0, 1}} {
		o := api.Object{Code: []byte(exit), Relocs: relocs(l...)}
		wantError(t, o, api.ErrReloc)
		wantNone(t, packed(o))
	}
}

// breach changes an object so that it breaks a condition.
type breach struct {
	e      api.Errno
	change func(o *api.Object)
}

// TestOrder: P16.1 and P16.2, all pairs of conditions that are broken.
func TestOrder(t *testing.T) {
	l := [][]breach{ // the first one comes first, the ones of a row are never broken together
		{{api.ErrName, func(o *api.Object) { o.Maps[0].Name = "r1" }}},
		{{api.ErrMap, func(o *api.Object) { o.Maps[0].Key = 0 }}, {api.ErrMap, func(o *api.Object) { o.Maps[0].Value = 257 }}, {api.ErrMap, func(o *api.Object) { o.Maps[0].Entries = -5 }}},
		{{api.ErrName, func(o *api.Object) { o.Maps[1].Name = "" }}},
		{{api.ErrMap, func(o *api.Object) { o.Maps[1].Key = 65 }}, {api.ErrMap, func(o *api.Object) { o.Maps[1].Value = 0 }}, {api.ErrMap, func(o *api.Object) { o.Maps[1].Entries = 1025 }}},
		{{api.ErrName, func(o *api.Object) { o.Maps[254].Name = "1" }}},
		{{api.ErrMap, func(o *api.Object) { o.Maps[254].Entries = 0 }}},
		{{api.ErrSize, func(o *api.Object) { o.Maps = append(o.Maps, def("one_more", 1, 1, 1)) }}, {api.ErrSize, func(o *api.Object) { o.Maps = append(o.Maps, o.Maps...) }}},
		{{api.ErrDuplicate, func(o *api.Object) { o.Maps[3].Name = o.Maps[2].Name }}, {api.ErrDuplicate, func(o *api.Object) { o.Maps[253].Name = o.Maps[2].Name }}},
		{{api.ErrSlot, func(o *api.Object) { o.Code = nil }}, {api.ErrSlot, func(o *api.Object) { o.Code = code(4) }}, {api.ErrSlot, func(o *api.Object) { o.Code = code(65536*8 + 1) }}},
		{{api.ErrSize, func(o *api.Object) { o.Code = code(65536 * 8) }}},
		{{api.ErrReloc, func(o *api.Object) { o.Relocs = relocs(0, 255) }}, {api.ErrReloc, func(o *api.Object) { o.Relocs = relocs(0, 0, 0, 0) }}, {api.ErrReloc, func(o *api.Object) { o.Relocs = relocs(-1, 0) }}, {api.ErrReloc, func(o *api.Object) { o.Relocs = relocs(65536, 0) }}},
	}
	for i, row := range l {
		for _, first := range row {
			o := many(255)
			first.change(&o)
			wantError(t, o, first.e)
			for _, second := range slices.Concat(l[i+1:]...) {
				o := many(255)
				second.change(&o)
				first.change(&o)
				wantError(t, o, first.e)
				if e := checked(o); e != first.e {
					t.Errorf("the model has %v for %s; want %v", e, short(o), first.e)
				}
			}
		}
	}
	// A map with a wrong size comes in front of one with a wrong name behind it.
	o := some()
	o.Maps[1].Key, o.Maps[2].Name = 0, "r2"
	wantError(t, o, api.ErrMap)
	o.Maps[1].Name = "r2"
	wantError(t, o, api.ErrName)
}

// at returns bytes with others at an offset.
func at(b string, off int, s string) string { return b[:off] + s + b[off+len(s):] }

// TestParseErrors: P16.3, containers of sections that are not those of an object.
func TestParseErrors(t *testing.T) {
	const (
		sizes   = "\x04\x00\x00\x00\x08\x00\x00\x00\x10\x00\x00\x00\x00\x00\x00\x00"
		symbols = "\x01\x00\x00\x00\x00\x00\x00\x00"
		first   = "\x00\x00\x00\x00\x00\x00\x00\x00" // a relocation
		names   = "\x00ab\x00"
	)
	right := [5]string{lddw + exit, sizes, symbols, first, names}
	wantParse(t, container(right[:]), api.Object{Maps: []api.Def{def("ab", 4, 8, 16)}, Code: []byte(lddw + exit), Relocs: relocs(0, 0)}, api.OK)
	none := api.Object{Code: []byte(lddw + exit)}
	wantParse(t, container([]string{lddw + exit, "", "", "", "\x00"}), none, api.OK)
	for i, l := range [5][]string{
		{"", exit[:7], exit + exit[:1], exit[1:] + lddw, strings.Repeat(exit, 65536), strings.Repeat(exit, 65535) + "x"},
		{"", sizes + sizes, sizes[:15], sizes[:12], sizes[:4], sizes + "\x00", sizes + numbers(0), at(sizes, 0, "\x00"), at(sizes, 0, "\x41"), at(sizes, 1, "\x01"), at(sizes, 3, "\x01"), at(sizes, 2, "\x01"), at(sizes, 4, "\x00"), at(sizes, 4, "\x01\x01"), at(sizes, 6, "\x01"), at(sizes, 7, "\xff"), at(sizes, 8, "\x00"), at(sizes, 8, "\x01\x04"), at(sizes, 10, "\x01"), at(sizes, 11, "\x80"), at(sizes, 12, "\x01"), at(sizes, 13, "\x01"), at(sizes, 14, "\x01"), at(sizes, 15, "\x80"), strings.Repeat("\x00", 16), strings.Repeat("\xff", 16), "\x00\x00\x00\x04\x00\x00\x00\x08\x00\x00\x00\x10\x00\x00\x00\x00"},
		{"", symbols + symbols, symbols[:4], symbols[:7], symbols + "\x00", symbols + numbers(0), symbols + numbers(4, 1), numbers(0, 0), numbers(2, 0), numbers(3, 0), numbers(4, 0), numbers(1, 1), numbers(0, 1), numbers(257, 0), numbers(1<<24+1, 0), numbers(1, 256), numbers(1, 1<<31), numbers(1, 1<<32-1), numbers(-1, 0)},
		{first + first, first[:4], first[:7], first + "\x00", first + numbers(1), numbers(3, 0), numbers(0, 1), numbers(1, 1), numbers(256, 0), numbers(1<<31, 0), numbers(-1, 0), numbers(0, -1), numbers(1, 0, 0, 0), numbers(0, 0, 1, 0, 2, 0, 3, 0), numbers(1<<24, 0), numbers(0, 1<<16)},
		{"", "\x00", names[:3], names[1:], "ab", names + "\x00", "\x00" + names, names + "c\x00", names + "c", "\x00\x00ab\x00", "\x00a\x00b\x00", "\x00r1\x00", "\x001a\x00", "\x00a-\x00", "\x00\xff\x00", "\x00" + strings.Repeat("a", 33) + "\x00", "\x00" + strings.Repeat("a", 1000) + "\x00", "xab\x00", "\x00ab\x01"},
	} {
		for _, s := range l {
			all := right
			all[i] = s
			wantNone(t, container(all[:]))
		}
	}
	for _, l := range [][]string{
		nil, right[:1], right[:2], right[:3], right[:4], right[1:], append(right[:5:5], ""), append(right[:5:5], "more"), append([]string{""}, right[:]...), // sections that are missing, or too many
		{"", "", "", "", "\x00"}, {exit, "", "", "", ""}, {exit, "", "", "", "\x00\x00"}, {exit, "", "", "", "\x00a\x00"}, {exit, "", "", first, "\x00"}, {exit, "", symbols, "", "\x00"}, {exit, sizes, "", "", "\x00"}, {exit, "", symbols, "", names}, {exit, sizes, symbols, "", "\x00"}, // maps that are only there in part
		{names, first, symbols, sizes, exit}, {exit, symbols, sizes, first, names}, {exit, sizes, symbols, names, first}, // exchanged sections
		make([]string, 16), make([]string, 17), make([]string, 5),
	} {
		wantNone(t, container(l))
	}
	for _, b := range []string{"", "\x00", "SLC1", exit, names, lddw + exit, strings.Repeat("\x00", 96), strings.Repeat("\xff", 96), strings.Repeat("SLC1", 24)} {
		wantNone(t, b)
	}
}

// TestParseKinds: P16.3, sections with other Kinds, and more of them.
func TestParseKinds(t *testing.T) {
	l := parts(some())
	for _, kinds := range [][]int{{1, 2, 3, 4, 5}, {2, 3, 4, 5, 6}, {1, 2, 3, 4, 6}, {1, 2, 3, 5, 6}, {1, 3, 4, 5, 6}, {1, 2, 3, 4, 65535}, {1, 2, 3, 4, 261}, {257, 258, 259, 260, 261}, {1, 2, 3, 4, 5, 6}, {1, 2, 3, 4, 5, 65535}, {1, 2, 3, 4, 5, 6, 7, 8, 9, 10, 11, 12, 13, 14, 15, 16}} {
		var sections []box.Section
		for i, kind := range kinds {
			s := box.Section{Kind: kind}
			if i < 5 {
				s.Data = []byte(l[i])
			}
			sections = append(sections, s)
		}
		b, e := box.Write(sections)
		if e != api.OK {
			t.Errorf("Write of %v: %v", kinds, e)
		}
		if slices.Equal(kinds, []int{1, 2, 3, 4, 5}) {
			wantParse(t, string(b), some(), api.OK)
		} else {
			wantNone(t, string(b))
		}
	}
}

// TestParseNames: P16.3, objects with more than one map, with other offsets, indices and names.
func TestParseNames(t *testing.T) {
	l := parts(some())
	for _, s := range []string{
		numbers(1, 0, 3, 1, 10, 2),
		numbers(1, 0, 10, 1, 3, 2), numbers(3, 0, 1, 1, 10, 2), numbers(1, 1, 3, 0, 10, 2), numbers(3, 1, 1, 0, 10, 2), numbers(1, 0, 10, 2, 3, 1), // another order
		numbers(1, 0, 1, 1, 10, 2), numbers(1, 0, 3, 1, 3, 2), numbers(1, 0, 3, 0, 10, 0), numbers(1, 0, 3, 1, 10, 3), numbers(0, 0, 3, 1, 10, 2), numbers(2, 0, 3, 1, 10, 2), numbers(1, 0, 4, 1, 10, 2), numbers(1, 0, 3, 1, 11, 2), numbers(1, 0, 3, 1, 9, 2),
		numbers(1, 0, 3, 1), numbers(1, 0, 3, 1, 10), numbers(1, 0, 3, 1, 10, 2, 12, 3), numbers(3, 1, 10, 2), numbers(0, 1, 1, 3, 2, 10),
	} {
		if all := container([]string{l[0], l[1], s, l[3], l[4]}); s == l[2] {
			wantParse(t, all, some(), api.OK)
		} else {
			wantNone(t, all)
		}
	}
	for _, s := range []string{
		"\x00m\x00counts\x00n\x00",
		"\x00m\x00counts\x00m\x00", "\x00m\x00m\x00n\x00", "\x00m\x00mounts\x00\x00\x00", "\x00m\x00count\x00n\x00", "\x00mm\x00counts\x00n\x00", "\x00m\x00counts\x00", "\x00m\x00counts\x00n\x00o\x00", "\x00m\x00counts\x00n", "\x00m\x00r10\x00s\x00n\x00", "\x00m\x00cou\x00ts\x00n\x00", "\x001\x00counts\x00n\x00", "\x00m\x00counts\x00\xff\x00", "\x00m counts\x00n\x00",
		"\x00x\x00yyyyyy\x00z\x00",
	} {
		b := container([]string{l[0], l[1], l[2], l[3], s})
		switch s {
		case l[4]:
			wantParse(t, b, some(), api.OK)
		case "\x00x\x00yyyyyy\x00z\x00":
			wantParse(t, b, with(func(o *api.Object) { o.Maps[0].Name, o.Maps[1].Name, o.Maps[2].Name = "x", "yyyyyy", "z" }), api.OK)
		default:
			wantNone(t, b)
		}
	}
}

// TestParseNear: P16.3 and P16.4, bytes of objects with each byte changed to each other one, cut, and with bytes more or less.
func TestParseNear(t *testing.T) {
	for _, c := range []struct {
		o     api.Object
		least int // bytes with an object
	}{
		{api.Object{Code: []byte(exit)}, 8 * 256}, {api.Object{Code: []byte(lddw + exit), Maps: []api.Def{def("a", 1, 2, 3), def("b_9", 64, 256, 1024)}, Relocs: relocs(0, 1, 1, 0)}, 24 * 256}, {some(), 32 * 256},
	} {
		b := packed(c.o)
		found := 0
		for i := range b {
			for x := range 256 {
				if wantAsModel(t, at(b, i, string([]byte{byte(x)}))) {
					found++
				}
			}
			wantNone(t, b[:i])
			wantNone(t, b[i+1:])
			for n := 1; i+n <= len(b) && n < 40; n++ {
				wantNone(t, b[:i]+b[i+n:])
				wantNone(t, b[:i]+strings.Repeat("\x00", n)+b[i:])
				wantAsModel(t, at(b, i, strings.Repeat("\x00", n)))
			}
			if t.Failed() {
				return
			}
		}
		for n := 1; n < 20; n++ {
			wantNone(t, b+strings.Repeat("\x00", n))
			wantNone(t, at(b, 8, number(len(b)+n))+strings.Repeat("\x00", n))
		}
		wantNone(t, b+b)
		if found < c.least {
			t.Errorf("only %d objects are near %q", found, b)
		}
	}
}

// TestFields: P16.3 and P16.4, other numbers in all places of the sections, one at a time and two at a time.
func TestFields(t *testing.T) {
	l := parts(some())
	found := 0
	for _, i := range []int{1, 2, 3} {
		for off := 0; off < len(l[i]); off += 4 {
			for _, x := range []int{0, 1, 2, 3, 4, 5, 8, 10, 63, 64, 65, 255, 256, 257, 1023, 1024, 1025, 65535, 65536, 1 << 24, 1 << 31, 1<<32 - 1} {
				all := slices.Clone(l)
				all[i] = at(l[i], off, number(x))
				if wantAsModel(t, container(all)) {
					found++
				}
				for other := off + 4; other < len(l[i]); other += 4 {
					for y := range 12 {
						all[i] = at(at(l[i], off, number(x)), other, number(y))
						if wantAsModel(t, container(all)) {
							found++
						}
					}
				}
			}
		}
	}
	if found < 1000 {
		t.Errorf("only %d objects were found", found)
	}
}

// lists returns all lists of up to n elements out of some.
func lists[T any](some []T, n int) [][]T {
	all := [][]T{nil}
	for from := 0; len(all[from]) < n; from++ {
		for _, x := range some {
			all = append(all, append(slices.Clone(all[from]), x))
		}
	}
	return all
}

// TestSmall: P16.1 to P16.4, all objects with few maps, slots and relocations out of some, correct or not; different ones have different bytes.
func TestSmall(t *testing.T) {
	maps := []api.Def{def("a", 1, 1, 1), def("a", 64, 256, 1024), def("b", 2, 3, 4), def("r1", 1, 1, 1), def("c", 1, 0, 1)}
	var all []api.Reloc
	for slot := -1; slot < 3; slot++ {
		for symbol := -1; symbol < 3; symbol++ {
			all = append(all, api.Reloc{Slot: slot, Symbol: symbol})
		}
	}
	seen := map[string]api.Object{}
	for _, m := range lists(maps, 2) {
		for _, n := range []int{0, 1, 7, 8, 9, 16, 24} {
			for _, l := range lists(all, 2) {
				o := api.Object{Maps: m, Code: code(n), Relocs: l}
				if wantObject(t, o) {
					b, _ := object.Pack(o)
					if other, ok := seen[string(b)]; ok {
						t.Errorf("%s and %s have the same bytes", short(o), short(other))
					}
					seen[string(b)] = o
				}
			}
		}
	}
	// There are 1, 3 and 4 correct lists with 0, 1 and 2 maps; and for them, so many lists of relocations for 1, 2 and 3 slots.
	if want := 3*1 + 3*(2+4+7) + 4*(3+9+19); len(seen) != want {
		t.Errorf("%d correct objects; want %d", len(seen), want)
	}
}

// randomObject returns a correct object.
func randomObject(r *rand.Rand) api.Object {
	var o api.Object
	for i := range r.Intn(5) {
		name := []byte("m" + strconv.Itoa(i))
		for len(name) < 32 && r.Intn(5) > 0 {
			name = append(name, "abzAZ_.09"[r.Intn(9)])
		}
		o.Maps = append(o.Maps, def(string(name), 1+r.Intn(64), 1+r.Intn(256), 1+r.Intn(1024)))
	}
	o.Code = make([]byte, 8+8*r.Intn(6))
	r.Read(o.Code)
	for slot := range len(o.Code) / 8 {
		if len(o.Maps) > 0 && r.Intn(2) == 0 {
			o.Relocs = append(o.Relocs, api.Reloc{Slot: slot, Symbol: r.Intn(len(o.Maps))})
		}
	}
	return o
}

// TestRandom: P16.1 to P16.4, random objects, and their bytes with some of them changed.
func TestRandom(t *testing.T) {
	r := rand.New(rand.NewSource(16))
	for range 5000 {
		o := randomObject(r)
		if !wantObject(t, o) {
			t.Errorf("%s is not correct", short(o))
		}
		b := packed(o)
		for range 5 {
			b = at(b, r.Intn(len(b)), string([]byte{byte(r.Intn(256) >> r.Intn(9))}))
			wantAsModel(t, b)
		}
		l := parts(o)
		i := r.Intn(5)
		l[i] = parts(randomObject(r))[i]
		wantAsModel(t, container(l))
	}
}

// TestPrograms: P16.2 to P16.4, objects of programs.
func TestPrograms(t *testing.T) {
	for _, text := range []string{
		"exit", "x: ja x", "lddw r0, -1\nexit",
		"map m 4 8 16\nldmap r1, m\nexit",
		"map m 4 8 16\nmap unused 64 256 1024\nmap n 1 1 1\nldmap r1, n\nmov64 r2, r10\nadd64 r2, -4\ncall lookup\njeq r0, 0, end\nldxb r0, [r0]\nend: exit\nldmap r1, m\nldmap r2, n\nja end",
		strings.Repeat("map m 1 1 1\n", 1) + strings.Repeat("ldmap r1, m\n", 1000) + "exit",
	} {
		o, _, e := asm.Text(text)
		if e != api.OK {
			t.Errorf("%q has no object: %v", text, e)
		}
		wantBytes(t, o, packed(o))
	}
	o, _, _ := asm.Text("map a 1 1 1\nmap b 2 2 2\nldmap r1, b\nexit")
	if b, _ := object.Pack(o); object.Size(o) != 16+60+4+24+32+16+8+8 || len(b) != object.Size(o) {
		t.Errorf("Size(%s) = %d, and %d bytes", short(o), object.Size(o), len(b))
	}
}

// TestGreatest: P16.1 to P16.4, the longest object, and ones that have a bit more.
func TestGreatest(t *testing.T) {
	const slots = 65535
	o := api.Object{Code: code(8 * slots)}
	for i := range 255 {
		name := "m" + strconv.Itoa(i)
		o.Maps = append(o.Maps, def(name+strings.Repeat("_", 32-len(name)), 64, 256, 1024))
	}
	for i := range slots {
		o.Relocs = append(o.Relocs, api.Reloc{Slot: i, Symbol: i % 255})
	}
	b := packed(o)
	if len(b) != 80+8*slots+255*24+8*slots+8416 {
		t.Errorf("the model writes %d bytes", len(b))
	}
	wantBytes(t, o, b)
	for _, reloc := range relocs(slots, 0, slots-1, 0, slots-1, 1, 0, 0, math.MaxInt, 0) {
		more := clone(o)
		more.Relocs = append(more.Relocs, reloc)
		wantError(t, more, api.ErrReloc)
		more.Relocs = append(more.Relocs[:slots-1], more.Relocs[slots])
		if correct := reloc.Slot == slots-1; correct != wantObject(t, more) {
			t.Errorf("the relocation %v at the end: %v", reloc, correct)
		}
	}
	l := parts(o)
	for i := range l {
		all := slices.Clone(l)
		all[i] += "\x00"
		wantNone(t, container(all))
		all[i] = l[i] + l[i][len(l[i])-8:]
		wantNone(t, container(all))
	}
}

// allocated returns the number of bytes that a call allocates.
func allocated(call func()) int {
	var before, after runtime.MemStats
	runtime.ReadMemStats(&before)
	call()
	runtime.ReadMemStats(&after)
	return int(after.TotalAlloc - before.TotalAlloc)
}

// TestLong: P1 and P16.3, long containers, which would need a lot of memory if all of their rows and names were kept, and long lists.
func TestLong(t *testing.T) {
	const n = 1 << 22
	long := []string{strings.Repeat(exit, n/8), strings.Repeat(numbers(1, 1, 1, 0), n/16), strings.Repeat(numbers(1, 0), n/8), strings.Repeat(numbers(0, 0), n/8), "\x00" + strings.Repeat("a\x00", n/2)}
	b := []byte(container(long))
	if got := allocated(func() { object.Parse(b) }); got > 2*len(b) {
		t.Errorf("Parse of %d bytes that have no object allocates %d bytes", len(b), got)
	}
	wantParse(t, string(b), api.Object{}, api.ErrBox)
	for i, s := range long {
		l := []string{exit, numbers(1, 1, 1, 0), numbers(1, 0), "", "\x00a\x00"}
		wantParse(t, container(l), api.Object{Maps: []api.Def{def("a", 1, 1, 1)}, Code: []byte(exit)}, api.OK)
		l[i] = s
		wantParse(t, container(l), api.Object{}, api.ErrBox)
	}
	wantParse(t, container([]string{exit, long[1], long[2], "", "\x00" + strings.Repeat("a", n) + "\x00"}), api.Object{}, api.ErrBox)
	wantError(t, api.Object{Code: []byte(exit), Maps: make([]api.Def, n/8)}, api.ErrName)
	wantError(t, api.Object{Code: []byte(exit), Maps: slices.Repeat([]api.Def{def("a", 1, 1, 1)}, n/8)}, api.ErrSize)
	wantError(t, api.Object{Code: []byte(exit), Maps: []api.Def{def("a", 1, 1, 1)}, Relocs: make([]api.Reloc, n/8)}, api.ErrReloc)
}

// TestLengths: rule 4, nothing behind the length of a slice is read.
func TestLengths(t *testing.T) {
	whole := some()
	o := api.Object{Maps: whole.Maps[:2], Code: whole.Code[:24], Relocs: whole.Relocs[:1]}
	wantBytes(t, o, packed(clone(o)))
	if !same(whole, some()) {
		t.Errorf("the object became %s", short(whole))
	}
	wantError(t, api.Object{Maps: whole.Maps[:0], Code: whole.Code, Relocs: whole.Relocs}, api.ErrReloc)
	wantError(t, api.Object{Maps: whole.Maps, Code: whole.Code[:24], Relocs: whole.Relocs}, api.ErrReloc)
	wantError(t, api.Object{Maps: whole.Maps, Code: whole.Code[:0]}, api.ErrSlot)
	wantError(t, api.Object{Maps: whole.Maps, Code: whole.Code[:31]}, api.ErrSlot)
	wantBytes(t, api.Object{Maps: []api.Def{}, Code: []byte(exit), Relocs: []api.Reloc{}}, packed(api.Object{Code: []byte(exit)}))
	b := []byte(packed(some()) + "more")
	for n := range b {
		o, e := object.Parse(b[:n])
		if n == len(b)-4 && (!same(o, some()) || e != api.OK) || n != len(b)-4 && (!same(o, api.Object{}) || e != api.ErrBox) {
			t.Errorf("Parse of the first %d bytes of %q = %s, %v", n, b, short(o), e)
		}
	}
}

// TestKept: rule 4 and rule 7, results share no memory with arguments or with other results.
func TestKept(t *testing.T) {
	o := some()
	first, _ := object.Pack(o)
	second, _ := object.Pack(o)
	want := packed(some())
	for i := range first {
		first[i] = 'x'
	}
	o.Code[0], o.Maps[0].Key, o.Relocs[0].Symbol = 'x', 5, 0
	if string(second) != want {
		t.Errorf("the bytes became %q with another result and their object", second)
	}
	o, _ = object.Parse(second)
	other, _ := object.Parse(second)
	for i := range second {
		second[i] = 'x'
	}
	other.Code[0], other.Maps[0].Name, other.Relocs[0].Slot = 'x', "x", 7
	_ = append(o.Code, "xxxxxxxxxxxxxxxxxxxxxxxxxxxxxxxxxxxxxxxxx"...)
	if !same(o, some()) {
		t.Errorf("the object became %s with another result and its bytes", short(o))
	}
}

// TestConcurrent: rule 6, functions may be called concurrently.
func TestConcurrent(t *testing.T) {
	shared := some()
	var group sync.WaitGroup
	for worker := range 8 {
		group.Go(func() {
			for i := range 100 {
				wantBytes(t, shared, packed(shared))
				o := many(i)
				o.Code = code(8 * (worker + 1))
				wantBytes(t, o, packed(o))
				wantError(t, api.Object{Maps: shared.Maps, Code: shared.Code[:i%8], Relocs: shared.Relocs}, api.ErrSlot)
				wantNone(t, packed(shared)+"b")
			}
		})
	}
	group.Wait()
}

// FuzzParse: P16.3 and P16.4, compares Parse with the model, also for containers of any sections.
func FuzzParse(f *testing.F) {
	f.Add(packed(api.Object{Code: []byte(exit)}), exit, "", "", "", "\x00")
	l := parts(some())
	f.Add(packed(some()), l[0], l[1], l[2], l[3], l[4])
	l = parts(many(20))
	f.Add(packed(many(20)), l[0], l[1], l[2], l[3], l[4])
	f.Add("", "", "", "", "", "")
	f.Fuzz(func(t *testing.T, b, code, sizes, symbols, relocs, names string) {
		wantAsModel(t, b)
		wantAsModel(t, container([]string{code, sizes, symbols, relocs, names}))
		// With the symbols of the names, there is more often an object.
		symbols = ""
		off := 1
		for i, name := range strings.Split(strings.Trim(names, "\x00"), "\x00") {
			symbols += numbers(off, i)
			off += len(name) + 1
		}
		wantAsModel(t, container([]string{code, sizes, symbols, relocs, names}))
	})
}

// FuzzObject: P16.1 to P16.4, compares all functions with the model.
func FuzzObject(f *testing.F) {
	f.Add("", exit, "", 1, 1, 1, 0, 0)
	f.Add("a b c", lddw+exit, "", 64, 256, 1024, 0, 1)
	f.Add("a b", exit+lddw, "", 1, 1, 1, 2, 1)
	f.Add("a a r1", "", "x", 0, 257, 1025, -1, -1)
	f.Add("a", exit, "x", 1, 1, 1, 1<<32, 1<<32)
	f.Fuzz(func(t *testing.T, names, code, more string, key, value, entries, slot, symbol int) {
		o := api.Object{Code: []byte(code)}
		for i, name := range strings.Fields(names) {
			o.Maps = append(o.Maps, def(name, key, value-i, entries+i))
		}
		o.Relocs = relocs(slot, symbol)
		wantObject(t, o)
		o.Relocs = relocs(slot, symbol, slot+len(more), symbol-1)
		wantObject(t, o)
		o.Relocs = nil
		wantObject(t, o)
		o.Maps = append(o.Maps, def(more, value, key, slot))
		wantObject(t, o)
	})
}
