package load_test

import (
	"bytes"
	"encoding/hex"
	"fmt"
	"math"
	"math/rand"
	"slices"
	"strconv"
	"strings"
	"sync"
	"testing"

	"slotcode/api"
	"slotcode/asm"
	"slotcode/load"
	"slotcode/object"
	"slotcode/slot"
	"slotcode/valid"
)

// Numbers of operations, as the table of chapter 3 has them.
const (
	mov64, ja, jeq, call, exit, ldxb, stb, lddw, ldmap, count = 10, 44, 45, 67, 68, 69, 76, 84, 85, 86
)

// loaded returns what Load has to return: the instructions are decoded one after the other, and each one searches its relocation.
func loaded(o api.Object) (load.Image, int, api.Errno) {
	if at, e := valid.Check(o); e != api.OK {
		return load.Image{}, at, e
	}
	m := load.Image{Maps: o.Maps}
	for s := 0; s < len(o.Code)/8; {
		x, n, _ := slot.Decode(o.Code[8*s:])
		for _, r := range o.Relocs {
			if x.Op == ldmap && r.Slot == s {
				x.Imm = int64(r.Symbol)
			}
		}
		m.Code = append(m.Code, x)
		s += n
	}
	return m, 0, api.OK
}

// stored returns what Store has to return: the instructions are encoded one after the other.
func stored(m load.Image) (api.Object, api.Errno) {
	o := api.Object{Maps: m.Maps}
	for _, x := range m.Code {
		if x.Op == ldmap {
			if x.Imm < 0 || x.Imm >= int64(len(m.Maps)) {
				return api.Object{}, api.ErrBox
			}
			o.Relocs = append(o.Relocs, api.Reloc{Slot: len(o.Code) / 8, Symbol: int(x.Imm)})
			x.Imm = 0
		}
		b, e := slot.Encode(x)
		if e != api.OK {
			return api.Object{}, api.ErrBox
		}
		o.Code = append(o.Code, b...)
	}
	if _, e := valid.Check(o); e != api.OK {
		return api.Object{}, api.ErrBox
	}
	return o, api.OK
}

func sameObject(a, b api.Object) bool {
	return slices.Equal(a.Maps, b.Maps) && bytes.Equal(a.Code, b.Code) && slices.Equal(a.Relocs, b.Relocs)
}

// sameImage compares what the texts of all maps and instructions tell, apart from nil and empty lists.
func sameImage(a, b load.Image) bool {
	if len(a.Maps) != len(b.Maps) || len(a.Code) != len(b.Code) {
		return false
	}
	for i, d := range a.Maps {
		if d != b.Maps[i] {
			return false
		}
	}
	for i, x := range a.Code {
		if x != b.Code[i] {
			return false
		}
	}
	return true
}

func cloneObject(o api.Object) api.Object {
	return api.Object{Maps: slices.Clone(o.Maps), Code: bytes.Clone(o.Code), Relocs: slices.Clone(o.Relocs)}
}

func cloneImage(m load.Image) load.Image {
	return load.Image{Maps: slices.Clone(m.Maps), Code: slices.Clone(m.Code)}
}

// short returns the beginning of the text of a value, which may be long.
func short(x any) string {
	switch x := x.(type) {
	case api.Object:
		return fmt.Sprintf("{%d maps, %d bytes %x, relocations %s}", len(x.Maps), len(x.Code), x.Code[:min(len(x.Code), 80)], short(x.Relocs))
	case load.Image:
		return fmt.Sprintf("{%d maps, %d instructions %s}", len(x.Maps), len(x.Code), short(x.Code[:min(len(x.Code), 20)]))
	}
	s := fmt.Sprint(x)
	if len(s) > 500 {
		return s[:500] + "…"
	}
	return s
}

// wantLoad compares Load and, if the object has bytes, Bytes with what they have to return for an object: P18.1 and P18.2.
func wantLoad(t *testing.T, o api.Object, want load.Image, wantSlot int, wantE api.Errno) {
	t.Helper()
	before := cloneObject(o)
	if m, at, e := load.Load(o); !sameImage(m, want) || at != wantSlot || e != wantE {
		t.Errorf("Load(%s) = %s, %d, %v; want %s, %d, %v", short(o), short(m), at, e, short(want), wantSlot, wantE)
	}
	if !sameObject(o, before) {
		t.Errorf("Load changed %s to %s", short(before), short(o))
	}
	if b, e := object.Pack(o); e == api.OK {
		wantBytes(t, b, want, wantSlot, wantE)
	}
}

// wantBytes compares Bytes with what it has to return: P18.2.
func wantBytes(t *testing.T, b []byte, want load.Image, wantSlot int, wantE api.Errno) {
	t.Helper()
	before := bytes.Clone(b)
	if m, at, e := load.Bytes(b); !sameImage(m, want) || at != wantSlot || e != wantE {
		t.Errorf("Bytes(%s) = %s, %d, %v; want %s, %d, %v", short(b), short(m), at, e, short(want), wantSlot, wantE)
	}
	if !bytes.Equal(b, before) {
		t.Errorf("Bytes changed %s to %s", short(before), short(b))
	}
}

// wantStore compares Store with what it has to return: P18.3.
func wantStore(t *testing.T, m load.Image, want api.Object, wantE api.Errno) {
	t.Helper()
	before := cloneImage(m)
	if o, e := load.Store(m); !sameObject(o, want) || e != wantE {
		t.Errorf("Store(%s) = %s, %v; want %s, %v", short(m), short(o), e, short(want), wantE)
	}
	if !sameImage(m, before) {
		t.Errorf("Store changed %s to %s", short(before), short(m))
	}
}

// wantNone checks that no object has an image: P18.3.
func wantNone(t *testing.T, m load.Image) {
	t.Helper()
	wantStore(t, m, api.Object{}, api.ErrBox)
}

// wantBoth checks that an object and an image are each other's: P18.1, P18.2, P18.3 and P18.5.
func wantBoth(t *testing.T, o api.Object, m load.Image) {
	t.Helper()
	wantLoad(t, o, m, 0, api.OK)
	wantStore(t, m, o, api.OK)
}

// wantObject compares Load, Bytes and Store with the models for an object, and tells the error that Load has to return.
func wantObject(t *testing.T, o api.Object) api.Errno {
	t.Helper()
	m, at, e := loaded(o)
	wantLoad(t, o, m, at, e)
	if e == api.OK {
		wantStore(t, m, o, api.OK)
	}
	return e
}

// wantImage compares Store and Load with the models for an image, and tells the error that Store has to return.
func wantImage(t *testing.T, m load.Image) api.Errno {
	t.Helper()
	o, e := stored(m)
	wantStore(t, m, o, e)
	if e == api.OK {
		wantLoad(t, o, m, 0, api.OK)
	}
	return e
}

// wantSame compares Same with what it has to return, for both orders of the images: P18.4.
func wantSame(t *testing.T, a, b load.Image, want bool) {
	t.Helper()
	kept, other := cloneImage(a), cloneImage(b)
	if load.Same(a, b) != want || load.Same(b, a) != want {
		t.Errorf("Same is %v for %s and %s, and %v for the other order; want %v", load.Same(a, b), short(a), short(b), load.Same(b, a), want)
	}
	if !sameImage(a, kept) || !sameImage(b, other) {
		t.Errorf("Same changed %s or %s to %s and %s", short(kept), short(other), short(a), short(b))
	}
}

// unhex returns the bytes of a text with digits of base 16 and spaces.
func unhex(s string) []byte {
	b, err := hex.DecodeString(strings.ReplaceAll(s, " ", ""))
	if err != nil {
		panic(s)
	}
	return b
}

// join returns the slots of correct instructions.
func join(l ...api.Ins) []byte {
	b, at, e := slot.Join(l)
	if e != api.OK {
		panic(fmt.Sprint(l[at], e))
	}
	return b
}

// op returns an instruction without fields.
func op(n int) api.Ins { return api.Ins{Op: n} }

// jump returns an instruction that jumps to a distance.
func jump(n, off int) api.Ins { return api.Ins{Op: n, Off: off} }

// ref returns an instruction that refers to the map with an index.
func ref(symbol int64) api.Ins { return api.Ins{Op: ldmap, Imm: symbol} }

// maps returns n maps, which differ in all fields.
func maps(n int) []api.Def {
	var l []api.Def
	for i := range n {
		l = append(l, api.Def{Name: "m" + strconv.Itoa(i), Key: 1 + i%64, Value: 256 - i, Entries: 1 + 4*i})
	}
	return l
}

// image returns an image with n maps.
func image(n int, l ...api.Ins) load.Image { return load.Image{Maps: maps(n), Code: l} }

// lists returns all lists of up to n elements out of some.
func lists[T any](some []T, n int) [][]T {
	all := [][]T{nil}
	for from := 0; len(all[from]) < n; from++ {
		for _, x := range some {
			all = append(all, append(slices.Clone(all[from]), x))
		}
	}
	return all
}

const (
	exitSlot = "95 00 00 00 00 00 00 00"
	// refSlots are those of "ldmap r1, n".
	refSlots = "18 11 00 00 00 00 00 00 00 00 00 00 00 00 00 00"
)

// TestExamples: the chapter's example, and the ones of other chapters with their bytes written out.
func TestExamples(t *testing.T) {
	defs := []api.Def{{Name: "m", Key: 1, Value: 2, Entries: 3}, {Name: "n", Key: 4, Value: 5, Entries: 6}}
	o, _, _ := asm.Text("map m 1 2 3\nmap n 4 5 6\nldmap r1, n\nexit")
	m, at, e := load.Load(o)
	if at != 0 || e != api.OK || !slices.Equal(m.Maps, defs) || !slices.Equal(m.Code, []api.Ins{{Op: ldmap, Dst: 1, Imm: 1}, op(exit)}) {
		t.Errorf("Load = %v, %d, %v", m, at, e)
	}
	wantBoth(t, api.Object{Maps: defs, Code: unhex(refSlots + exitSlot), Relocs: []api.Reloc{{Slot: 0, Symbol: 1}}},
		load.Image{Maps: defs, Code: []api.Ins{{Op: ldmap, Dst: 1, Imm: 1}, op(exit)}})
	wantBoth(t, api.Object{Code: unhex(exitSlot)}, load.Image{Code: []api.Ins{op(exit)}})
	wantBoth(t, api.Object{Code: unhex("05 00 ff ff 00 00 00 00")}, load.Image{Code: []api.Ins{jump(ja, -1)}})
	wantBoth(t, api.Object{Code: unhex("18 01 00 00 05 00 00 00 00 00 00 00 01 00 00 00" + exitSlot)},
		load.Image{Code: []api.Ins{{Op: lddw, Dst: 1, Imm: 1<<32 + 5}, op(exit)}})
	wantBoth(t, api.Object{Maps: defs, Code: unhex(exitSlot)}, load.Image{Maps: defs, Code: []api.Ins{op(exit)}})
	wantBoth(t, api.Object{Maps: defs, Code: unhex("bf a2 00 00 00 00 00 00" + refSlots + "15 02 fc ff 07 00 00 00" + refSlots + exitSlot), Relocs: []api.Reloc{{Slot: 1, Symbol: 1}, {Slot: 4, Symbol: 0}}},
		load.Image{Maps: defs, Code: []api.Ins{{Op: mov64, Reg: true, Dst: 2, Src: 10}, {Op: ldmap, Dst: 1, Imm: 1}, {Op: jeq, Dst: 2, Off: -4, Imm: 7}, {Op: ldmap, Dst: 1}, op(exit)}})
}

// TestWrongObjects: P18.1 and P18.2, for each condition of chapter 17, the slot and the error of valid.Check, and a zero Image.
func TestWrongObjects(t *testing.T) {
	end := join(op(exit))
	for _, c := range []struct {
		o  api.Object
		at int
		e  api.Errno
	}{
		{api.Object{}, 0, api.ErrSlot},
		{api.Object{Maps: maps(3)}, 0, api.ErrSlot},
		{api.Object{Maps: maps(3), Code: end[:7]}, 0, api.ErrSlot},
		{api.Object{Code: slices.Concat(end, end)[:15]}, 0, api.ErrSlot},
		{api.Object{Maps: []api.Def{{Name: "r1", Key: 1, Value: 1, Entries: 1}}, Code: end}, 0, api.ErrName},
		{api.Object{Maps: []api.Def{{Name: "m", Key: 65, Value: 1, Entries: 1}}, Code: end}, 0, api.ErrMap},
		{api.Object{Maps: append(maps(2), maps(1)...), Code: end}, 0, api.ErrDuplicate},
		{api.Object{Maps: maps(257)[255:], Code: end}, 0, api.ErrMap}, // the last Value is 0
		{api.Object{Code: bytes.Repeat(end, 65536)}, 0, api.ErrSize},
		{api.Object{Maps: maps(2), Code: join(op(ldmap), op(exit)), Relocs: []api.Reloc{{Slot: 0, Symbol: 2}}}, 0, api.ErrReloc},
		{api.Object{Maps: maps(2), Code: join(op(ldmap), op(exit)), Relocs: []api.Reloc{{Slot: 0, Symbol: -1}}}, 0, api.ErrReloc},
		{api.Object{Code: unhex(exitSlot + "ff 00 00 00 00 00 00 00")}, 1, api.ErrOp},
		{api.Object{Code: unhex(exitSlot + exitSlot + "18 00 00 00 00 00 00 00")}, 2, api.ErrSlot},
		{api.Object{Code: unhex(exitSlot + "95 0b 00 00 00 00 00 00")}, 1, api.ErrRegister},
		{api.Object{Code: unhex(exitSlot + "95 01 00 00 00 00 00 00")}, 1, api.ErrField},
		{api.Object{Maps: maps(2), Code: join(op(lddw), ref(1), op(exit)), Relocs: []api.Reloc{{Slot: 2, Symbol: 1}}}, 2, api.ErrField},
		{api.Object{Maps: maps(2), Code: join(op(mov64), op(ldmap), op(exit))}, 1, api.ErrReloc},
		{api.Object{Maps: maps(2), Code: join(op(mov64), op(ldmap), op(exit)), Relocs: []api.Reloc{{Slot: 2, Symbol: 1}}}, 1, api.ErrReloc},
		{api.Object{Maps: maps(2), Code: join(op(ldmap), op(lddw), op(exit)), Relocs: []api.Reloc{{Slot: 0, Symbol: 1}, {Slot: 2, Symbol: 1}}}, 2, api.ErrReloc},
		{api.Object{Code: join(op(lddw), jump(ja, -2), op(exit))}, 2, api.ErrJump},
		{api.Object{Code: join(op(exit), op(mov64), api.Ins{Op: ldxb, Dst: 10}, op(exit))}, 2, api.ErrWrite},
		{api.Object{Code: join(op(exit), op(lddw), op(mov64))}, 3, api.ErrEnd},
	} {
		wantLoad(t, c.o, load.Image{}, c.at, c.e)
		if at, e := valid.Check(c.o); at != c.at || e != c.e {
			t.Errorf("valid.Check(%s) = %d, %v; want %d, %v", short(c.o), at, e, c.at, c.e)
		}
	}
}

// TestSymbols: P18.1 to P18.3, all indices of maps, by the slots and not by the numbers of the instructions or relocations.
func TestSymbols(t *testing.T) {
	for symbol := range 255 {
		other := 254 - symbol
		relocs := []api.Reloc{{Slot: 0, Symbol: symbol}, {Slot: 5, Symbol: other}, {Slot: 7, Symbol: symbol}}
		o := api.Object{Maps: maps(255), Code: join(op(ldmap), op(lddw), op(mov64), op(ldmap), op(ldmap), jump(ja, -10)), Relocs: relocs}
		wantBoth(t, o, image(255, ref(int64(symbol)), op(lddw), op(mov64), ref(int64(other)), ref(int64(symbol)), jump(ja, -10)))
	}
	// There are as many maps as the index needs, or one less.
	for n := range 255 {
		x := ref(int64(n))
		wantNone(t, image(n, x, op(exit)))
		wantBoth(t, api.Object{Maps: maps(n + 1), Code: join(op(ldmap), op(exit)), Relocs: []api.Reloc{{Slot: 0, Symbol: n}}}, image(n+1, x, op(exit)))
	}
	// Only MapRef instructions get symbols, also where others have the Imm of one.
	for _, x := range []api.Ins{{Op: lddw, Imm: 1}, {Op: mov64, Imm: 1}, {Op: call, Imm: 1}, {Op: stb, Imm: 1}, {Op: jeq, Imm: 1, Off: -1}} {
		for _, end := range []int64{0, 1, 2} {
			l := []api.Ins{x, {Op: ldmap, Dst: 9}, x, op(exit)}
			slots := len(join(x)) / 8
			o := api.Object{Maps: maps(3), Code: join(l...), Relocs: []api.Reloc{{Slot: slots, Symbol: int(end)}}}
			l[1].Imm = end
			wantBoth(t, o, image(3, l...))
		}
	}
}

// TestImmediates: P18.3, numbers that are no index of a map, also where their last bits are.
func TestImmediates(t *testing.T) {
	for _, imm := range []int64{-1, -2, 3, 4, 254, 255, 256, 257, 1 << 16, 1<<31 - 1, 1 << 31, 1<<32 - 1, 1 << 32, 1<<32 + 1, 1 << 62, -1 << 32, 1 - 1<<32, math.MaxInt64, math.MinInt64, math.MinInt64 + 1} {
		wantNone(t, image(3, ref(imm), op(exit)))
		wantNone(t, image(3, ref(1), op(lddw), ref(imm), op(exit)))
		wantNone(t, image(0, ref(imm), op(exit)))
		wantBoth(t, api.Object{Maps: maps(3), Code: join(api.Ins{Op: lddw, Imm: imm}, op(exit))}, image(3, api.Ins{Op: lddw, Imm: imm}, op(exit)))
	}
	wantNone(t, image(0, op(ldmap), op(exit)))
	wantNone(t, image(255, ref(255), op(exit)))
	wantNone(t, image(255, ref(-255), op(exit)))
}

// TestAllObjects: P18.1 to P18.3 and P18.5, all objects out of some instructions, and sets of slots with symbols.
func TestAllObjects(t *testing.T) {
	seen := map[string]api.Object{}
	found := map[api.Errno]int{}
	for _, l := range lists([]api.Ins{op(ldmap), {Op: lddw, Dst: 1}, {Op: mov64, Imm: 1}, jump(jeq, -2)}, 3) {
		code := join(append(l, op(exit))...)
		for _, relocs := range relocLists(len(code)/8, 2) {
			o := api.Object{Maps: maps(2), Code: code, Relocs: relocs}
			e := wantObject(t, o)
			found[e]++
			if e != api.OK {
				continue
			}
			m, _, _ := load.Load(o)
			if other, ok := seen[short(m)]; ok {
				t.Errorf("%s and %s have the same image", short(o), short(other))
			}
			seen[short(m)] = o
		}
		if t.Failed() {
			return
		}
	}
	if len(seen) < 90 || found[api.ErrReloc] < 1000 || found[api.ErrJump] < 40 {
		t.Errorf("only %v were found", found)
	}
}

// relocLists returns all lists of relocations for slots, with the symbols less than n, in ascending order.
func relocLists(slots, n int) [][]api.Reloc {
	all := [][]api.Reloc{nil}
	for s := range slots {
		for _, l := range all {
			for symbol := range n {
				all = append(all, append(slices.Clone(l), api.Reloc{Slot: s, Symbol: symbol}))
			}
		}
	}
	return all
}

// TestAllImages: P18.3 and P18.5, all images out of some instructions, compared with the images of all valid objects.
func TestAllImages(t *testing.T) {
	others := []api.Ins{{Op: lddw, Dst: 1, Imm: 1}, {Op: mov64, Dst: 10, Reg: true}, jump(jeq, -3), jump(ja, 1), op(exit)}
	objects := map[string]api.Object{}
	for _, l := range lists(append(slices.Clone(others), op(ldmap)), 3) {
		code := join(l...)
		for _, relocs := range relocLists(len(code)/8, 2) {
			o := api.Object{Maps: maps(2), Code: code, Relocs: relocs}
			if m, _, e := loaded(o); e == api.OK {
				objects[short(m)] = o
			}
		}
	}
	found := 0
	for _, l := range lists(append(slices.Clone(others), ref(-1), ref(0), ref(1), ref(2), ref(1<<32)), 3) {
		m := image(2, l...)
		o, ok := objects[short(m)]
		if ok {
			wantStore(t, m, o, api.OK)
			found++
		} else {
			wantNone(t, m)
		}
		if e := wantImage(t, m); (e == api.OK) != ok {
			t.Errorf("the models disagree about %s", short(m))
		}
	}
	if found != len(objects) || found < 20 {
		t.Errorf("%d of %d objects were found", found, len(objects))
	}
}

// TestWrongImages: P18.3, for each condition of chapters 4 and 17, an image that breaks it.
func TestWrongImages(t *testing.T) {
	for _, m := range []load.Image{
		{},
		{Maps: maps(3)},
		{Maps: maps(3), Code: []api.Ins{}},
		image(2, op(-1)),
		image(2, op(count), op(exit)),
		image(2, op(exit), op(math.MaxInt), op(exit)),
		image(2, op(exit), op(math.MinInt)),
		image(2, op(exit), op(count)),
		image(2, api.Ins{Op: exit, Dst: 1}),
		image(2, api.Ins{Op: exit, Imm: 1}),
		image(2, api.Ins{Op: ldmap, Dst: 11}, op(exit)),
		image(2, api.Ins{Op: ldmap, Dst: 10, Imm: 1}, op(exit)),
		image(2, api.Ins{Op: ldmap, Reg: true, Imm: 1}, op(exit)),
		image(2, api.Ins{Op: ldmap, Src: 1, Imm: 1}, op(exit)),
		image(2, api.Ins{Op: ldmap, Off: 1, Imm: 1}, op(exit)),
		image(2, api.Ins{Op: call, Imm: 4}, op(exit)),
		image(2, api.Ins{Op: call}, op(exit)),
		image(2, api.Ins{Op: mov64, Imm: 1 << 31}, op(exit)),
		image(2, api.Ins{Op: mov64, Dst: 10}, op(exit)),
		image(2, api.Ins{Op: ldxb, Off: 1 << 15}, op(exit)),
		image(2, op(mov64)),
		image(2, op(exit), op(lddw)),
		image(2, op(exit), ref(1)),
		image(2, op(exit), jump(jeq, -2)),
		image(2, jump(ja, 0)),
		image(2, jump(ja, 2), ref(1), jump(ja, -2)),
		image(2, jump(jeq, 1), ref(1), op(exit)),
		image(2, jump(ja, 1<<15), op(exit)),
		image(2, jump(ja, 1<<32), op(exit)),
		image(2, jump(ja, math.MaxInt), op(exit)),
		{Maps: []api.Def{{Name: "m", Key: 1, Value: 1}}, Code: []api.Ins{op(exit)}},
		{Maps: []api.Def{{Name: "r10", Key: 1, Value: 1, Entries: 1}}, Code: []api.Ins{op(exit)}},
		{Maps: []api.Def{{Key: 1, Value: 1, Entries: 1}}, Code: []api.Ins{op(exit)}},
		{Maps: []api.Def{{Name: "m", Key: 1, Value: 1, Entries: 1}, {Name: "m", Key: 1, Value: 1, Entries: 1}}, Code: []api.Ins{op(exit)}},
	} {
		wantNone(t, m)
		if e := wantImage(t, m); e != api.ErrBox {
			t.Errorf("the model has %v for %s", e, short(m))
		}
	}
}

// fields returns instructions that differ from one in one field.
func fields(x api.Ins) []api.Ins {
	var l []api.Ins
	for _, n := range []int{math.MinInt, -1 << 32, -1<<15 - 1, -1 << 15, -5, -2, -1, 0, 1, 2, 3, 4, 9, 10, 11, 15, 16, 85, 86, 1<<15 - 1, 1 << 15, 1 << 16, 1 << 32, math.MaxInt} {
		for _, change := range []func(*api.Ins){
			func(x *api.Ins) { x.Op = n },
			func(x *api.Ins) { x.Reg = !x.Reg },
			func(x *api.Ins) { x.Dst = n },
			func(x *api.Ins) { x.Src = n },
			func(x *api.Ins) { x.Off = n },
			func(x *api.Ins) { x.Imm = int64(n) },
		} {
			y := x
			change(&y)
			l = append(l, y)
		}
	}
	return l
}

// TestFields: P18.3, all operations with one field changed, at the first and at another place.
func TestFields(t *testing.T) {
	found := map[api.Errno]int{}
	for n := range count {
		for _, x := range fields(op(n)) {
			found[wantImage(t, image(3, x, op(exit)))]++
			found[wantImage(t, image(3, op(lddw), ref(2), x, jump(ja, -3)))]++
			found[wantImage(t, image(3, ref(1), x))]++
		}
		if t.Failed() {
			return
		}
	}
	if found[api.OK] < 1000 || found[api.ErrBox] < 1000 || len(found) != 2 {
		t.Errorf("the model found %v", found)
	}
}

// TestMaps: P18.1 to P18.3, the maps of an image, at their bounds and beyond.
func TestMaps(t *testing.T) {
	end := []api.Ins{op(exit)}
	for _, d := range []api.Def{
		{Name: "m", Key: 1, Value: 1, Entries: 1}, {Name: "_", Key: 64, Value: 256, Entries: 1024}, {Name: strings.Repeat("x", 32), Key: 2, Value: 3, Entries: 4},
		{Name: "m", Key: 0, Value: 1, Entries: 1}, {Name: "m", Key: 65, Value: 1, Entries: 1}, {Name: "m", Key: -1, Value: 1, Entries: 1},
		{Name: "m", Key: 1, Value: 0, Entries: 1}, {Name: "m", Key: 1, Value: 257, Entries: 1}, {Name: "m", Key: 1, Value: 1, Entries: 0},
		{Name: "m", Key: 1, Value: 1, Entries: 1025}, {Name: "m", Key: math.MaxInt, Value: math.MinInt, Entries: 1 << 32}, {},
		{Name: "", Key: 1, Value: 1, Entries: 1}, {Name: "r0", Key: 1, Value: 1, Entries: 1}, {Name: "a b", Key: 1, Value: 1, Entries: 1},
		{Name: "\x00", Key: 1, Value: 1, Entries: 1}, {Name: strings.Repeat("x", 33), Key: 1, Value: 1, Entries: 1}, {Name: "é", Key: 1, Value: 1, Entries: 1},
		{Name: "n", Key: 1, Value: 1, Entries: 1},
	} {
		wantImage(t, load.Image{Maps: []api.Def{d}, Code: end})
		wantObject(t, api.Object{Maps: []api.Def{d}, Code: join(end...)})
		other := api.Def{Name: "n", Key: 1, Value: 1, Entries: 1}
		wantImage(t, load.Image{Maps: []api.Def{d, other}, Code: []api.Ins{ref(1), ref(0), op(exit)}})
		wantImage(t, load.Image{Maps: []api.Def{other, d}, Code: []api.Ins{ref(1), ref(0), op(exit)}})
	}
	// The order of maps counts.
	back := maps(3)
	slices.Reverse(back)
	wantBoth(t, api.Object{Maps: back, Code: join(end...)}, load.Image{Maps: back, Code: end})
	for _, n := range []int{0, 1, 254, 255, 256, 257, 1000} {
		var defs []api.Def
		for i := range n {
			defs = append(defs, api.Def{Name: "m" + strconv.Itoa(i), Key: 1, Value: 1, Entries: 1})
		}
		o, m := api.Object{Maps: defs, Code: join(end...)}, load.Image{Maps: defs, Code: end}
		if n > 255 {
			wantLoad(t, o, load.Image{}, 0, api.ErrSize)
			wantNone(t, m)
		} else {
			wantBoth(t, o, m)
		}
	}
}

// whole is the text of a program with all forms of operations.
const whole = `map m 4 8 16
map unused 64 256 1024
map n 1 1 1
start: ldmap r1, n
mov64 r2, r10
add64 r2, -4
stw [r10-4], 7
stxdw [r10 - 512], r1
a: b: call lookup
jeq r0, 0, end
ldxb r0, [r0]
movsb64 r0, r0
neg64 r0
be16 r0
lddw r9, -9223372036854775808
jsle32 r0, r9, a
ja start
ldmap r1, m
end: exit`

// TestWhole: P18.1 to P18.3, the image of a program with all forms, written out.
func TestWhole(t *testing.T) {
	defs := []api.Def{{Name: "m", Key: 4, Value: 8, Entries: 16}, {Name: "unused", Key: 64, Value: 256, Entries: 1024}, {Name: "n", Key: 1, Value: 1, Entries: 1}}
	l := []api.Ins{
		{Op: ldmap, Dst: 1, Imm: 2}, {Op: mov64, Reg: true, Dst: 2, Src: 10}, {Op: 0, Dst: 2, Imm: -4}, {Op: 78, Dst: 10, Off: -4, Imm: 7},
		{Op: 83, Dst: 10, Src: 1, Off: -512}, {Op: call, Imm: 1}, {Op: jeq, Off: 10}, {Op: ldxb}, {Op: 30}, {Op: 28}, {Op: 38},
		{Op: lddw, Dst: 9, Imm: math.MinInt64}, {Op: 66, Reg: true, Src: 9, Off: -9}, {Op: ja, Off: -16}, {Op: ldmap, Dst: 1}, op(exit),
	}
	o, _, e := asm.Text(whole)
	if e != api.OK {
		t.Fatal(e)
	}
	wantBoth(t, o, load.Image{Maps: defs, Code: l})
}

// TestBytes: P18.2, bytes that are no object have the error of object.Parse, and all others those of their object.
func TestBytes(t *testing.T) {
	all, _, _ := asm.Text(whole)
	for _, o := range []api.Object{
		all,
		{Code: join(op(exit))},
		{Maps: maps(2), Code: join(op(mov64), op(ldmap), op(exit)), Relocs: []api.Reloc{{Slot: 1, Symbol: 1}}},
		{Maps: maps(2), Code: join(op(mov64), op(ldmap), op(exit))},
		{Maps: maps(2), Code: join(op(mov64), jump(ja, 5), op(exit))},
	} {
		b, e := object.Pack(o)
		if e != api.OK {
			t.Fatal(e)
		}
		for n := range b {
			wantBytes(t, b[:n], load.Image{}, 0, api.ErrBox)
			wantBytes(t, b[n+1:], load.Image{}, 0, api.ErrBox)
			for _, c := range []byte{0, 1, 2, 5, 10, 0x18, 0x85, 0x95, 0xff} {
				near := slices.Clone(b)
				near[n] = c
				wantParsed(t, near)
			}
		}
		wantBytes(t, append(slices.Clone(b), 0), load.Image{}, 0, api.ErrBox)
	}
	for _, s := range []string{"", "\x00", "SLC1", "exit", whole, strings.Repeat("\x95\x00\x00\x00\x00\x00\x00\x00", 12), strings.Repeat("x", 1<<21)} {
		wantBytes(t, []byte(s), load.Image{}, 0, api.ErrBox)
	}
	wantBytes(t, nil, load.Image{}, 0, api.ErrBox)
}

// wantParsed compares Bytes with the model for the object with some bytes, and with valid.Bytes.
func wantParsed(t *testing.T, b []byte) {
	t.Helper()
	o, e := object.Parse(b)
	m, at := load.Image{}, 0
	if e == api.OK {
		m, at, e = loaded(o)
	}
	wantBytes(t, b, m, at, e)
	if other, f := valid.Bytes(b); other != at || f != e {
		t.Errorf("valid.Bytes(%s) = %d, %v; want %d, %v", short(b), other, f, at, e)
	}
}

// TestSame: P18.4, images that differ in one thing, whether they are those of objects or not.
func TestSame(t *testing.T) {
	l := []api.Ins{{Op: ldmap, Dst: 1, Imm: 1}, {Op: mov64, Reg: true, Dst: 2, Src: 3}, {Op: stb, Dst: 4, Off: 5, Imm: 6}, op(exit)}
	m := image(3, l...)
	wantSame(t, m, m, true)
	wantSame(t, m, cloneImage(m), true)
	for _, other := range []load.Image{
		{}, {Maps: m.Maps}, {Code: l}, image(2, l...), image(4, l...), image(3, l[:3]...), image(3, l[1:]...), image(3, append(l, op(exit))...),
		image(3, l[1], l[0], l[2], l[3]), image(3, l[0], l[1], l[3], l[2]), {Maps: []api.Def{m.Maps[1], m.Maps[0], m.Maps[2]}, Code: l}, {Maps: m.Maps[1:], Code: l},
	} {
		wantSame(t, m, other, false)
		wantSame(t, other, cloneImage(other), true)
	}
	for i := range l {
		for _, x := range fields(l[i]) {
			other := cloneImage(m)
			other.Code[i] = x
			wantSame(t, m, other, x == l[i])
			wantSame(t, other, cloneImage(other), true)
		}
	}
	for i, d := range m.Maps {
		for _, change := range []api.Def{
			{Name: d.Name + "x", Key: d.Key, Value: d.Value, Entries: d.Entries}, {Name: "", Key: d.Key, Value: d.Value, Entries: d.Entries},
			{Name: d.Name, Key: d.Key + 1, Value: d.Value, Entries: d.Entries}, {Name: d.Name, Key: d.Key, Value: -d.Value, Entries: d.Entries},
			{Name: d.Name, Key: d.Key, Value: d.Value, Entries: d.Entries + 1<<32}, {Name: strings.ToUpper(d.Name), Key: d.Key, Value: d.Value, Entries: d.Entries}, {},
		} {
			other := cloneImage(m)
			other.Maps[i] = change
			wantSame(t, m, other, false)
			wantSame(t, other, cloneImage(other), true)
		}
	}
	wantSame(t, load.Image{}, load.Image{Maps: []api.Def{}, Code: []api.Ins{}}, true)
	wantSame(t, load.Image{Maps: []api.Def{}, Code: l}, load.Image{Code: slices.Clone(l)}, true)
	wantSame(t, load.Image{Maps: make([]api.Def, 2)}, load.Image{Maps: make([]api.Def, 3)}, false)
	wantSame(t, load.Image{Code: make([]api.Ins, 2)}, load.Image{Code: make([]api.Ins, 3)}, false)
}

// TestAllSame: P18.4, all pairs of small images.
func TestAllSame(t *testing.T) {
	var all []load.Image
	for _, defs := range lists(maps(2), 2) {
		for _, l := range lists([]api.Ins{op(exit), op(mov64), ref(1)}, 2) {
			all = append(all, load.Image{Maps: defs, Code: l})
		}
	}
	for i, a := range all {
		for j, b := range all {
			wantSame(t, a, cloneImage(b), i == j)
		}
	}
}

// randomText returns the text of a program, which is well-formed.
func randomText(r *rand.Rand) string {
	var s strings.Builder
	maps, n := r.Intn(4), 1+r.Intn(12)
	for i := range maps {
		fmt.Fprintf(&s, "map m%d %d %d %d\n", i, 1+r.Intn(64), 1+r.Intn(256), 1+r.Intn(1024))
	}
	statements := []func() string{
		func() string { return fmt.Sprintf("lddw r%d, %d", r.Intn(10), r.Int63()) },
		func() string { return fmt.Sprintf("mov64 r%d, r%d", r.Intn(10), r.Intn(11)) },
		func() string { return fmt.Sprintf("ldxsw r%d, [r%d-%d]", r.Intn(10), r.Intn(11), r.Intn(512)) },
		func() string { return fmt.Sprintf("jset r%d, %d, L%d", r.Intn(11), r.Intn(9), r.Intn(n)) },
		func() string { return fmt.Sprintf("ja L%d", r.Intn(n)) },
		func() string { return "exit" },
		func() string { return "call update" },
		func() string { return fmt.Sprintf("ldmap r%d, m%d", r.Intn(10), r.Intn(max(maps, 1))) },
		func() string { return fmt.Sprintf("ldmap r%d, m%d", r.Intn(10), r.Intn(max(maps, 1))) },
	}
	if maps == 0 {
		statements = statements[:len(statements)-2]
	}
	for i := range n - 1 {
		fmt.Fprintf(&s, "L%d: %s\n", i, statements[r.Intn(len(statements))]())
	}
	fmt.Fprintf(&s, "L%d: ja L%d", n-1, r.Intn(n))
	return s.String()
}

// TestRandom: P18.1 to P18.5, objects of random programs and their images, and objects and images near them.
func TestRandom(t *testing.T) {
	r := rand.New(rand.NewSource(18))
	objects, images := map[api.Errno]int{}, map[api.Errno]int{}
	for range 3000 {
		o, at, e := asm.Text(randomText(r))
		if e != api.OK {
			t.Fatal(at, e)
		}
		if e := wantObject(t, o); e != api.OK {
			t.Fatalf("%s is not valid: %v", short(o), e)
		}
		m, _, _ := load.Load(o)
		for range 5 {
			near := cloneObject(o)
			changeObject(r, &near)
			objects[wantObject(t, near)]++
			other := cloneImage(m)
			changeImage(r, &other)
			images[wantImage(t, other)]++
			wantSame(t, m, other, sameImage(m, other))
			// Different valid objects have different images.
			if own, _, e := load.Load(near); e == api.OK && load.Same(own, m) != sameObject(near, o) {
				t.Errorf("%s and %s: Same is %v", short(o), short(near), load.Same(own, m))
			}
		}
		if t.Failed() {
			return
		}
	}
	for _, e := range []api.Errno{api.OK, api.ErrOp, api.ErrField, api.ErrReloc, api.ErrJump, api.ErrWrite, api.ErrEnd} {
		if objects[e] < 50 {
			t.Errorf("only %d objects with %v", objects[e], e)
		}
	}
	if images[api.OK] < 1000 || images[api.ErrBox] < 1000 {
		t.Errorf("only %v images", images)
	}
}

// changeObject changes an object at a random place.
func changeObject(r *rand.Rand, o *api.Object) {
	slots := len(o.Code) / 8
	s := r.Intn(slots)
	switch r.Intn(6) {
	case 0: // a byte
		o.Code[r.Intn(len(o.Code))] = byte(r.Intn(256))
	case 1: // a register
		o.Code[8*s+1] = o.Code[8*s+1]&0xf0 | byte(r.Intn(12))
	case 2: // a distance
		o.Code[8*s+2] += byte(r.Intn(5) - 2)
	case 3: // an end that is no end
		copy(o.Code[8*slots-8:], "\xbf\x01\x00\x00\x00\x00\x00\x00")
	case 4: // a symbol
		if len(o.Relocs) > 0 {
			o.Relocs[r.Intn(len(o.Relocs))].Symbol = r.Intn(len(o.Maps))
		}
	case 5: // a relocation less, or another slot
		if len(o.Relocs) > 0 {
			i := r.Intn(len(o.Relocs))
			if r.Intn(2) == 0 {
				o.Relocs = slices.Delete(o.Relocs, i, i+1)
			} else {
				o.Relocs[i].Slot++
			}
		}
	}
}

// changeImage changes an image at a random place.
func changeImage(r *rand.Rand, m *load.Image) {
	i := r.Intn(len(m.Code))
	switch r.Intn(6) {
	case 0: // a field
		some := fields(m.Code[i])
		m.Code[i] = some[r.Intn(len(some))]
	case 1: // an instruction less
		m.Code = slices.Delete(m.Code, i, i+1)
	case 2: // a reference more
		m.Code = slices.Insert(m.Code, i, ref(int64(r.Intn(len(m.Maps)+1))))
	case 3: // a map less
		if n := len(m.Maps); n > 0 {
			m.Maps = m.Maps[:n-1]
		}
	case 4: // another map
		m.Maps = append(m.Maps, api.Def{Name: "m" + strconv.Itoa(r.Intn(4)), Key: 1, Value: 1, Entries: 1})
	case 5: // another number
		m.Code[i].Imm += int64(r.Intn(5) - 2)
	}
}

// TestGreatest: P1, P18.1 to P18.4, objects and images with many instructions. If the time grew with the square of their number, the
// longest ones would take hours.
func TestGreatest(t *testing.T) {
	const slots, half = 65535, 32767
	var l, empty []api.Ins
	var relocs []api.Reloc
	for i := range half {
		l, empty = append(l, ref(int64(i%255))), append(empty, op(ldmap))
		relocs = append(relocs, api.Reloc{Slot: 2 * i, Symbol: i % 255})
	}
	l, empty = append(l, op(exit)), append(empty, op(exit))
	o := api.Object{Maps: maps(255), Code: join(empty...), Relocs: relocs}
	m := image(255, l...)
	wantBoth(t, o, m)
	wantSame(t, m, cloneImage(m), true)
	other := cloneImage(m)
	other.Code[half].Op = ja
	wantSame(t, m, other, false)
	wantNone(t, other)
	wantNone(t, image(254, l...))
	wantNone(t, image(255, append(l, op(exit))...))
	wantLoad(t, api.Object{Maps: o.Maps, Code: o.Code, Relocs: relocs[1:]}, load.Image{}, 0, api.ErrReloc)
	wantLoad(t, api.Object{Maps: o.Maps, Code: o.Code, Relocs: relocs[:half-1]}, load.Image{}, slots-3, api.ErrReloc)
	ends := slices.Repeat([]api.Ins{op(exit)}, slots)
	wantBoth(t, api.Object{Code: join(ends...)}, load.Image{Code: ends})
	wantNone(t, load.Image{Code: append(ends, op(exit))})
	late := slices.Insert(ends[:slots-2], slots-3, ref(1))
	lateCode := join(slices.Insert(slices.Clone(ends[:slots-3]), slots-3, op(ldmap), op(exit))...)
	wantBoth(t, api.Object{Maps: maps(2), Code: lateCode, Relocs: []api.Reloc{{Slot: slots - 3, Symbol: 1}}}, load.Image{Maps: maps(2), Code: late})
	const long = 1 << 21
	for _, x := range []api.Ins{op(exit), op(ldmap), op(count), jump(ja, long)} {
		m := load.Image{Maps: maps(1), Code: slices.Repeat([]api.Ins{x}, long)}
		wantNone(t, m)
		wantSame(t, m, cloneImage(m), true)
	}
	wantNone(t, load.Image{Maps: slices.Repeat(maps(1), long), Code: []api.Ins{op(exit)}})
}

// TestLengths: rule 4, nothing behind the length of a slice is read or written.
func TestLengths(t *testing.T) {
	o := api.Object{Maps: maps(3), Code: join(op(ldmap), jump(ja, -3), op(ldmap), op(exit)), Relocs: []api.Reloc{{Slot: 0, Symbol: 1}, {Slot: 3, Symbol: 2}}}
	kept := cloneObject(o)
	m := image(3, ref(1), jump(ja, -3), ref(2), op(exit))
	other := cloneImage(m)
	wantBoth(t, o, m)
	wantBoth(t, api.Object{Maps: o.Maps[:2], Code: o.Code[:8*3], Relocs: o.Relocs[:1]}, load.Image{Maps: m.Maps[:2], Code: m.Code[:2]})
	wantLoad(t, api.Object{Maps: o.Maps[:1], Code: o.Code[:8*3], Relocs: o.Relocs[:1]}, load.Image{}, 0, api.ErrReloc)
	wantLoad(t, api.Object{Maps: o.Maps, Code: o.Code, Relocs: o.Relocs[:1]}, load.Image{}, 3, api.ErrReloc)
	wantLoad(t, api.Object{Maps: o.Maps, Code: o.Code[:8*3], Relocs: o.Relocs[:0]}, load.Image{}, 0, api.ErrReloc)
	wantLoad(t, api.Object{Maps: o.Maps, Code: o.Code[:0]}, load.Image{}, 0, api.ErrSlot)
	wantNone(t, load.Image{Maps: m.Maps[:2], Code: m.Code})
	wantNone(t, load.Image{Maps: m.Maps[:1], Code: m.Code[:2]})
	wantNone(t, load.Image{Maps: m.Maps, Code: m.Code[:3]})
	wantNone(t, load.Image{Maps: m.Maps, Code: m.Code[:0]})
	wantSame(t, m, load.Image{Maps: m.Maps[:2], Code: m.Code}, false)
	wantSame(t, m, load.Image{Maps: m.Maps, Code: m.Code[:3]}, false)
	wantSame(t, load.Image{Maps: m.Maps[:0], Code: m.Code[:0]}, load.Image{}, true)
	if !sameObject(o, kept) || !sameImage(m, other) {
		t.Errorf("the object became %s, and the image %s", short(o), short(m))
	}
	b, _ := object.Pack(o)
	b = append(b, "more"...)
	wantBytes(t, b[:len(b)-4], m, 0, api.OK)
	wantBytes(t, b, load.Image{}, 0, api.ErrBox)
}

// TestKept: rules 4 and 7, results share no memory with arguments or with other results.
func TestKept(t *testing.T) {
	wholeObject := func() api.Object {
		return api.Object{Maps: maps(3), Code: join(op(ldmap), jump(jeq, 0), op(exit)), Relocs: []api.Reloc{{Slot: 0, Symbol: 2}}}
	}
	wholeImage := func() load.Image { return image(3, ref(2), jump(jeq, 0), op(exit)) }
	o := wholeObject()
	b, _ := object.Pack(o)
	first, _, _ := load.Load(o)
	second, _, _ := load.Load(o)
	third, _, _ := load.Bytes(b)
	fourth, _, _ := load.Bytes(b)
	spoilImage(first)
	spoilImage(third)
	if !sameObject(o, wholeObject()) {
		t.Errorf("the object became %s with its image", short(o))
	}
	spoilObject(o)
	clear(b)
	for _, m := range []load.Image{second, fourth} {
		if !sameImage(m, wholeImage()) {
			t.Errorf("the image became %s with another one and the object", short(m))
		}
	}
	m := wholeImage()
	one, _ := load.Store(m)
	two, _ := load.Store(m)
	spoilObject(one)
	if !sameImage(m, wholeImage()) {
		t.Errorf("the image became %s with its object", short(m))
	}
	spoilImage(m)
	if !sameObject(two, wholeObject()) {
		t.Errorf("the object became %s with another one and the image", short(two))
	}
}

// spoilImage changes all that an image has, also behind the lengths of its slices.
func spoilImage(m load.Image) {
	clear(m.Maps[:cap(m.Maps)])
	clear(m.Code[:cap(m.Code)])
}

// spoilObject changes all that an object has, also behind the lengths of its slices.
func spoilObject(o api.Object) {
	clear(o.Maps[:cap(o.Maps)])
	clear(o.Code[:cap(o.Code)])
	clear(o.Relocs[:cap(o.Relocs)])
}

// TestConcurrent: rule 6, the functions may be called concurrently.
func TestConcurrent(t *testing.T) {
	o, _, _ := asm.Text(whole)
	m, _, _ := load.Load(o)
	wrong := cloneObject(o)
	wrong.Relocs = wrong.Relocs[1:]
	var group sync.WaitGroup
	for worker := range 8 {
		group.Go(func() {
			for range 50 {
				wantBoth(t, o, m)
				wantLoad(t, wrong, load.Image{}, 0, api.ErrReloc)
				wantSame(t, m, cloneImage(m), true)
				own := image(8, append(slices.Repeat([]api.Ins{op(lddw)}, worker), ref(int64(worker)), op(exit))...)
				code := join(append(slices.Repeat([]api.Ins{op(lddw)}, worker), op(ldmap), op(exit))...)
				wantBoth(t, api.Object{Maps: maps(8), Code: code, Relocs: []api.Reloc{{Slot: 2 * worker, Symbol: worker}}}, own)
			}
		})
	}
	group.Wait()
}

// FuzzObject: P18.1 to P18.3, compares Load, Bytes and Store with the models for objects with any code.
func FuzzObject(f *testing.F) {
	o, _, _ := asm.Text(whole)
	f.Add(o.Code, []byte{0, 18})
	f.Add(join(op(exit)), []byte{})
	f.Add(join(op(ldmap), op(lddw), op(ldmap), op(exit)), []byte{0, 4})
	f.Add(join(jump(jeq, 1), op(ldmap), api.Ins{Op: mov64, Dst: 10}), []byte{1, 2})
	f.Fuzz(func(t *testing.T, code, slots []byte) {
		if len(code) > 8*200 {
			return
		}
		o := api.Object{Maps: maps(3), Code: code}
		for i, s := range slots {
			o.Relocs = append(o.Relocs, api.Reloc{Slot: int(s), Symbol: i % 3})
		}
		wantObject(t, o)
		// With the relocations that it needs, the object is more often valid.
		o.Relocs = nil
		for s := 0; 8*s < len(code); {
			x, n, e := slot.Decode(code[8*s:])
			if e != api.OK {
				break
			}
			if x.Op == ldmap {
				o.Relocs = append(o.Relocs, api.Reloc{Slot: s, Symbol: s % 3})
			}
			s += n
		}
		wantObject(t, o)
	})
}

// FuzzBytes: P18.2, compares Bytes with the model for the object with any bytes.
func FuzzBytes(f *testing.F) {
	o, _, _ := asm.Text(whole)
	b, _ := object.Pack(o)
	f.Add(b)
	b, _ = object.Pack(api.Object{Maps: maps(1), Code: join(op(ldmap), op(exit)), Relocs: []api.Reloc{{}}})
	f.Add(b)
	f.Add([]byte("SLC1"))
	f.Fuzz(func(t *testing.T, b []byte) {
		if len(b) <= 4000 {
			wantParsed(t, b)
		}
	})
}

// FuzzImage: P18.3 to P18.5, compares Store, Load and Same with the models for any operations and fields.
func FuzzImage(f *testing.F) {
	f.Add([]byte{85, 1, 0, 0, 2, 68, 0, 0, 0, 0}, 3, int64(0))
	f.Add([]byte{84, 1, 0, 0, 2, 45, 1, 0, 253, 5, 85, 0, 0, 0, 1, 44, 0, 0, 250, 0}, 2, int64(1))
	f.Add([]byte{85, 1, 0, 0, 0, 68, 0, 0, 0, 0}, 1, int64(1<<32))
	f.Fuzz(func(t *testing.T, b []byte, n int, more int64) {
		m := image(n & 7)
		for len(b) >= 5 && len(m.Code) < 200 {
			m.Code = append(m.Code, api.Ins{Op: int(b[0]), Dst: int(b[1]) & 15, Src: int(b[2]) & 15, Off: int(int8(b[3])), Imm: int64(int8(b[4])), Reg: b[1] > 127})
			b = b[5:]
		}
		wantImage(t, m)
		other := cloneImage(m)
		for i := range other.Code {
			if other.Code[i].Op == ldmap {
				other.Code[i].Imm += more
			}
		}
		wantImage(t, other)
		wantSame(t, m, other, sameImage(m, other))
	})
}
