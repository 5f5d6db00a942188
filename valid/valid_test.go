package valid_test

import (
	"bytes"
	"encoding/hex"
	"fmt"
	"math"
	"math/rand"
	"slices"
	"strconv"
	"strings"
	"sync"
	"testing"

	"slotcode/api"
	"slotcode/asm"
	"slotcode/layout"
	"slotcode/object"
	"slotcode/slot"
	"slotcode/valid"
)

// Numbers of operations, as the table of chapter 3 has them.
const (
	mov64, ja, jeq, lastJump, call, exit, ldxb, stb, lddw, ldmap, count = 10, 44, 45, 66, 67, 68, 69, 76, 84, 85, 86
)

// row is a slot as its fields stand there.
type row struct {
	code     byte
	dst, src int
	off      int
}

// rowAt returns the slot with a number.
func rowAt(code []byte, s int) row {
	b := code[8*s : 8*s+8]
	return row{b[0], int(b[1] % 16), int(b[1] / 16), int(int16(uint16(b[2]) | uint16(b[3])<<8))}
}

func (r row) isWide() bool { return r.code == 0x18 }

func (r row) isMapRef() bool { return r.code == 0x18 && r.src == 1 }

func (r row) ends() bool { return r.code == 0x05 || r.code == 0x95 }

// isJump: the last three bits of the opcodes of jumps are 5 or 6; call and exit have 5 as well.
func (r row) isJump() bool {
	return (r.code%8 == 5 || r.code%8 == 6) && r.code != 0x85 && r.code != 0x95
}

// writes returns the register that an instruction writes, or -1: arithmetic ends with 4 or 7, a load with 1 or 0.
func (r row) writes() int {
	switch r.code % 8 {
	case 0, 1, 4, 7:
		return r.dst
	}
	return -1
}

// startsOf returns the slots at which instructions start.
func startsOf(code []byte) []int {
	var l []int
	for s := 0; s < len(code)/8; s++ {
		l = append(l, s)
		if rowAt(code, s).isWide() {
			s++
		}
	}
	return l
}

// checked returns what Check has to return, by the chapter's table with the bytes of the slots.
func checked(o api.Object) (int, api.Errno) {
	if e := object.Check(o); e != api.OK {
		return 0, e
	}
	if _, at, e := slot.All(o.Code); e != api.OK {
		return at, e
	}
	starts := startsOf(o.Code)
	for _, s := range starts {
		if rowAt(o.Code, s).isMapRef() && !bytes.Equal(o.Code[8*s+4:8*s+8], make([]byte, 4)) {
			return s, api.ErrField
		}
	}
	var refers, has []int
	for _, s := range starts {
		if rowAt(o.Code, s).isMapRef() {
			refers = append(refers, s)
		}
	}
	for _, r := range o.Relocs {
		has = append(has, r.Slot)
	}
	for s := range len(o.Code) / 8 {
		if slices.Contains(refers, s) != slices.Contains(has, s) {
			return s, api.ErrReloc
		}
	}
	for _, s := range starts {
		if r := rowAt(o.Code, s); r.isJump() && !slices.Contains(starts, s+1+r.off) {
			return s, api.ErrJump
		}
	}
	for _, s := range starts {
		if rowAt(o.Code, s).writes() == 10 {
			return s, api.ErrWrite
		}
	}
	if last := starts[len(starts)-1]; !rowAt(o.Code, last).ends() {
		return last, api.ErrEnd
	}
	return 0, api.OK
}

// targets returns what Targets has to return, by layout.Target and the numbers of operations.
func targets(l []api.Ins) ([]int, int) {
	var all []int
	for i, x := range l {
		if x.Op < ja || x.Op > lastJump {
			all = append(all, -1)
			continue
		}
		to, ok := layout.Target(l, i, x.Off)
		if !ok {
			return nil, i
		}
		all = append(all, to)
	}
	return all, -1
}

func same(a, b api.Object) bool {
	return slices.Equal(a.Maps, b.Maps) && bytes.Equal(a.Code, b.Code) && slices.Equal(a.Relocs, b.Relocs)
}

func clone(o api.Object) api.Object {
	return api.Object{Maps: slices.Clone(o.Maps), Code: bytes.Clone(o.Code), Relocs: slices.Clone(o.Relocs)}
}

// short returns the beginning of the text of a value, which may be long.
func short(x any) string {
	if o, ok := x.(api.Object); ok {
		return fmt.Sprintf("{%d maps, %d bytes %x, relocations %s}", len(o.Maps), len(o.Code), o.Code[:min(len(o.Code), 80)], short(o.Relocs))
	}
	s := fmt.Sprint(x)
	if len(s) > 500 {
		return s[:500] + "…"
	}
	return s
}

// wantTargets compares Targets with what it has to return.
func wantTargets(t *testing.T, l []api.Ins, want []int, wantAt int) {
	t.Helper()
	before := slices.Clone(l)
	if got, at := valid.Targets(l); !slices.Equal(got, want) || at != wantAt {
		t.Errorf("Targets(%s) = %s, %d; want %s, %d", short(l), short(got), at, short(want), wantAt)
	}
	if !slices.Equal(l, before) {
		t.Errorf("Targets changed %s to %s", short(before), short(l))
	}
}

// want compares all functions with what they have to return for an object: P17.1 to P17.4.
func want(t *testing.T, o api.Object, wantSlot int, wantE api.Errno) {
	t.Helper()
	before := clone(o)
	if at, e := valid.Check(o); at != wantSlot || e != wantE {
		t.Errorf("Check(%s) = %d, %v; want %d, %v", short(o), at, e, wantSlot, wantE)
	}
	var code []api.Ins
	if wantE == api.OK {
		code, _, _ = slot.All(o.Code)
		all, _ := targets(code)
		wantTargets(t, code, all, -1)
	}
	if got, e := valid.Code(o); !slices.Equal(got, code) || e != wantE {
		t.Errorf("Code(%s) = %s, %v; want %s, %v", short(o), short(got), e, short(code), wantE)
	}
	if b, e := object.Pack(o); e == api.OK {
		packed := bytes.Clone(b)
		if at, e := valid.Bytes(b); at != wantSlot || e != wantE {
			t.Errorf("Bytes of %s = %d, %v; want %d, %v", short(o), at, e, wantSlot, wantE)
		}
		if !bytes.Equal(b, packed) {
			t.Errorf("Bytes changed its argument, the bytes of %s", short(o))
		}
	}
	if !same(o, before) {
		t.Errorf("%s was changed to %s", short(before), short(o))
	}
}

// wantAsModel compares all functions with the model, and tells what Check has to return.
func wantAsModel(t *testing.T, o api.Object) (int, api.Errno) {
	t.Helper()
	at, e := checked(o)
	want(t, o, at, e)
	return at, e
}

// unhex returns the bytes of a text with digits of base 16 and spaces.
func unhex(s string) []byte {
	b, err := hex.DecodeString(strings.ReplaceAll(s, " ", ""))
	if err != nil {
		panic(s)
	}
	return b
}

// join returns the slots of correct instructions.
func join(l ...api.Ins) []byte {
	b, at, e := slot.Join(l)
	if e != api.OK {
		panic(fmt.Sprint(l[at], e))
	}
	return b
}

// op returns an instruction without fields.
func op(n int) api.Ins { return api.Ins{Op: n} }

// jump returns an instruction that jumps to a distance.
func jump(n, off int) api.Ins { return api.Ins{Op: n, Off: off} }

// maps returns n maps.
func maps(n int) []api.Def {
	var l []api.Def
	for i := range n {
		l = append(l, api.Def{Name: "m" + strconv.Itoa(i), Key: 1, Value: 1, Entries: 1})
	}
	return l
}

// relocs returns relocations with slots, in which the symbols are 0 and 1 by turns.
func relocs(slots ...int) []api.Reloc {
	var l []api.Reloc
	for i, s := range slots {
		l = append(l, api.Reloc{Slot: s, Symbol: i % 2})
	}
	return l
}

// with returns an object with two maps, a code and the slots of relocations.
func with(code []byte, slots ...int) api.Object {
	return api.Object{Maps: maps(2), Code: code, Relocs: relocs(slots...)}
}

// lists returns all lists of up to n elements out of some.
func lists[T any](some []T, n int) [][]T {
	all := [][]T{nil}
	for from := 0; len(all[from]) < n; from++ {
		for _, x := range some {
			all = append(all, append(slices.Clone(all[from]), x))
		}
	}
	return all
}

// TestExamples: the chapter's example, and the ones of other chapters with their bytes written out.
func TestExamples(t *testing.T) {
	const rest = "18 00 00 00 05 00 00 00 00 00 00 00 00 00 00 00 95 00 00 00 00 00 00 00"
	want(t, api.Object{Code: unhex(rest)}, 0, api.OK)
	want(t, api.Object{Code: unhex("05 00 00 00 00 00 00 00" + rest)}, 0, api.OK)
	want(t, api.Object{Code: unhex("05 00 01 00 00 00 00 00" + rest)}, 0, api.ErrJump)
	want(t, api.Object{Code: unhex("05 00 02 00 00 00 00 00" + rest)}, 0, api.OK)
	want(t, api.Object{Code: unhex("05 00 03 00 00 00 00 00" + rest)}, 0, api.ErrJump)
	want(t, api.Object{Code: unhex("05 00 ff ff 00 00 00 00")}, 0, api.OK)
	want(t, api.Object{Code: unhex("95 00 00 00 00 00 00 00")}, 0, api.OK)
	want(t, api.Object{Code: unhex("18 11 00 00 00 00 00 00 00 00 00 00 00 00 00 00 95 00 00 00 00 00 00 00"), Maps: maps(1), Relocs: relocs(0)}, 0, api.OK)
	want(t, api.Object{}, 0, api.ErrSlot)
	l, e := valid.Code(api.Object{Code: unhex("05 00 02 00 00 00 00 00" + rest)})
	if e != api.OK || !slices.Equal(l, []api.Ins{jump(ja, 2), {Op: lddw, Imm: 5}, op(exit)}) {
		t.Errorf("Code = %v, %v", l, e)
	}
	wantTargets(t, l, []int{2, -1, -1}, -1)
}

// TestObjects: P17.1 and P17.2, objects that are not correct have the error of object.Check, and the slot 0.
func TestObjects(t *testing.T) {
	end := join(op(exit))
	for _, c := range []struct {
		o api.Object
		e api.Errno
	}{
		{api.Object{Code: end[:7]}, api.ErrSlot},
		{api.Object{Code: append(slices.Clone(end), 0)}, api.ErrSlot},
		{api.Object{Code: end, Maps: []api.Def{{Name: "r1", Key: 1, Value: 1, Entries: 1}}}, api.ErrName},
		{api.Object{Code: end, Maps: []api.Def{{Name: "m", Key: 65, Value: 1, Entries: 1}}}, api.ErrMap},
		{api.Object{Code: end, Maps: append(maps(2), maps(1)...)}, api.ErrDuplicate},
		{api.Object{Code: end, Maps: maps(256)}, api.ErrSize},
		{api.Object{Code: end, Maps: maps(255)}, api.OK},
		{api.Object{Code: bytes.Repeat(end, 65536)}, api.ErrSize},
		{api.Object{Code: bytes.Repeat(end, 65535)}, api.OK},
		{with(end, 1), api.ErrReloc},
		{with(end, -1), api.ErrReloc},
		{with(join(op(ldmap), op(exit)), 0, 0), api.ErrReloc},
		{api.Object{Maps: maps(1), Code: join(op(ldmap), op(exit)), Relocs: []api.Reloc{{Slot: 0, Symbol: 1}}}, api.ErrReloc},
		{api.Object{Code: join(op(ldmap), op(exit)), Relocs: relocs(0)}, api.ErrReloc},
	} {
		if _, e := wantAsModel(t, c.o); e != c.e {
			t.Errorf("the model has %v for %s; want %v", e, short(c.o), c.e)
		}
	}
	// The slot is 0, although all that is wrong stands further behind.
	code := slices.Concat(end, end, end, unhex("ff 00 00 00 00 00 00 00"))
	want(t, with(code, 1, 3, 2), 0, api.ErrReloc)
	want(t, with(code[:31]), 0, api.ErrSlot)
	want(t, api.Object{Code: code}, 3, api.ErrOp)
}

// TestInstructions: P17.1, code that does not consist of instructions has the error and the slot of slot.All.
func TestInstructions(t *testing.T) {
	for _, c := range []struct {
		b string
		e api.Errno
	}{
		{"00 00 00 00 00 00 00 00", api.ErrOp},
		{"ff 00 00 00 00 00 00 00", api.ErrOp},
		{"05 01 00 00 00 00 00 00", api.ErrField},
		{"05 0b 00 00 00 00 00 00", api.ErrRegister},
		{"95 00 00 00 00 00 00 80", api.ErrField},
		{"85 00 00 00 04 00 00 00", api.ErrField},
		{"07 0c 00 00 00 00 00 00", api.ErrRegister},
		{"18 00 00 00 00 00 00 00 01 00 00 00 00 00 00 00", api.ErrField},
		{"18 b0 00 00 00 00 00 00 00 00 00 00 00 00 00 00", api.ErrOp},
		{"18 10 00 00 ff 00 00 00 00 00 00 00 00 00 00 00", api.ErrField},
		{"18 10 00 00 00 00 00 00 00 00 00 00 01 00 00 00", api.ErrField},
		{"18 00 00 00 00 00 00 00", api.ErrSlot},
	} {
		b := unhex(c.b)
		for n := range 4 {
			l := []api.Ins{op(lddw), op(exit), op(mov64), op(lddw)}[:n]
			o := with(append(join(l...), b...))
			at, e := wantAsModel(t, o)
			if want := []int{0, 2, 3, 4}[n]; at != want || e != c.e {
				t.Errorf("the model has %d, %v for %s; want %d, %v", at, e, short(o), want, c.e)
			}
			if c.e != api.ErrSlot {
				o.Code = append(o.Code, join(op(exit))...)
				want(t, o, at, e)
			}
		}
	}
	// The same slots are an instruction in front of others, or a part of one.
	want(t, with(unhex("18 00 00 00 00 00 00 00 00 00 00 00 95 00 00 00")), 0, api.ErrEnd)
	want(t, with(unhex("18 00 00 00 00 00 00 00 95 00 00 00 00 00 00 00")), 0, api.ErrField)
}

// TestMapRefs: P17.1, the Imm of MapRef instructions has to be 0, with all values that instructions may have, at all places.
func TestMapRefs(t *testing.T) {
	for imm := range int64(255) {
		x := api.Ins{Op: ldmap, Dst: int(imm % 10), Imm: imm}
		for n := range 4 {
			l := slices.Insert([]api.Ins{op(ldmap), op(lddw), op(ldmap)}, n, x)
			l = append(l, op(exit))
			var slots []int
			for i, x := range l {
				if x.Op == ldmap {
					slots = append(slots, 2*i)
				}
			}
			o := api.Object{Maps: maps(255), Code: join(l...), Relocs: relocs(slots...)}
			if imm == 0 {
				want(t, o, 0, api.OK)
			} else {
				want(t, o, 2*n, api.ErrField)
				o.Relocs = nil
				want(t, o, 2*n, api.ErrField)
			}
		}
	}
	// The first one of several, and no other instruction.
	x := api.Ins{Op: ldmap, Imm: 7}
	want(t, with(join(op(mov64), x, x, op(exit)), 1, 3), 1, api.ErrField)
	want(t, with(join(op(ldmap), x, x, op(exit)), 0, 2, 4), 2, api.ErrField)
	for _, imm := range []int64{1, 254, -1, math.MaxInt64, math.MinInt64, 1 << 32} {
		want(t, with(join(api.Ins{Op: lddw, Imm: imm}, op(exit))), 0, api.OK)
	}
	want(t, with(join(api.Ins{Op: mov64, Imm: 1}, api.Ins{Op: call, Imm: 1}, op(exit))), 0, api.OK)
}

// TestRelocs: P17.1, the slots of relocations written out.
func TestRelocs(t *testing.T) {
	refs := join(op(mov64), op(ldmap), op(lddw), op(ldmap), op(exit)) // at the slots 0, 1, 3, 5 and 7
	for _, c := range []struct {
		slots []int
		at    int
		e     api.Errno
	}{
		{[]int{1, 5}, 0, api.OK},
		{nil, 1, api.ErrReloc},
		{[]int{1}, 5, api.ErrReloc},
		{[]int{5}, 1, api.ErrReloc},
		{[]int{2, 5}, 1, api.ErrReloc},
		{[]int{1, 6}, 5, api.ErrReloc},
		{[]int{1, 2, 5}, 2, api.ErrReloc},
		{[]int{1, 3, 5}, 3, api.ErrReloc},
		{[]int{1, 4, 5}, 4, api.ErrReloc},
		{[]int{1, 5, 6}, 6, api.ErrReloc},
		{[]int{1, 5, 7}, 7, api.ErrReloc},
		{[]int{0, 1, 5}, 0, api.ErrReloc},
		{[]int{0, 5}, 0, api.ErrReloc},
		{[]int{0, 7}, 0, api.ErrReloc},
		{[]int{3, 5, 7}, 1, api.ErrReloc},
		{[]int{1, 3, 7}, 3, api.ErrReloc},
		{[]int{1, 7}, 5, api.ErrReloc},
		{[]int{6, 7}, 1, api.ErrReloc},
		{[]int{0, 1, 2, 3, 4, 5, 6, 7}, 0, api.ErrReloc},
		{[]int{1, 2, 3, 4, 5, 6, 7}, 2, api.ErrReloc},
	} {
		if at, e := wantAsModel(t, with(refs, c.slots...)); at != c.at || e != c.e {
			t.Errorf("the model has %d, %v for %v; want %d, %v", at, e, c.slots, c.at, c.e)
		}
	}
	// The symbols do not matter, if they are those of maps.
	for symbol := range 255 {
		o := api.Object{Maps: maps(255), Code: refs, Relocs: []api.Reloc{{Slot: 1, Symbol: symbol}, {Slot: 5, Symbol: 254 - symbol}}}
		want(t, o, 0, api.OK)
	}
	// lddw and ldmap have the same opcode.
	want(t, with(join(op(lddw), op(exit)), 0), 0, api.ErrReloc)
	want(t, with(join(op(ldmap), op(exit)), 0), 0, api.OK)
}

// TestAllRelocs: P17.1, all sets of slots for all lists of few instructions out of some.
func TestAllRelocs(t *testing.T) {
	found := map[api.Errno]int{}
	for _, l := range lists([]api.Ins{op(ldmap), op(lddw), op(mov64)}, 4) {
		code := join(append(l, op(exit))...)
		n := len(code) / 8
		for set := range 1 << n {
			var slots []int
			for s := range n {
				if set>>s&1 == 1 {
					slots = append(slots, s)
				}
			}
			_, e := wantAsModel(t, with(code, slots...))
			found[e]++
		}
		if t.Failed() {
			return
		}
	}
	// For each list, exactly one set is right.
	if n := 1 + 3 + 9 + 27 + 81; found[api.OK] != n || len(found) != 2 {
		t.Errorf("the model found %v; want %d times %v, and %v otherwise", found, n, api.OK, api.ErrReloc)
	}
}

// TestJumps: P17.1 and P17.4, all distances from all places of a code, for all jumps with both second operands.
func TestJumps(t *testing.T) {
	around := []api.Ins{op(mov64), op(lddw), op(exit), op(ldmap), {Op: lddw, Imm: -1}, op(exit)}
	offs := []int{math.MinInt16, math.MinInt16 + 1, -256, 255, 256, math.MaxInt16 - 1, math.MaxInt16}
	for off := -14; off <= 14; off++ {
		offs = append(offs, off)
	}
	for n := ja; n <= lastJump; n++ {
		for _, reg := range []bool{false, n != ja} {
			found := map[api.Errno]int{}
			for place := range len(around) {
				for _, off := range offs {
					l := slices.Insert(slices.Clone(around), place, api.Ins{Op: n, Reg: reg, Off: off})
					code := join(l...)
					o := api.Object{Maps: maps(1), Code: code}
					for _, s := range startsOf(code) {
						if rowAt(code, s).isMapRef() {
							o.Relocs = relocs(s)
						}
					}
					at, e := wantAsModel(t, o)
					found[e]++
					if e == api.ErrJump && at != []int{0, 1, 3, 4, 6, 8}[place] {
						t.Errorf("the model has the slot %d for the place %d", at, place)
					}
				}
			}
			// Each place has one of the seven instructions as the target of one distance.
			if found[api.OK] != 6*7 || found[api.ErrJump] != 6*(len(offs)-7) {
				t.Errorf("the model found %v for the operation %d", found, n)
			}
		}
	}
}

// TestFirstJump: P17.1 and P17.4, several wrong jumps, and ones that lead to each other.
func TestFirstJump(t *testing.T) {
	for _, c := range []struct {
		l  []api.Ins
		at int // the index of the instruction, or -1
	}{
		{[]api.Ins{jump(ja, -1)}, -1},
		{[]api.Ins{jump(ja, 0)}, 0},
		{[]api.Ins{jump(ja, -2)}, 0},
		{[]api.Ins{jump(jeq, 1), jump(ja, -2)}, 0},
		{[]api.Ins{jump(jeq, 0), jump(ja, -2)}, -1},
		{[]api.Ins{jump(jeq, 0), jump(ja, -3)}, 1},
		{[]api.Ins{jump(jeq, -2), jump(ja, -3)}, 0},
		{[]api.Ins{jump(jeq, 1), op(lddw), jump(ja, -2), op(exit)}, 0},
		{[]api.Ins{jump(jeq, 2), op(lddw), jump(ja, -2), op(exit)}, 2},
		{[]api.Ins{jump(jeq, 2), op(lddw), jump(ja, -3), op(exit)}, -1},
		{[]api.Ins{jump(jeq, 2), op(lddw), jump(ja, -4), op(exit)}, -1},
		{[]api.Ins{jump(jeq, 3), op(lddw), jump(ja, 0), op(exit)}, -1},
		{[]api.Ins{op(lddw), jump(jeq, 4), op(lddw), jump(jeq, -3), op(exit)}, 1},
	} {
		starts := startsOf(join(c.l...))
		if c.at < 0 {
			want(t, with(join(c.l...)), 0, api.OK)
			all, _ := targets(c.l)
			wantTargets(t, c.l, all, -1)
		} else {
			want(t, with(join(c.l...)), starts[c.at], api.ErrJump)
			wantTargets(t, c.l, nil, c.at)
		}
	}
}

// every returns a correct instruction of each operation with each kind of a second operand and these registers, as far as
// it uses them.
func every(dst, src int) []api.Ins {
	var l []api.Ins
	for n := range count {
		for _, reg := range []bool{false, true} {
			for _, x := range []api.Ins{{Dst: dst, Src: src}, {Dst: dst}, {}} {
				x.Op, x.Reg = n, reg
				if n == call {
					x.Imm = 1
				}
				if _, e := slot.Encode(x); e == api.OK {
					l = append(l, x)
					break
				}
			}
		}
	}
	return l
}

// TestWrites: P17.1, no instruction may write r10: all operations with all registers, in front of others.
func TestWrites(t *testing.T) {
	for dst := range api.Registers {
		for src := range api.Registers {
			l := every(dst, src)
			if len(l) != count+28+22 {
				t.Fatalf("%d instructions", len(l))
			}
			for _, x := range l {
				o := with(join(op(lddw), x, op(exit)))
				if x.Op == ldmap {
					o.Relocs = relocs(2)
				}
				writes := x.Op < ja || x.Op >= ldxb && x.Op < stb || x.Op == lddw || x.Op == ldmap
				if writes && dst == 10 {
					want(t, o, 2, api.ErrWrite)
				} else {
					want(t, o, 0, api.OK)
				}
			}
		}
	}
	// The first one of several.
	x := api.Ins{Op: mov64, Dst: 10}
	want(t, with(join(x, op(lddw), x, op(exit))), 0, api.ErrWrite)
	want(t, with(join(op(lddw), x, x, op(exit))), 2, api.ErrWrite)
	want(t, with(join(op(lddw), op(exit), x)), 3, api.ErrWrite)
}

// TestEnds: P17.1, the last instruction has to be ja or exit: all operations in front of the end, and at it.
func TestEnds(t *testing.T) {
	for _, x := range every(1, 2) {
		if x.Op >= ja && x.Op <= lastJump {
			x.Off = -1
		}
		before := with(join(op(exit), op(lddw), x, op(exit)))
		last := with(join(op(exit), op(lddw), x))
		if x.Op == ldmap {
			before.Relocs, last.Relocs = relocs(3), relocs(3)
		}
		want(t, before, 0, api.OK)
		if x.Op == ja || x.Op == exit {
			want(t, last, 0, api.OK)
		} else {
			want(t, last, 3, api.ErrEnd)
		}
	}
	want(t, with(join(op(mov64))), 0, api.ErrEnd)
	want(t, with(join(op(lddw))), 0, api.ErrEnd)
	want(t, with(join(op(lddw), op(lddw))), 2, api.ErrEnd)
	want(t, with(join(op(ja), op(lddw))), 1, api.ErrEnd)
}

// breach makes an object break a condition by an instruction.
type breach struct {
	e api.Errno
	b string
	// relocated is whether a relocation has the slot of the instruction.
	relocated bool
}

// TestOrder: P17.1, all pairs of conditions that are broken, in both orders of the instructions, with others between them.
func TestOrder(t *testing.T) {
	rows := [][]breach{ // the first one comes first
		{{api.ErrOp, "fe 00 00 00 00 00 00 00", false}, {api.ErrRegister, "bf bb 00 00 00 00 00 00", false}, {api.ErrField, "95 01 00 00 00 00 00 00", false}, {api.ErrField, "18 01 01 00 00 00 00 00 00 00 00 00 00 00 00 00", false}},
		{{api.ErrField, "18 11 00 00 01 00 00 00 00 00 00 00 00 00 00 00", true}, {api.ErrField, "18 1a 00 00 fe 00 00 00 00 00 00 00 00 00 00 00", false}},
		{{api.ErrReloc, "18 1a 00 00 00 00 00 00 00 00 00 00 00 00 00 00", false}, {api.ErrReloc, "18 0a 00 00 00 00 00 00 00 00 00 00 00 00 00 00", true}, {api.ErrReloc, "05 00 ff 7f 00 00 00 00", true}, {api.ErrReloc, "95 00 00 00 00 00 00 00", true}},
		{{api.ErrJump, "05 00 00 80 00 00 00 00", false}, {api.ErrJump, "1d aa ff 7f 00 00 00 00", false}, {api.ErrJump, "26 0a ff 7f 00 00 00 00", false}},
		{{api.ErrWrite, "bf aa 00 00 00 00 00 00", false}, {api.ErrWrite, "18 0a 00 00 00 00 00 00 00 00 00 00 00 00 00 00", false}, {api.ErrWrite, "71 1a 00 00 00 00 00 00", false}},
		{{api.ErrEnd, "b7 00 00 00 00 00 00 00", false}},
	}
	for i, row := range rows {
		for _, first := range row {
			want(t, within("", first, "95 00 00 00 00 00 00 00"), 0, atEnd(first))
			want(t, within("18 01 00 00 00 00 00 00 00 00 00 00 00 00 00 00", first, ""), 2, first.e)
			for _, second := range slices.Concat(rows[i+1:]...) {
				for _, between := range []string{"", "95 00 00 00 00 00 00 00", "18 01 00 00 00 00 00 00 00 00 00 00 00 00 00 00"} {
					behind, before := pair(second, between, first), pair(first, between, second)
					want(t, behind, (len(unhex(second.b))+len(unhex(between)))/8, first.e)
					want(t, before, 0, first.e)
				}
			}
		}
	}
}

// atEnd returns the error that a breach makes in front of exit.
func atEnd(b breach) api.Errno {
	if b.e == api.ErrEnd {
		return api.OK
	}
	return b.e
}

// within returns an object with a breach between two texts of bytes.
func within(before string, b breach, behind string) api.Object {
	o := with(slices.Concat(unhex(before), unhex(b.b), unhex(behind)))
	if b.relocated {
		o.Relocs = relocs(len(unhex(before)) / 8)
	}
	return o
}

// pair returns an object with two breaches and a text of bytes between them.
func pair(first breach, between string, second breach) api.Object {
	o := with(slices.Concat(unhex(first.b), unhex(between), unhex(second.b)))
	var slots []int
	if first.relocated {
		slots = append(slots, 0)
	}
	if second.relocated {
		slots = append(slots, (len(unhex(first.b))+len(unhex(between)))/8)
	}
	o.Relocs = relocs(slots...)
	return o
}

// TestBytes: P17.2, bytes that are no object have the error of object.Parse, and the slot 0.
func TestBytes(t *testing.T) {
	for _, o := range []api.Object{
		{Code: join(op(exit))},
		with(join(op(mov64), op(ldmap), op(exit)), 1),
		with(join(op(mov64), op(ldmap), op(exit))),
		with(join(op(mov64), jump(ja, 5), op(exit))),
	} {
		b, e := object.Pack(o)
		if e != api.OK {
			t.Fatal(e)
		}
		for n := range b {
			wantBytes(t, b[:n], 0, api.ErrBox)
			wantBytes(t, b[n+1:], 0, api.ErrBox)
			for _, c := range []byte{0, 1, 2, 5, 10, 0x18, 0x95, 0xff} {
				near := slices.Clone(b)
				near[n] = c
				other, e := object.Parse(near)
				if e != api.OK {
					wantBytes(t, near, 0, api.ErrBox)
					continue
				}
				at, e := checked(other)
				wantBytes(t, near, at, e)
			}
		}
		wantBytes(t, append(slices.Clone(b), 0), 0, api.ErrBox)
	}
	for _, s := range []string{"", "\x00", "SLC1", "exit", strings.Repeat("\x95\x00\x00\x00\x00\x00\x00\x00", 12), strings.Repeat("x", 1<<21)} {
		wantBytes(t, []byte(s), 0, api.ErrBox)
	}
}

func wantBytes(t *testing.T, b []byte, wantSlot int, wantE api.Errno) {
	t.Helper()
	before := bytes.Clone(b)
	if at, e := valid.Bytes(b); at != wantSlot || e != wantE {
		t.Errorf("Bytes(%s) = %d, %v; want %d, %v", short(b), at, e, wantSlot, wantE)
	}
	if !bytes.Equal(b, before) {
		t.Errorf("Bytes changed %s to %s", short(before), short(b))
	}
}

// TestTargets: P17.4, lists written out, also of instructions that are not correct.
func TestTargets(t *testing.T) {
	const no = count // the number of no operation
	for _, c := range []struct {
		l    []api.Ins
		want []int
		at   int
	}{
		{nil, nil, -1},
		{[]api.Ins{}, nil, -1},
		{[]api.Ins{op(exit)}, []int{-1}, -1},
		{[]api.Ins{jump(ja, -1)}, []int{0}, -1},
		{[]api.Ins{jump(ja, 0)}, nil, 0},
		{[]api.Ins{jump(jeq, 0), op(mov64)}, []int{1, -1}, -1},
		{[]api.Ins{jump(exit, -5), jump(mov64, 77), jump(lddw, math.MaxInt), jump(no, 3)}, []int{-1, -1, -1, -1}, -1},
		{[]api.Ins{jump(ja, 2), op(lddw), op(exit)}, []int{2, -1, -1}, -1},
		{[]api.Ins{jump(ja, 1), op(lddw), op(exit)}, nil, 0},
		{[]api.Ins{op(ldmap), jump(lastJump, -3)}, []int{-1, 0}, -1},
		{[]api.Ins{op(ldmap), jump(lastJump, -2)}, nil, 1},
		{[]api.Ins{{Op: ja, Reg: true, Dst: 99, Src: -1, Imm: 5}, {Op: jeq, Off: -2, Imm: math.MaxInt64}}, []int{1, 0}, -1},
		// Of the ones that start at the same slot, the first one is the target.
		{[]api.Ins{op(no), op(no), jump(ja, -1)}, []int{-1, -1, 0}, -1},
		{[]api.Ins{jump(ja, 0), op(no), op(-1), op(exit)}, []int{1, -1, -1, -1}, -1},
		{[]api.Ins{jump(ja, 0), op(no)}, []int{1, -1}, -1},
		{[]api.Ins{jump(ja, 1), op(no)}, nil, 0},
		{[]api.Ins{jump(ja, 0), op(no), jump(ja, -2), op(exit), op(no), op(no)}, []int{1, -1, 0, -1, -1, -1}, -1},
		{[]api.Ins{op(exit), op(no), jump(ja, -1), jump(ja, 0), op(math.MinInt), op(math.MaxInt)}, []int{-1, -1, 1, 4, -1, -1}, -1},
	} {
		wantTargets(t, c.l, c.want, c.at)
		if want, at := targets(c.l); !slices.Equal(want, c.want) || at != c.at {
			t.Errorf("layout.Target leads to %v, %d for %v; want %v, %d", want, at, c.l, c.want, c.at)
		}
	}
	for _, off := range []int{math.MaxInt, math.MaxInt - 1, math.MaxInt - 2, math.MinInt, math.MinInt + 1, math.MinInt + 2, 1 << 32, -1 << 32, 1<<32 - 1, 1<<32 - 2, 1<<16 - 1, 1<<16 - 2, -1 - 1<<16, -1 - 1<<32, 4, -4} {
		for i := range 3 {
			l := []api.Ins{jump(ja, -1), jump(jeq, 0), op(exit)}
			l[i] = jump(ja, off)
			wantTargets(t, l, nil, i)
		}
	}
}

// TestAllTargets: P17.4, all lists of few instructions out of some.
func TestAllTargets(t *testing.T) {
	some := []api.Ins{op(exit), op(lddw), op(count), op(-1)}
	for off := -4; off <= 3; off++ {
		some = append(some, jump(ja, off))
	}
	found := map[bool]int{}
	for _, l := range lists(some, 4) {
		want, at := targets(l)
		wantTargets(t, l, want, at)
		found[at < 0]++
	}
	if found[true] < 1000 || found[false] < 1000 {
		t.Errorf("only %v lists were found", found)
	}
}

// whole is the text of a program with all forms of operations.
const whole = `map m 4 8 16
map unused 64 256 1024
map n 1 1 1
start: ldmap r1, n
mov64 r2, r10
add64 r2, -4
stw [r10-4], 7
stxdw [r10 - 512], r1
a: b: call lookup
jeq r0, 0, end
ldxb r0, [r0]
movsb64 r0, r0
neg64 r0
be16 r0
lddw r9, -9223372036854775808
jsle32 r0, r9, a
ja start
ldmap r1, m
end: exit`

// TestPrograms: P17.5, the objects of well-formed programs are valid, and their instructions are those of the programs.
func TestPrograms(t *testing.T) {
	for _, text := range []string{
		"exit", "x: ja x", "lddw r0, -1\nexit", "ja x\nx: exit", "a: b: jeq r0, 0, b\nexit", whole,
		"map m 4 8 16\nldmap r1, m\nexit",
		"map m 1 1 1\n" + strings.Repeat("ldmap r1, m\n", 1000) + "exit",
		"map m 1 1 1\nmap n 1 1 1\n" + strings.Repeat("ldmap r9, n\nlddw r1, 7\nldmap r0, m\n", 300) + "exit",
		"x: jeq r0, 0, y\n" + strings.Repeat("lddw r0, 1\n", 16383) + "y: ja x",
	} {
		o, at, e := asm.Text(text)
		if e != api.OK {
			t.Fatalf("%q has no object: %d, %v", text, at, e)
		}
		want(t, o, 0, api.OK)
	}
}

// randomText returns the text of a program, which is often well-formed.
func randomText(r *rand.Rand) string {
	var s strings.Builder
	maps, n := r.Intn(4), 1+r.Intn(12)
	for i := range maps {
		fmt.Fprintf(&s, "map m%d %d %d %d\n", i, 1+r.Intn(64), 1+r.Intn(256), 1+r.Intn(1024))
	}
	statements := []func() string{
		func() string { return fmt.Sprintf("lddw r%d, %d", r.Intn(10), r.Int63()) },
		func() string { return fmt.Sprintf("mov64 r%d, r%d", r.Intn(10), r.Intn(11)) },
		func() string { return fmt.Sprintf("ldxsw r%d, [r%d-%d]", r.Intn(10), r.Intn(11), r.Intn(512)) },
		func() string { return fmt.Sprintf("stxb [r%d+%d], r%d", r.Intn(11), r.Intn(512), r.Intn(11)) },
		func() string { return fmt.Sprintf("jset r%d, %d, L%d", r.Intn(11), r.Intn(9), r.Intn(n)) },
		func() string { return fmt.Sprintf("jne32 r%d, r%d, L%d", r.Intn(11), r.Intn(11), r.Intn(n)) },
		func() string { return fmt.Sprintf("ja L%d", r.Intn(n)) },
		func() string { return "exit" },
		func() string { return "call update" },
		func() string { return fmt.Sprintf("ldmap r%d, m%d", r.Intn(10), r.Intn(max(maps, 1))) },
	}
	if maps == 0 {
		statements = statements[:len(statements)-1]
	}
	for i := range n - 1 {
		fmt.Fprintf(&s, "L%d: %s\n", i, statements[r.Intn(len(statements))]())
	}
	fmt.Fprintf(&s, "L%d: ja L%d", n-1, r.Intn(n))
	return s.String()
}

// TestRandom: P17.1 to P17.5, objects of random programs, and ones near them.
func TestRandom(t *testing.T) {
	r := rand.New(rand.NewSource(17))
	found := map[api.Errno]int{}
	for range 5000 {
		o, at, e := asm.Text(randomText(r))
		if e != api.OK {
			t.Fatal(at, e)
		}
		want(t, o, 0, api.OK)
		for range 5 {
			near := clone(o)
			for range 1 + r.Intn(3) {
				change(r, &near)
			}
			_, e := wantAsModel(t, near)
			found[e]++
		}
	}
	for _, e := range []api.Errno{api.OK, api.ErrSlot, api.ErrOp, api.ErrRegister, api.ErrField, api.ErrReloc, api.ErrJump, api.ErrWrite, api.ErrEnd} {
		if found[e] < 50 {
			t.Errorf("only %d objects with %v", found[e], e)
		}
	}
}

// change changes an object at a random place.
func change(r *rand.Rand, o *api.Object) {
	slots := len(o.Code) / 8
	s := r.Intn(slots)
	switch r.Intn(7) {
	case 0: // a byte
		o.Code[r.Intn(len(o.Code))] = byte(r.Intn(256))
	case 1: // a register
		o.Code[8*s+1] = o.Code[8*s+1]&0xf0 | byte(r.Intn(12))
	case 2: // a distance
		o.Code[8*s+2] += byte(r.Intn(5) - 2)
	case 3: // a slot less
		if slots > 1 {
			o.Code = slices.Delete(o.Code, 8*s, 8*s+8)
		}
	case 4: // an end that is no end
		copy(o.Code[8*slots-8:], "\xbf\x01\x00\x00\x00\x00\x00\x00")
	case 5: // no slot from one on
		o.Code = o.Code[:8*max(s, 1)]
	case 6: // a relocation more or less
		i := slices.IndexFunc(o.Relocs, func(r api.Reloc) bool { return r.Slot >= s })
		switch {
		case len(o.Maps) == 0:
		case i < 0:
			o.Relocs = append(o.Relocs, api.Reloc{Slot: s})
		case o.Relocs[i].Slot == s:
			o.Relocs = slices.Delete(o.Relocs, i, i+1)
		default:
			o.Relocs = slices.Insert(o.Relocs, i, api.Reloc{Slot: s})
		}
	}
}

// TestGreatest: P1, P17.1 to P17.4, objects and lists with many instructions, in which all slots refer or jump. If the time grew with the
// square of the length, the longest list would take hours.
func TestGreatest(t *testing.T) {
	const slots = 65535
	back, forth := jump(jeq, -32768), jump(jeq, 32767)
	half := slots / 2
	l := slices.Concat(slices.Repeat([]api.Ins{forth}, half), slices.Repeat([]api.Ins{back}, half), []api.Ins{op(exit)})
	want := make([]int, slots)
	for i := range half {
		want[i], want[half+i] = i+32768, i
	}
	want[slots-1] = -1
	wantTargets(t, l, want, -1)
	o := with(join(l...))
	wantCode(t, o, l, 0, api.OK)
	for _, i := range []int{0, 1, half - 1, half, slots - 2} {
		wrong := slices.Clone(l)
		wrong[i].Off = []int{math.MinInt16, math.MaxInt16}[i/half]
		wantTargets(t, wrong, nil, i)
		wantCode(t, with(join(wrong...)), nil, i, api.ErrJump)
	}
	wantCode(t, with(join(append(l, op(exit))...)), nil, 0, api.ErrSize)
	var all []int
	l = nil
	for s := 0; s < slots-1; s += 2 {
		l, all = append(l, op(ldmap)), append(all, s)
	}
	l = append(l, op(exit))
	wantCode(t, with(join(l...), all...), l, 0, api.OK)
	for _, i := range []int{0, 1, 5000, half - 1} {
		wantCode(t, with(join(l...), slices.Delete(slices.Clone(all), i, i+1)...), nil, 2*i, api.ErrReloc)
		wantCode(t, with(join(l...), slices.Insert(slices.Clone(all), i+1, 2*i+1)...), nil, 2*i+1, api.ErrReloc)
	}
	const long = 1 << 20
	l = slices.Repeat([]api.Ins{jump(ja, long), jump(ja, -long-2)}, long)
	if got, at := valid.Targets(l); len(got) != 0 || at != 1 {
		t.Errorf("Targets = %s, %d", short(got), at)
	}
	l = slices.Repeat([]api.Ins{jump(ja, -1), op(lddw)}, long)
	if got, at := valid.Targets(l); len(got) != 2*long || got[2*long-2] != 2*long-2 || at != -1 {
		t.Errorf("Targets = %s, %d", short(got), at)
	}
}

// wantCode compares Check, Code and Bytes with what they have to return.
func wantCode(t *testing.T, o api.Object, l []api.Ins, wantSlot int, wantE api.Errno) {
	t.Helper()
	if at, e := valid.Check(o); at != wantSlot || e != wantE {
		t.Errorf("Check(%s) = %d, %v; want %d, %v", short(o), at, e, wantSlot, wantE)
	}
	if got, e := valid.Code(o); !slices.Equal(got, l) || e != wantE {
		t.Errorf("Code(%s) = %s, %v; want %s, %v", short(o), short(got), e, short(l), wantE)
	}
	if b, e := object.Pack(o); e == api.OK {
		wantBytes(t, b, wantSlot, wantE)
	}
}

// TestLengths: rule 4, nothing behind the length of a slice is read.
func TestLengths(t *testing.T) {
	whole := with(join(op(ldmap), jump(ja, 1), op(mov64), op(ldmap), op(exit)), 0, 4)
	kept := clone(whole)
	want(t, whole, 0, api.OK)
	want(t, api.Object{Maps: whole.Maps, Code: whole.Code, Relocs: whole.Relocs[:1]}, 4, api.ErrReloc)
	want(t, api.Object{Maps: whole.Maps, Code: whole.Code[:8*2], Relocs: whole.Relocs[:1]}, 0, api.ErrEnd)
	want(t, api.Object{Maps: whole.Maps, Code: whole.Code[:8*3], Relocs: whole.Relocs[:1]}, 2, api.ErrJump)
	want(t, api.Object{Maps: whole.Maps, Code: whole.Code[:8], Relocs: whole.Relocs[:1]}, 0, api.ErrSlot)
	want(t, api.Object{Maps: whole.Maps[:0], Code: whole.Code, Relocs: whole.Relocs}, 0, api.ErrReloc)
	want(t, api.Object{Maps: []api.Def{}, Code: join(op(exit)), Relocs: []api.Reloc{}}, 0, api.OK)
	if !same(whole, kept) {
		t.Errorf("the object became %s", short(whole))
	}
	l := []api.Ins{jump(ja, 1), op(lddw), op(exit), op(exit)}
	wantTargets(t, l[:3], nil, 0)
	l[0].Off = 3
	wantTargets(t, l[:3], nil, 0)
	wantTargets(t, l, []int{3, -1, -1, -1}, -1)
	b, _ := object.Pack(whole)
	b = append(b, "more"...)
	wantBytes(t, b[:len(b)-4], 0, api.OK)
	wantBytes(t, b, 0, api.ErrBox)
}

// TestKept: rules 4 and 7, results share no memory with arguments or with other results.
func TestKept(t *testing.T) {
	o := with(join(op(ldmap), jump(jeq, 0), op(exit)), 0)
	code := []api.Ins{op(ldmap), jump(jeq, 0), op(exit)}
	first, _ := valid.Code(o)
	second, _ := valid.Code(o)
	to, _ := valid.Targets(first)
	other, _ := valid.Targets(first)
	for i := range first {
		first[i], to[i] = op(call), 77
	}
	clear(o.Code)
	clear(o.Relocs)
	clear(o.Maps)
	if !slices.Equal(second, code) {
		t.Errorf("the instructions became %v with another result and the object", second)
	}
	if !slices.Equal(other, []int{-1, 2, -1}) {
		t.Errorf("the targets became %v with another result and the instructions", other)
	}
}

// TestConcurrent: rule 6, the functions may be called concurrently.
func TestConcurrent(t *testing.T) {
	shared, _, _ := asm.Text(whole)
	wrong := clone(shared)
	wrong.Relocs = wrong.Relocs[1:]
	var group sync.WaitGroup
	for worker := range 8 {
		group.Go(func() {
			for range 50 {
				want(t, shared, 0, api.OK)
				want(t, wrong, 0, api.ErrReloc)
				want(t, with(join(append(slices.Repeat([]api.Ins{op(lddw)}, worker), jump(ja, 7), op(exit))...)), 2*worker, api.ErrJump)
			}
		})
	}
	group.Wait()
}

// FuzzObject: P17.1 to P17.4, compares all functions with the model for objects with any code.
func FuzzObject(f *testing.F) {
	o, _, _ := asm.Text(whole)
	f.Add(o.Code, []byte{0, 18})
	f.Add(join(op(exit)), []byte{})
	f.Add(join(op(lddw), jump(ja, -2), op(ldmap)), []byte{3})
	f.Add(join(jump(jeq, 1), op(ldmap), api.Ins{Op: mov64, Dst: 10}), []byte{1, 2})
	f.Fuzz(func(t *testing.T, code, slots []byte) {
		if len(code) > 8*200 {
			return
		}
		o := with(code)
		for _, s := range slots {
			o.Relocs = append(o.Relocs, api.Reloc{Slot: int(s), Symbol: int(s) % 2})
		}
		wantAsModel(t, o)
		// With the relocations that it needs, the object is more often valid.
		o.Relocs = nil
		for _, s := range startsOf(code) {
			if rowAt(code, s).isMapRef() {
				o.Relocs = append(o.Relocs, api.Reloc{Slot: s})
			}
		}
		wantAsModel(t, o)
	})
}

// FuzzBytes: P17.2, compares Bytes with object.Parse and the model.
func FuzzBytes(f *testing.F) {
	o, _, _ := asm.Text(whole)
	b, _ := object.Pack(o)
	f.Add(b)
	b, _ = object.Pack(with(join(op(ldmap), op(exit)), 0))
	f.Add(b)
	f.Add([]byte("SLC1"))
	f.Fuzz(func(t *testing.T, b []byte) {
		if len(b) > 4000 {
			return
		}
		o, e := object.Parse(b)
		at := 0
		if e == api.OK {
			at, e = checked(o)
		}
		wantBytes(t, b, at, e)
	})
}

// FuzzTargets: P17.4, compares Targets with the model for any operations and offsets.
func FuzzTargets(f *testing.F) {
	f.Add([]byte{44, 68}, []byte{0, 0}, 0)
	f.Add([]byte{84, 45, 44, 90, 68}, []byte{0, 253, 0, 0, 0}, 1)
	f.Add([]byte{44, 44}, []byte{255, 254}, math.MaxInt)
	f.Fuzz(func(t *testing.T, ops, offs []byte, off int) {
		var l []api.Ins
		for i, n := range ops[:min(len(ops), 100)] {
			x := api.Ins{Op: int(n) % 90}
			if i < len(offs) {
				x.Off = int(int8(offs[i])) / 8
			}
			l = append(l, x)
		}
		all, at := targets(l)
		wantTargets(t, l, all, at)
		if at >= 0 {
			l[at].Off = off
			all, at = targets(l)
			wantTargets(t, l, all, at)
		}
	})
}
