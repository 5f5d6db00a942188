package slot_test

import (
	"bytes"
	"encoding/hex"
	"math"
	"slices"
	"strconv"
	"strings"
	"sync"
	"testing"

	"slotcode/api"
	"slotcode/insn"
	"slotcode/slot"
)

// row is what chapters 3 and 4 say about one operation. told is the field that tells it from others with its opcode:
// off, imm, src or none of them, and value what is in it.
type row struct {
	name  string
	form  int
	code  byte
	told  string
	value int
}

// groups are the rows of the table of chapter 3, one after the other, with the names and the opcodes as it has them.
var groups = []struct {
	form        int
	names, code string
}{
	{api.Alu, "add64 sub64 mul64 div64 or64 and64 lsh64 rsh64 mod64 xor64 mov64 arsh64 sdiv64 smod64", "07 17 27 37 47 57 67 77 97 a7 b7 c7 37 97"},
	{api.Alu, "add32 sub32 mul32 div32 or32 and32 lsh32 rsh32 mod32 xor32 mov32 arsh32 sdiv32 smod32", "04 14 24 34 44 54 64 74 94 a4 b4 c4 34 94"},
	{api.Unary, "neg64 neg32", "87 84"},
	{api.Extend, "movsb64 movsh64 movsw64 movsb32 movsh32", "bf bf bf bc bc"},
	{api.Unary, "le16 le32 le64 be16 be32 be64 bswap16 bswap32 bswap64", "d4 d4 d4 dc dc dc d7 d7 d7"},
	{api.Go, "ja", "05"},
	{api.Jump, "jeq jgt jge jset jne jsgt jsge jlt jle jslt jsle", "15 25 35 45 55 65 75 a5 b5 c5 d5"},
	{api.Jump, "jeq32 jgt32 jge32 jset32 jne32 jsgt32 jsge32 jlt32 jle32 jslt32 jsle32", "16 26 36 46 56 66 76 a6 b6 c6 d6"},
	{api.Call, "call", "85"},
	{api.Exit, "exit", "95"},
	{api.Load, "ldxb ldxh ldxw ldxdw ldxsb ldxsh ldxsw", "71 69 61 79 91 89 81"},
	{api.Store, "stb sth stw stdw", "72 6a 62 7a"},
	{api.StoreReg, "stxb stxh stxw stxdw", "73 6b 63 7b"},
	{api.Wide, "lddw", "18"},
	{api.MapRef, "ldmap", "18"},
}

// fixed are the fields that the paragraph on fixed fields mentions, other than the 0 of their neighbours.
var fixed = map[string]int{
	"sdiv64": 1, "smod64": 1, "sdiv32": 1, "smod32": 1,
	"movsb64": 8, "movsh64": 16, "movsw64": 32, "movsb32": 8, "movsh32": 16,
	"le16": 16, "le32": 32, "le64": 64, "be16": 16, "be32": 32, "be64": 64, "bswap16": 16, "bswap32": 32, "bswap64": 64,
	"ldmap": 1,
}

// rows are the operations in order.
var rows = func() []row {
	var l []row
	for _, g := range groups {
		codes := strings.Fields(g.code)
		for i, name := range strings.Fields(g.names) {
			code, err := strconv.ParseUint(codes[i], 16, 8)
			if err != nil {
				panic(err)
			}
			told := ""
			switch {
			case g.form == api.Alu || g.form == api.Extend:
				told = "off"
			case g.form == api.Unary && !strings.HasPrefix(name, "neg"):
				told = "imm"
			case code == 0x18:
				told = "src"
			}
			l = append(l, row{name, g.form, byte(code), told, fixed[name]})
		}
	}
	return l
}()

// number returns the number of an operation.
func number(name string) int {
	for op, r := range rows {
		if r.name == name {
			return op
		}
	}
	panic("no operation: " + name)
}

func (r row) takesRegister() bool { return r.form == api.Alu || r.form == api.Jump }

func (r row) isWide() bool { return r.form == api.Wide || r.form == api.MapRef }

// uses is the table of chapter 4.
func (r row) uses(reg bool) (dst, src, off, imm bool) {
	switch r.form {
	case api.Alu:
		return true, reg, false, !reg
	case api.Unary:
		return true, false, false, false
	case api.Extend:
		return true, true, false, false
	case api.Go:
		return false, false, true, false
	case api.Jump:
		return true, reg, true, !reg
	case api.Call:
		return false, false, false, true
	case api.Load, api.StoreReg:
		return true, true, true, false
	case api.Store:
		return true, false, true, true
	case api.Wide, api.MapRef:
		return true, false, false, true
	}
	return false, false, false, false
}

// encoded is the chapter's paragraph on the encoding, for a correct instruction.
func encoded(x api.Ins) []byte {
	r := rows[x.Op]
	code, src, off, imm := r.code, x.Src, x.Off, x.Imm
	if x.Reg {
		code += 8
	}
	if r.value != 0 {
		switch r.told {
		case "src":
			src = r.value
		case "off":
			off = r.value
		case "imm":
			imm = int64(r.value)
		}
	}
	b := []byte{code, byte(16*src + x.Dst), byte(off), byte(off >> 8), byte(imm), byte(imm >> 8), byte(imm >> 16), byte(imm >> 24)}
	if r.isWide() {
		b = append(b, 0, 0, 0, 0, byte(imm>>32), byte(imm>>40), byte(imm>>48), byte(imm>>56))
	}
	return b
}

// decoded is P5.2 word by word.
func decoded(b []byte) (api.Ins, int, api.Errno) {
	if len(b) < 8 {
		return api.Ins{}, 0, api.ErrSlot
	}
	dst, src := int(b[1]%16), int(b[1]/16)
	off := int(int16(uint16(b[2]) | uint16(b[3])<<8))
	imm := int64(int32(uint32(b[4]) | uint32(b[5])<<8 | uint32(b[6])<<16 | uint32(b[7])<<24))
	op, reg := -1, false
	for n, r := range rows {
		same := r.code == b[0] || r.takesRegister() && r.code+8 == b[0]
		same = same && (r.told != "src" || src == r.value) && (r.told != "off" || off == r.value) && (r.told != "imm" || imm == int64(r.value))
		if same {
			op, reg = n, r.code != b[0]
		}
	}
	if op < 0 {
		return api.Ins{}, 0, api.ErrOp
	}
	r, slots := rows[op], 1
	if r.isWide() {
		if len(b) < 16 {
			return api.Ins{}, 0, api.ErrSlot
		}
		imm = imm&math.MaxUint32 | int64(int32(uint32(b[12])|uint32(b[13])<<8|uint32(b[14])<<16|uint32(b[15])<<24))<<32
		slots = 2
	}
	if dst > 10 || src > 10 {
		return api.Ins{}, 0, api.ErrRegister
	}
	x := api.Ins{Op: op, Reg: reg}
	usesDst, usesSrc, usesOff, usesImm := r.uses(reg)
	if usesDst {
		x.Dst = dst
	}
	if usesSrc {
		x.Src = src
	}
	if usesOff {
		x.Off = off
	}
	if usesImm {
		x.Imm = imm
	}
	wrong := r.form == api.Call && (imm < 1 || imm > 3) || r.form == api.MapRef && (imm < 0 || imm > 254)
	if wrong || !bytes.Equal(encoded(x), b[:8*slots]) {
		return api.Ins{}, 0, api.ErrField
	}
	return x, slots, api.OK
}

func checkDecode(t *testing.T, b []byte) {
	t.Helper()
	x, slots, e := slot.Decode(b)
	wantX, wantSlots, wantE := decoded(b)
	if x != wantX || slots != wantSlots || e != wantE {
		t.Errorf("Decode(%x) = %+v, %d, %v; want %+v, %d, %v", b, x, slots, e, wantX, wantSlots, wantE)
	}
	if e != api.OK {
		return
	}
	if again, e := slot.Encode(x); e != api.OK || !bytes.Equal(again, b[:8*slots]) {
		t.Errorf("Decode(%x) = %+v, and Encode of it = %x, %v", b, x, again, e)
	}
}

func checkEncode(t *testing.T, x api.Ins) {
	t.Helper()
	b, e := slot.Encode(x)
	if want := insn.Check(x); want != api.OK {
		if len(b) != 0 || e != want {
			t.Errorf("Encode(%+v) = %x, %v; want nothing, %v", x, b, e, want)
		}
		return
	}
	want := encoded(x)
	if e != api.OK || !bytes.Equal(b, want) {
		t.Errorf("Encode(%+v) = %x, %v; want %x, %v", x, b, e, want, api.OK)
		return
	}
	if again, slots, e := slot.Decode(b); again != x || slots != len(want)/8 || e != api.OK {
		t.Errorf("Encode(%+v) = %x, and Decode of it = %+v, %d, %v", x, b, again, slots, e)
	}
}

// unhex returns the bytes of a text with digits of base 16 and spaces.
func unhex(s string) []byte {
	b, err := hex.DecodeString(strings.ReplaceAll(s, " ", ""))
	if err != nil {
		panic(s)
	}
	return b
}

// instructions returns correct instructions of all operations: the used fields have all of some values.
func instructions() []api.Ins {
	var l []api.Ins
	for op := range rows {
		for _, reg := range []bool{false, true} {
			for _, dst := range []int{0, 1, 9, 10} {
				for _, src := range []int{0, 1, 7, 10} {
					for _, off := range []int{0, 1, -1, 0x1234, 127, 128, 255, 256, -256, 32767, -32768} {
						for _, imm := range []int64{0, 1, 3, 128, 254, 256, -1, 0x12345678, math.MaxInt32, math.MinInt32, 0x123456789abcdef0, 1<<32 + 5, math.MaxUint32, 1 << 31, -1 << 32, math.MaxInt64, math.MinInt64} {
							if x := (api.Ins{Op: op, Reg: reg, Dst: dst, Src: src, Off: off, Imm: imm}); insn.Check(x) == api.OK {
								l = append(l, x)
							}
						}
					}
				}
			}
		}
	}
	return l
}

// encodings are instructions with their bytes, written out one by one.
func encodings() []struct {
	x api.Ins
	b string
} {
	return []struct {
		x api.Ins
		b string
	}{
		{api.Ins{Op: number("exit")}, "95 00 00 00 00 00 00 00"},
		{api.Ins{Op: number("lddw"), Dst: 1, Imm: 1<<32 + 5}, "18 01 00 00 05 00 00 00 00 00 00 00 01 00 00 00"},
		{api.Ins{Op: number("lddw"), Dst: 10, Imm: -2}, "18 0a 00 00 fe ff ff ff 00 00 00 00 ff ff ff ff"},
		{api.Ins{Op: number("lddw"), Imm: 0x1122334455667788}, "18 00 00 00 88 77 66 55 00 00 00 00 44 33 22 11"},
		{api.Ins{Op: number("lddw"), Imm: 0x80000000}, "18 00 00 00 00 00 00 80 00 00 00 00 00 00 00 00"},
		{api.Ins{Op: number("lddw"), Imm: math.MinInt64}, "18 00 00 00 00 00 00 00 00 00 00 00 00 00 00 80"},
		{api.Ins{Op: number("ldmap"), Dst: 2}, "18 12 00 00 00 00 00 00 00 00 00 00 00 00 00 00"},
		{api.Ins{Op: number("ldmap"), Dst: 3, Imm: 254}, "18 13 00 00 fe 00 00 00 00 00 00 00 00 00 00 00"},
		{api.Ins{Op: number("add64"), Dst: 1, Imm: 5}, "07 01 00 00 05 00 00 00"},
		{api.Ins{Op: number("add64"), Reg: true, Dst: 1, Src: 2}, "0f 21 00 00 00 00 00 00"},
		{api.Ins{Op: number("mov32"), Dst: 9, Imm: -1}, "b4 09 00 00 ff ff ff ff"},
		{api.Ins{Op: number("mov64"), Reg: true, Dst: 10, Src: 10}, "bf aa 00 00 00 00 00 00"},
		{api.Ins{Op: number("div64"), Dst: 4, Imm: 0x01020304}, "37 04 00 00 04 03 02 01"},
		{api.Ins{Op: number("sdiv64"), Dst: 4, Imm: 7}, "37 04 01 00 07 00 00 00"},
		{api.Ins{Op: number("smod32"), Reg: true, Dst: 4, Src: 5}, "9c 54 01 00 00 00 00 00"},
		{api.Ins{Op: number("movsb64"), Dst: 1, Src: 2}, "bf 21 08 00 00 00 00 00"},
		{api.Ins{Op: number("movsh64"), Dst: 1, Src: 2}, "bf 21 10 00 00 00 00 00"},
		{api.Ins{Op: number("movsw64"), Dst: 1, Src: 2}, "bf 21 20 00 00 00 00 00"},
		{api.Ins{Op: number("movsb32"), Dst: 1, Src: 2}, "bc 21 08 00 00 00 00 00"},
		{api.Ins{Op: number("movsh32"), Dst: 0, Src: 10}, "bc a0 10 00 00 00 00 00"},
		{api.Ins{Op: number("neg64"), Dst: 6}, "87 06 00 00 00 00 00 00"},
		{api.Ins{Op: number("neg32"), Dst: 6}, "84 06 00 00 00 00 00 00"},
		{api.Ins{Op: number("le16"), Dst: 1}, "d4 01 00 00 10 00 00 00"},
		{api.Ins{Op: number("be32"), Dst: 1}, "dc 01 00 00 20 00 00 00"},
		{api.Ins{Op: number("bswap64"), Dst: 1}, "d7 01 00 00 40 00 00 00"},
		{api.Ins{Op: number("ja"), Off: -1}, "05 00 ff ff 00 00 00 00"},
		{api.Ins{Op: number("ja"), Off: 0x0102}, "05 00 02 01 00 00 00 00"},
		{api.Ins{Op: number("jeq"), Dst: 3, Off: -32768, Imm: math.MinInt32}, "15 03 00 80 00 00 00 80"},
		{api.Ins{Op: number("jsle32"), Reg: true, Dst: 3, Src: 4, Off: 32767}, "de 43 ff 7f 00 00 00 00"},
		{api.Ins{Op: number("call"), Imm: 2}, "85 00 00 00 02 00 00 00"},
		{api.Ins{Op: number("ldxb"), Src: 10, Off: -8}, "71 a0 f8 ff 00 00 00 00"},
		{api.Ins{Op: number("ldxsw"), Dst: 8, Src: 1, Off: 256}, "81 18 00 01 00 00 00 00"},
		{api.Ins{Op: number("stdw"), Dst: 10, Off: -16, Imm: 300}, "7a 0a f0 ff 2c 01 00 00"},
		{api.Ins{Op: number("stxh"), Dst: 10, Src: 7, Off: 2}, "6b 7a 02 00 00 00 00 00"},
	}
}

// TestTable checks the tables of the tests.
func TestTable(t *testing.T) {
	if len(rows) != 86 || number("neg64") != 28 || number("ja") != 44 || number("exit") != 68 || number("lddw") != 84 || number("ldmap") != 85 {
		t.Fatal("the table of the test is wrong")
	}
	for op, r := range rows {
		for _, reg := range []bool{false, true} {
			dst, src, off, imm := r.uses(reg)
			if got := insn.Uses(op, reg); got != (insn.Fields{Dst: dst, Src: src, Off: off, Imm: imm}) {
				t.Errorf("the test has other fields for %s than %+v", r.name, got)
			}
		}
	}
}

// TestExamples: P5.1 and P5.2, without the model, so that an error of the model is seen.
func TestExamples(t *testing.T) {
	for _, c := range encodings() {
		want := unhex(c.b)
		if b, e := slot.Encode(c.x); !bytes.Equal(b, want) || e != api.OK {
			t.Errorf("Encode(%+v) = %x, %v; want %x, %v", c.x, b, e, want, api.OK)
		}
		if x, slots, e := slot.Decode(want); x != c.x || slots != len(want)/8 || e != api.OK {
			t.Errorf("Decode(%x) = %+v, %d, %v; want %+v, %d, %v", want, x, slots, e, c.x, len(want)/8, api.OK)
		}
	}
}

// TestEncode: P5.1 and P5.4, for all operations.
func TestEncode(t *testing.T) {
	l := instructions()
	seen := map[string]api.Ins{}
	for _, x := range l {
		checkEncode(t, x)
		b, _ := slot.Encode(x)
		if y, ok := seen[string(b)]; ok {
			t.Errorf("%+v and %+v have the encoding %x", x, y, b)
		}
		seen[string(b)] = x
	}
	if len(l) < 1000 {
		t.Errorf("only %d instructions", len(l))
	}
}

// TestEncodeNumbers: P5.1 and P5.4, for all offsets, all helpers, all maps and many immediates.
func TestEncodeNumbers(t *testing.T) {
	for off := math.MinInt16; off <= math.MaxInt16; off++ {
		checkEncode(t, api.Ins{Op: number("ja"), Off: off})
		checkEncode(t, api.Ins{Op: number("jne"), Dst: 1, Off: off, Imm: int64(-off)})
	}
	for n := int64(-1); n < 256; n++ {
		checkEncode(t, api.Ins{Op: number("call"), Imm: n})
		checkEncode(t, api.Ins{Op: number("ldmap"), Dst: 10, Imm: n})
	}
	for bit := range 64 {
		for d := int64(-2); d <= 2; d++ {
			for _, imm := range []int64{1<<bit + d, -(1 << bit) + d} {
				checkEncode(t, api.Ins{Op: number("lddw"), Dst: 5, Imm: imm})
				checkEncode(t, api.Ins{Op: number("mov64"), Dst: 5, Imm: imm})
				checkEncode(t, api.Ins{Op: number("stw"), Dst: 5, Off: -3, Imm: imm})
			}
		}
	}
}

// TestEncodeErrors: P5.1, the errors of insn.Check in their order.
func TestEncodeErrors(t *testing.T) {
	for _, c := range []struct {
		x    api.Ins
		want api.Errno
	}{
		{api.Ins{Op: -1}, api.ErrOp}, {api.Ins{Op: 86}, api.ErrOp}, {api.Ins{Op: math.MaxInt}, api.ErrOp}, {api.Ins{Op: math.MinInt}, api.ErrOp}, {api.Ins{Op: 86, Dst: 11, Off: 1 << 20}, api.ErrOp},
		{api.Ins{Op: number("exit"), Reg: true}, api.ErrField}, {api.Ins{Op: number("exit"), Dst: 1}, api.ErrField}, {api.Ins{Op: number("add64"), Src: 1}, api.ErrField}, {api.Ins{Op: number("add64"), Dst: 11, Off: 1}, api.ErrField},
		{api.Ins{Op: number("sdiv64"), Off: 1}, api.ErrField}, {api.Ins{Op: number("le16"), Imm: 16}, api.ErrField}, {api.Ins{Op: number("movsb64"), Off: 8}, api.ErrField}, {api.Ins{Op: number("ldmap"), Src: 1}, api.ErrField}, {api.Ins{Op: number("movsb64"), Reg: true, Src: 1}, api.ErrField},
		{api.Ins{Op: number("add64"), Dst: 11}, api.ErrRegister}, {api.Ins{Op: number("add64"), Dst: -1}, api.ErrRegister}, {api.Ins{Op: number("add64"), Reg: true, Src: 16}, api.ErrRegister}, {api.Ins{Op: number("ldmap"), Dst: 11, Imm: 255}, api.ErrRegister},
		{api.Ins{Op: number("add64"), Imm: 1 << 31}, api.ErrRange}, {api.Ins{Op: number("add64"), Imm: -1<<31 - 1}, api.ErrRange}, {api.Ins{Op: number("ja"), Off: 32768}, api.ErrRange}, {api.Ins{Op: number("ja"), Off: -32769}, api.ErrRange}, {api.Ins{Op: number("call")}, api.ErrRange}, {api.Ins{Op: number("call"), Imm: 4}, api.ErrRange}, {api.Ins{Op: number("ldmap"), Imm: 255}, api.ErrRange}, {api.Ins{Op: number("ldmap"), Imm: -1}, api.ErrRange},
	} {
		if b, e := slot.Encode(c.x); len(b) != 0 || e != c.want {
			t.Errorf("Encode(%+v) = %x, %v; want nothing, %v", c.x, b, e, c.want)
		}
	}
	for op := -2; op < 88; op++ {
		for _, reg := range []bool{false, true} {
			for _, dst := range []int{0, 10, 11, -1, 16, math.MinInt} {
				for _, src := range []int{0, 10, 11, -1, 16, math.MaxInt} {
					for _, off := range []int{0, 1, 32768, -32769, math.MinInt} {
						for _, imm := range []int64{0, 1, 255, -1, 1 << 31, math.MinInt64} {
							checkEncode(t, api.Ins{Op: op, Reg: reg, Dst: dst, Src: src, Off: off, Imm: imm})
						}
					}
				}
			}
		}
	}
}

// TestDecodeErrors: P5.2, without the model: each error, and the order if several ones apply.
func TestDecodeErrors(t *testing.T) {
	for _, c := range []struct {
		b    string
		want api.Errno
	}{
		{"", api.ErrSlot}, {"95", api.ErrSlot}, {"95 00 00 00 00 00 00", api.ErrSlot}, {"ff ff ff ff ff ff ff", api.ErrSlot}, {"18 00 00 00 00 00 00", api.ErrSlot},
		{"00 00 00 00 00 00 00 00", api.ErrOp}, {"ff ff ff ff ff ff ff ff", api.ErrOp}, {"ff ff ff ff ff ff ff ff 95 00 00 00 00 00 00 00", api.ErrOp}, {"0d 00 00 00 00 00 00 00", api.ErrOp}, {"8f 00 00 00 00 00 00 00", api.ErrOp}, {"06 00 00 00 00 00 00 00", api.ErrOp}, {"9d 00 00 00 00 00 00 00", api.ErrOp},
		{"37 00 02 00 00 00 00 00", api.ErrOp}, {"07 00 01 00 00 00 00 00", api.ErrOp}, {"07 bb 00 01 00 00 00 00", api.ErrOp}, {"bf 00 07 00 00 00 00 00", api.ErrOp}, {"bf 00 00 08 00 00 00 00", api.ErrOp}, {"bc 00 20 00 00 00 00 00", api.ErrOp}, {"b7 00 08 00 00 00 00 00", api.ErrOp},
		{"d4 00 00 00 00 00 00 00", api.ErrOp}, {"d4 bb 00 00 08 00 00 00", api.ErrOp}, {"dc 00 00 00 10 01 00 00", api.ErrOp}, {"d7 00 00 00 00 00 00 40", api.ErrOp}, {"18 20 00 00 00 00 00 00", api.ErrOp}, {"18 f0 00 00 00 00 00 00 00 00 00 00 00 00 00 00", api.ErrOp},
		{"18 00 00 00 00 00 00 00", api.ErrSlot}, {"18 10 00 00 00 00 00 00 00 00 00 00 00 00 00", api.ErrSlot}, {"18 0b 00 00 00 00 00 00", api.ErrSlot}, {"18 1f 01 00 00 00 00 00 00", api.ErrSlot},
		{"95 0b 00 00 00 00 00 00", api.ErrRegister}, {"95 b0 01 00 01 00 00 00", api.ErrRegister}, {"07 0b 00 00 00 00 00 00", api.ErrRegister}, {"07 b0 00 00 00 00 00 00", api.ErrRegister}, {"0f f0 00 00 01 00 00 00", api.ErrRegister}, {"18 0b 00 00 00 00 00 00 00 00 00 00 00 00 00 00", api.ErrRegister}, {"18 1f 01 00 00 00 00 00 01 00 00 00 00 00 00 00", api.ErrRegister}, {"85 c0 00 00 09 00 00 00", api.ErrRegister},
		{"95 01 00 00 00 00 00 00", api.ErrField}, {"95 10 00 00 00 00 00 00", api.ErrField}, {"95 00 01 00 00 00 00 00", api.ErrField}, {"95 00 00 01 00 00 00 00", api.ErrField}, {"95 00 00 00 01 00 00 00", api.ErrField}, {"95 00 00 00 00 00 00 80", api.ErrField},
		{"07 10 00 00 00 00 00 00", api.ErrField}, {"0f 00 00 00 01 00 00 00", api.ErrField}, {"87 10 00 00 00 00 00 00", api.ErrField}, {"87 00 01 00 00 00 00 00", api.ErrField}, {"87 00 00 00 40 00 00 00", api.ErrField}, {"d4 10 00 00 10 00 00 00", api.ErrField}, {"d4 00 10 00 10 00 00 00", api.ErrField}, {"bf 00 08 00 01 00 00 00", api.ErrField},
		{"05 01 00 00 00 00 00 00", api.ErrField}, {"05 00 00 00 01 00 00 00", api.ErrField}, {"15 10 00 00 00 00 00 00", api.ErrField}, {"1d 00 00 00 00 00 01 00", api.ErrField}, {"85 00 00 00 00 00 00 00", api.ErrField}, {"85 00 00 00 04 00 00 00", api.ErrField}, {"85 00 00 00 ff ff ff ff", api.ErrField}, {"85 01 00 00 01 00 00 00", api.ErrField}, {"85 10 00 00 01 00 00 00", api.ErrField}, {"85 00 01 00 01 00 00 00", api.ErrField},
		{"71 00 00 00 01 00 00 00", api.ErrField}, {"72 10 00 00 00 00 00 00", api.ErrField}, {"73 00 00 00 00 01 00 00", api.ErrField},
		{"18 00 01 00 00 00 00 00 00 00 00 00 00 00 00 00", api.ErrField}, {"18 00 00 00 00 00 00 00 95 00 00 00 00 00 00 00", api.ErrField}, {"18 00 00 00 00 00 00 00 00 01 00 00 00 00 00 00", api.ErrField}, {"18 00 00 00 00 00 00 00 00 00 01 00 00 00 00 00", api.ErrField}, {"18 00 00 00 00 00 00 00 00 00 00 80 00 00 00 00", api.ErrField}, {"18 00 00 00 00 00 00 00 00 bb 00 00 00 00 00 00", api.ErrField},
		{"18 10 00 00 ff 00 00 00 00 00 00 00 00 00 00 00", api.ErrField}, {"18 10 00 00 00 00 00 00 00 00 00 00 01 00 00 00", api.ErrField}, {"18 10 00 00 ff ff ff ff 00 00 00 00 ff ff ff ff", api.ErrField}, {"18 10 01 00 00 00 00 00 00 00 00 00 00 00 00 00", api.ErrField},
	} {
		if x, slots, e := slot.Decode(unhex(c.b)); x != (api.Ins{}) || slots != 0 || e != c.want {
			t.Errorf("Decode(%s) = %+v, %d, %v; want nothing, %v", c.b, x, slots, e, c.want)
		}
	}
}

// TestDecodeSlots: P5.2 and P5.4, for all opcodes with all bytes of registers and many offsets and immediates.
func TestDecodeSlots(t *testing.T) {
	numbers := []string{"00 00 00 00 00 00", "00 00 01 00 00 00", "01 00 00 00 00 00", "08 00 00 00 00 00", "00 00 10 00 00 00", "ff ff fe ff ff ff"}
	for _, s := range numbers {
		for code := range 256 {
			for registers := range 256 {
				checkDecode(t, append([]byte{byte(code), byte(registers)}, unhex(s+"00 00 00 00 00 00 00 00")...))
			}
		}
	}
	offs := []string{"00 00", "01 00", "00 01", "08 00", "10 00", "20 00", "ff ff", "00 80"}
	imms := []string{"00 00 00 00", "01 00 00 00", "04 00 00 00", "10 00 00 00", "20 00 00 00", "40 00 00 00", "10 01 00 00", "00 00 01 00", "00 00 00 01", "00 00 00 80", "ff 00 00 00", "ff ff ff ff"}
	seconds := []string{"", "00 00 00 00 00 00 00", "00 00 00 00 00 00 00 00", "00 00 00 00 ff ff ff ff", "00 00 00 00 01 02 03 84", "00 00 00 01 00 00 00 00"}
	for code := range 256 {
		for _, registers := range []byte{0x00, 0x01, 0x10, 0x1a, 0xa0, 0xb0, 0x0b} {
			for _, off := range offs {
				for _, imm := range imms {
					for _, second := range seconds {
						checkDecode(t, append([]byte{byte(code), registers}, unhex(off+imm+second)...))
					}
				}
			}
		}
	}
}

// TestDecodeNeighbours: P5.2 and P5.4, for encodings in which one byte is another one, and parts of encodings.
func TestDecodeNeighbours(t *testing.T) {
	for _, c := range encodings() {
		b := unhex(c.b)
		for n := range b {
			checkDecode(t, b[:n])
			for value := range 256 {
				other := slices.Clone(b)
				other[n] = byte(value)
				checkDecode(t, other)
			}
		}
		for _, rest := range []string{"00", "95", "ff ff ff ff ff ff ff", "95 00 00 00 00 00 00 00", "ff ff ff ff ff ff ff ff ff ff ff ff ff ff ff ff ff"} {
			longer := append(slices.Clone(b), unhex(rest)...)
			if x, slots, e := slot.Decode(longer); x != c.x || slots != len(b)/8 || e != api.OK {
				t.Errorf("Decode(%x) = %+v, %d, %v; want %+v, %d, %v", longer, x, slots, e, c.x, len(b)/8, api.OK)
			}
		}
	}
}

// TestLength: rule 4, what stands behind the length of a slice is not read.
func TestLength(t *testing.T) {
	b := unhex("18 01 00 00 05 00 00 00 00 00 00 00 01 00 00 00")
	for _, n := range []int{8, 15} {
		if x, slots, e := slot.Decode(b[:n]); x != (api.Ins{}) || slots != 0 || e != api.ErrSlot {
			t.Errorf("Decode of %d bytes = %+v, %d, %v", n, x, slots, e)
		}
		if l, at, e := slot.All(b[:n]); len(l) != 0 || at != 0 || e != api.ErrSlot {
			t.Errorf("All of %d bytes = %+v, %d, %v", n, l, at, e)
		}
	}
	exits := unhex("95 00 00 00 00 00 00 00 95 00 00 00 00 00 00 00")
	if l, at, e := slot.All(exits[:8]); len(l) != 1 || at != 0 || e != api.OK {
		t.Errorf("All of 8 bytes = %+v, %d, %v", l, at, e)
	}
	ins := []api.Ins{{Op: number("exit")}, {Op: -1}}
	if b, at, e := slot.Join(ins[:1]); len(b) != 8 || at != 0 || e != api.OK {
		t.Errorf("Join of one instruction = %x, %d, %v", b, at, e)
	}
}

// TestAll: P5.3, without the model.
func TestAll(t *testing.T) {
	const exit, lddw, none = "95 00 00 00 00 00 00 00", "18 01 00 00 05 00 00 00 00 00 00 00 01 00 00 00", "00 00 00 00 00 00 00 00"
	isExit, isLddw := api.Ins{Op: number("exit")}, api.Ins{Op: number("lddw"), Dst: 1, Imm: 1<<32 + 5}
	for _, c := range []struct {
		b    string
		want []api.Ins
		at   int
		e    api.Errno
	}{
		{"", nil, 0, api.OK}, {exit, []api.Ins{isExit}, 0, api.OK}, {lddw, []api.Ins{isLddw}, 0, api.OK}, {exit + exit, []api.Ins{isExit, isExit}, 0, api.OK}, {lddw + exit, []api.Ins{isLddw, isExit}, 0, api.OK}, {exit + lddw + lddw + exit, []api.Ins{isExit, isLddw, isLddw, isExit}, 0, api.OK},
		{"95", nil, 0, api.ErrSlot}, {exit + "95", nil, 1, api.ErrSlot}, {exit + "00 00 00 00 00 00 00", nil, 1, api.ErrSlot}, {lddw + "95", nil, 2, api.ErrSlot}, {exit + lddw[:23], nil, 1, api.ErrSlot}, {lddw + lddw[:44], nil, 2, api.ErrSlot}, {exit + lddw[:24] + exit, nil, 1, api.ErrField},
		{none, nil, 0, api.ErrOp}, {exit + none, nil, 1, api.ErrOp}, {lddw + none, nil, 2, api.ErrOp}, {lddw + exit + lddw + none + exit, nil, 5, api.ErrOp}, {none + exit, nil, 0, api.ErrOp}, {none + "95", nil, 0, api.ErrOp},
		{exit + "95 0b 00 00 00 00 00 00" + none, nil, 1, api.ErrRegister}, {lddw + "95 01 00 00 00 00 00 00" + none, nil, 2, api.ErrField}, {lddw + lddw + "95 00 00 00 01 00 00 00", nil, 4, api.ErrField},
	} {
		if l, at, e := slot.All(unhex(c.b)); !slices.Equal(l, c.want) || at != c.at || e != c.e {
			t.Errorf("All(%s) = %+v, %d, %v; want %+v, %d, %v", c.b, l, at, e, c.want, c.at, c.e)
		}
	}
}

// TestJoin: P5.3, without the model.
func TestJoin(t *testing.T) {
	exit, lddw := api.Ins{Op: number("exit")}, api.Ins{Op: number("lddw"), Dst: 1, Imm: 1<<32 + 5}
	for _, c := range []struct {
		l    []api.Ins
		want string
		at   int
		e    api.Errno
	}{
		{nil, "", 0, api.OK}, {[]api.Ins{}, "", 0, api.OK}, {[]api.Ins{exit}, "9500000000000000", 0, api.OK}, {[]api.Ins{lddw, exit}, "18010000050000000000000001000000" + "9500000000000000", 0, api.OK}, {[]api.Ins{exit, lddw, exit}, "9500000000000000" + "18010000050000000000000001000000" + "9500000000000000", 0, api.OK},
		{[]api.Ins{{Op: 86}}, "", 0, api.ErrOp}, {[]api.Ins{exit, {Op: -1}}, "", 1, api.ErrOp}, {[]api.Ins{lddw, lddw, {Op: number("exit"), Dst: 1}, {Op: -1}}, "", 2, api.ErrField}, {[]api.Ins{lddw, {Op: number("neg64"), Dst: 11}, exit}, "", 1, api.ErrRegister}, {[]api.Ins{exit, exit, lddw, {Op: number("call")}, {Op: -1}}, "", 3, api.ErrRange},
	} {
		if b, at, e := slot.Join(c.l); hex.EncodeToString(b) != c.want || at != c.at || e != c.e {
			t.Errorf("Join(%+v) = %x, %d, %v; want %s, %d, %v", c.l, b, at, e, c.want, c.at, c.e)
		}
	}
}

// TestLists: P5.3 and P5.4, for long lists: Join and All, and a wrong one at each place.
func TestLists(t *testing.T) {
	l := instructions()
	var want []byte
	for _, x := range l {
		want = append(want, encoded(x)...)
	}
	b, at, e := slot.Join(l)
	if !bytes.Equal(b, want) || at != 0 || e != api.OK {
		t.Fatalf("Join of all = %d bytes, %d, %v; want %d bytes", len(b), at, e, len(want))
	}
	if again, at, e := slot.All(b); !slices.Equal(again, l) || at != 0 || e != api.OK {
		t.Errorf("All of Join = %d instructions, %d, %v; want %d", len(again), at, e, len(l))
	}
	var short []api.Ins
	for _, c := range encodings() {
		short = append(short, c.x)
	}
	before := 0
	for i := range short {
		wrong := slices.Clone(short)
		wrong[i].Dst = 99
		if b, at, e := slot.Join(wrong); len(b) != 0 || at != i || e != insn.Check(wrong[i]) || e == api.OK {
			t.Errorf("Join with a wrong instruction at %d = %x, %d, %v", i, b, at, e)
		}
		b, _, _ := slot.Join(short)
		b[8*before] = 0
		if l, at, e := slot.All(b); len(l) != 0 || at != before || e != api.ErrOp {
			t.Errorf("All with a wrong opcode in slot %d = %+v, %d, %v", before, l, at, e)
		}
		before += len(encoded(short[i])) / 8
	}
}

// TestLongCode: P5.3 and P5.4, for as many slots as a program may have and more.
func TestLongCode(t *testing.T) {
	const n = 100000
	b := bytes.Repeat(unhex("18 01 00 00 05 00 00 00 00 00 00 00 01 00 00 00"), n/2)
	l, at, e := slot.All(b)
	if len(l) != n/2 || at != 0 || e != api.OK {
		t.Fatalf("All = %d instructions, %d, %v", len(l), at, e)
	}
	if again, at, e := slot.Join(l); !bytes.Equal(again, b) || at != 0 || e != api.OK {
		t.Errorf("Join = %d bytes, %d, %v", len(again), at, e)
	}
	if l, at, e := slot.All(append(b, 0)); len(l) != 0 || at != n || e != api.ErrSlot {
		t.Errorf("All = %d instructions, %d, %v", len(l), at, e)
	}
}

// TestMemory: rule 4, arguments are not modified, and results share no memory with each other or with what is kept.
func TestMemory(t *testing.T) {
	x := api.Ins{Op: number("lddw"), Dst: 1, Imm: 7}
	first, _ := slot.Encode(x)
	want := slices.Clone(first)
	clear(first)
	if second, _ := slot.Encode(x); !bytes.Equal(second, want) {
		t.Errorf("Encode = %x after its result was changed; want %x", second, want)
	}
	l := []api.Ins{x, {Op: number("exit")}}
	b, _, _ := slot.Join(l)
	if l[0] != x || l[1] != (api.Ins{Op: number("exit")}) {
		t.Errorf("Join changed its argument to %+v", l)
	}
	kept := slices.Clone(b)
	again, _, _ := slot.All(b)
	slot.Decode(b)
	if !bytes.Equal(b, kept) {
		t.Errorf("the argument was changed from %x to %x", kept, b)
	}
	clear(b)
	if !slices.Equal(again, l) {
		t.Errorf("All = %+v after its argument was changed; want %+v", again, l)
	}
	clear(again)
	if third, _, _ := slot.All(kept); !slices.Equal(third, l) {
		t.Errorf("All = %+v after its result was changed; want %+v", third, l)
	}
}

// TestConcurrent: the functions may be called concurrently, and their results stay the same.
func TestConcurrent(t *testing.T) {
	var group sync.WaitGroup
	for range 8 {
		group.Go(func() {
			for _, c := range encodings() {
				checkEncode(t, c.x)
				checkDecode(t, unhex(c.b))
			}
		})
	}
	group.Wait()
}

// FuzzDecode: P5.2 to P5.4, for any bytes.
func FuzzDecode(f *testing.F) {
	for _, c := range encodings() {
		f.Add(unhex(c.b))
	}
	f.Add(unhex("18 0b 00 00 00 00 00 00 95"))
	f.Fuzz(func(t *testing.T, b []byte) {
		checkDecode(t, b)
		var want []api.Ins
		wantAt, wantE := 0, api.OK
		for at := 0; 8*at < len(b); {
			x, slots, e := decoded(b[8*at:])
			if e != api.OK {
				want, wantAt, wantE = nil, at, e
				break
			}
			want, at = append(want, x), at+slots
		}
		l, at, e := slot.All(b)
		if !slices.Equal(l, want) || at != wantAt || e != wantE {
			t.Errorf("All(%x) = %+v, %d, %v; want %+v, %d, %v", b, l, at, e, want, wantAt, wantE)
		}
		if again, _, e2 := slot.Join(l); e == api.OK && (e2 != api.OK || !bytes.Equal(again, b)) {
			t.Errorf("All(%x) = %+v, and Join of it = %x, %v", b, l, again, e2)
		}
	})
}

// FuzzEncode: P5.1 and P5.4, for any instruction.
func FuzzEncode(f *testing.F) {
	for _, c := range encodings() {
		f.Add(c.x.Op, c.x.Reg, c.x.Dst, c.x.Src, c.x.Off, c.x.Imm)
	}
	f.Fuzz(func(t *testing.T, op int, reg bool, dst, src, off int, imm int64) {
		x := api.Ins{Op: op, Reg: reg, Dst: dst, Src: src, Off: off, Imm: imm}
		checkEncode(t, x)
		// Most numbers are none of an operation or a register: the same, with fields that are likely to be correct.
		x.Op = int(uint(op) % 86)
		x.Reg = reg && rows[x.Op].takesRegister()
		usesDst, usesSrc, usesOff, usesImm := rows[x.Op].uses(x.Reg)
		x.Dst, x.Src, x.Off = int(uint(dst)%11), int(uint(src)%11), int(int16(off))
		if !usesDst {
			x.Dst = 0
		}
		if !usesSrc {
			x.Src = 0
		}
		if !usesOff {
			x.Off = 0
		}
		if !usesImm {
			x.Imm = 0
		}
		checkEncode(t, x)
		x.Imm = int64(int32(x.Imm))
		checkEncode(t, x)
	})
}
