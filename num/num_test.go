package num_test

import (
	"bytes"
	"fmt"
	"math"
	"math/big"
	"regexp"
	"strings"
	"testing"

	"slotcode/api"
	"slotcode/num"
)

var widths = []int{8, 16, 32, 64}

// noWidths are neighbours and negatives of widths, and numbers that a shift would take badly.
var noWidths = []int{0, 1, -1, 7, 9, 12, 15, 17, 24, 31, 33, 63, 65, 128, 256, -8, -16, -32, -64, math.MinInt, math.MaxInt}

var numeral = regexp.MustCompile(`\A-?([0-9]+|0x[0-9a-fA-F]+)\z`)

// parsed says what the chapter requires of Parse, with numbers of any size.
func parsed(s string, width int) (int64, api.Errno) {
	if !numeral.MatchString(s) {
		return 0, api.ErrNumber
	}
	base, digits := 10, s
	if strings.Contains(s, "0x") {
		base, digits = 16, strings.Replace(s, "0x", "", 1)
	}
	x, ok := new(big.Int).SetString(digits, base)
	if !ok {
		panic("no number: " + s)
	}
	isWidth := false
	for _, w := range widths {
		isWidth = isWidth || w == width
	}
	if !isWidth {
		return 0, api.ErrRange
	}
	all := power(width)
	half := power(width - 1)
	if x.Cmp(new(big.Int).Neg(half)) < 0 || x.Cmp(all) >= 0 {
		return 0, api.ErrRange
	}
	if x.Cmp(half) >= 0 {
		x.Sub(x, all)
	}
	return x.Int64(), api.OK
}

func power(n int) *big.Int { return new(big.Int).Lsh(big.NewInt(1), uint(n)) }

func checkParse(t *testing.T, s string, width int) {
	t.Helper()
	wantX, wantE := parsed(s, width)
	if x, e := num.Parse(s, width); x != wantX || e != wantE {
		t.Errorf("Parse(%.60q, %d) = %d, %v; want %d, %v", s, width, x, e, wantX, wantE)
	}
}

// writings returns numerals of x: in both bases, with both cases and leading zeros.
func writings(x *big.Int) []string {
	sign := ""
	if x.Sign() < 0 {
		sign = "-"
	}
	size := new(big.Int).Abs(x)
	decimal, hex := size.Text(10), size.Text(16)
	return []string{
		sign + decimal, sign + "000" + decimal,
		sign + "0x" + hex, sign + "0x" + strings.ToUpper(hex), sign + "0x0000" + hex,
		sign + strings.Repeat("0", 100) + decimal, sign + "0x" + strings.Repeat("0", 100) + hex,
	}
}

// around returns the numbers next to all bounds of all widths, on both sides of 0.
func around() []*big.Int {
	var l []*big.Int
	for n := 0; n <= 66; n++ {
		for d := int64(-2); d <= 2; d++ {
			x := new(big.Int).Add(power(n), big.NewInt(d))
			l = append(l, x, new(big.Int).Neg(x))
		}
	}
	for _, n := range []int{127, 128, 255, 256, 1000} {
		l = append(l, power(n), new(big.Int).Neg(power(n)))
	}
	return l
}

func edges() []int64 {
	l := []int64{math.MinInt64, math.MaxInt64}
	for n := range 64 {
		for d := int64(-2); d <= 2; d++ {
			l = append(l, int64(1)<<n+d, -(int64(1)<<n)+d)
		}
	}
	return l
}

// TestParseLiterally states results of P1.1 without the model, so that an error of the model is seen.
func TestParseLiterally(t *testing.T) {
	for _, c := range []struct {
		s    string
		bits int
		x    int64
		e    api.Errno
	}{
		{"0", 8, 0, api.OK}, {"-0", 8, 0, api.OK}, {"-0x0", 64, 0, api.OK}, {"00", 16, 0, api.OK},
		{"65535", 16, -1, api.OK}, {"0xFFFF", 16, -1, api.OK}, {"-1", 16, -1, api.OK}, {"65536", 16, 0, api.ErrRange},
		{"127", 8, 127, api.OK}, {"128", 8, -128, api.OK}, {"255", 8, -1, api.OK}, {"256", 8, 0, api.ErrRange},
		{"-128", 8, -128, api.OK}, {"-129", 8, 0, api.ErrRange}, {"-0x80", 8, -128, api.OK}, {"-0x81", 8, 0, api.ErrRange}, {"-255", 8, 0, api.ErrRange},
		{"-32768", 16, -32768, api.OK}, {"-32769", 16, 0, api.ErrRange},
		{"4294967295", 32, -1, api.OK}, {"4294967296", 32, 0, api.ErrRange}, {"2147483648", 32, math.MinInt32, api.OK}, {"-2147483648", 32, math.MinInt32, api.OK}, {"-2147483649", 32, 0, api.ErrRange},
		{"9223372036854775807", 64, math.MaxInt64, api.OK}, {"9223372036854775808", 64, math.MinInt64, api.OK}, {"18446744073709551615", 64, -1, api.OK}, {"18446744073709551616", 64, 0, api.ErrRange},
		{"-9223372036854775808", 64, math.MinInt64, api.OK}, {"-9223372036854775809", 64, 0, api.ErrRange}, {"-18446744073709551615", 64, 0, api.ErrRange},
		{"0xffffffffffffffff", 64, -1, api.OK}, {"0x10000000000000000", 64, 0, api.ErrRange},
		{"0xaBcD", 32, 0xABCD, api.OK}, {"0x10", 8, 16, api.OK}, {"010", 8, 10, api.OK}, {"-0x10", 8, -16, api.OK},
	} {
		if x, e := num.Parse(c.s, c.bits); x != c.x || e != c.e {
			t.Errorf("Parse(%q, %d) = %d, %v; want %d, %v", c.s, c.bits, x, e, c.x, c.e)
		}
	}
}

// TestParseRanges: P1.1, at all bounds.
func TestParseRanges(t *testing.T) {
	for _, x := range around() {
		for _, s := range writings(x) {
			for _, width := range widths {
				checkParse(t, s, width)
			}
		}
	}
}

// TestParseRejectsOtherTexts: P1.1 and P1.5, ErrNumber for all numbers of bits.
func TestParseRejectsOtherTexts(t *testing.T) {
	for _, s := range []string{
		"", "-", "--1", "-+1", "+1", "+", "0x", "-0x", "0X1", "-0X1", "x", "x1", "0x-1", "1-", "1 ", " 1", "- 1", "1\n", "\t1", "1\x00",
		"a", "f", "1a", "1f", "12A", "0xg", "0xG", "0x1g", "00x1", "10x1", "0x0x1", "0b1", "0o7", "1_000", "0x_1", "1.0", "1e3", "1,0",
		"٣", "0x٣", "１", "1１", "𝟙", "é", "1é", "\xff", "1\xff", "\xc3", "0x\xed\xa0\x80", "ａ", "0xａ",
	} {
		for _, width := range append(widths, noWidths...) {
			if x, e := num.Parse(s, width); x != 0 || e != api.ErrNumber {
				t.Errorf("Parse(%q, %d) = %d, %v; want 0, %v", s, width, x, e, api.ErrNumber)
			}
		}
	}
}

// TestParseShortTexts (P1.1) visits all texts of up to two bytes, and of a third character that is special somewhere.
func TestParseShortTexts(t *testing.T) {
	for a := range 256 {
		checkParse(t, string([]byte{byte(a)}), 8)
		for b := range 256 {
			checkParse(t, string([]byte{byte(a), byte(b)}), 8)
			checkParse(t, string([]byte{'0', 'x', byte(a), byte(b)}), 8)
		}
	}
	alphabet := "-+x09afgAFG/:@` "
	for _, a := range alphabet {
		for _, b := range alphabet {
			for _, c := range alphabet {
				for _, d := range alphabet {
					checkParse(t, string([]rune{a, b, c, d}), 16)
				}
			}
		}
	}
}

// TestParseLongTexts (P1.1) finds sizes that wrap around, and wrong digits behind a number that is too large already.
func TestParseLongTexts(t *testing.T) {
	const n = 1 << 12
	for _, s := range []string{
		strings.Repeat("0", n), "-" + strings.Repeat("0", n) + "7", "0x" + strings.Repeat("0", n) + "7F",
		strings.Repeat("9", n), "-" + strings.Repeat("9", n), "0x" + strings.Repeat("f", n), "1" + strings.Repeat("0", n), "0x1" + strings.Repeat("0", n), "-0x1" + strings.Repeat("0", n),
		strings.Repeat("9", n) + "x", strings.Repeat("9", n) + "a", "0x" + strings.Repeat("f", n) + "g", strings.Repeat("9", n) + "-",
	} {
		for _, width := range widths {
			checkParse(t, s, width)
		}
	}
	if x, e := num.Parse(strings.Repeat("0", 1<<22)+"5", 8); x != 5 || e != api.OK {
		t.Error(x, e)
	}
}

// TestFormat: P1.1.
func TestFormat(t *testing.T) {
	for x, want := range map[int64]string{0: "0", 7: "7", -7: "-7", 10: "10", -100: "-100", math.MaxInt64: "9223372036854775807", math.MinInt64: "-9223372036854775808"} {
		if got := num.Format(x); got != want {
			t.Errorf("Format(%d) = %q", x, got)
		}
	}
	for _, x := range edges() {
		if got, want := num.Format(x), big.NewInt(x).String(); got != want {
			t.Errorf("Format(%d) = %q", x, got)
		}
	}
}

// TestHex: P1.2.
func TestHex(t *testing.T) {
	if got := num.Hex(nil) + num.Hex([]byte{}); got != "" {
		t.Errorf("Hex of nothing = %q", got)
	}
	if got := num.Hex([]byte{0, 1, 0x10, 0xab, 0xff}); got != "000110abff" {
		t.Errorf("Hex = %q", got)
	}
	var all []byte
	for x := range 256 {
		all = append(all, byte(x))
		if got, want := num.Hex([]byte{byte(x)}), fmt.Sprintf("%02x", x); got != want {
			t.Errorf("Hex(%d) = %q", x, got)
		}
	}
	if got, want := num.Hex(all), fmt.Sprintf("%x", all); got != want {
		t.Errorf("Hex = %q", got)
	}
	// The rest of the memory of a slice does not matter.
	if got := num.Hex(all[:2]); got != "0001" {
		t.Errorf("Hex of a part = %q", got)
	}
}

// TestUnhex: P1.2.
func TestUnhex(t *testing.T) {
	for s, want := range map[string][]byte{"": nil, "00": {0}, "ff": {255}, "0a1b": {10, 27}, "c0ffee": {0xc0, 0xff, 0xee}} {
		if b, e := num.Unhex(s); !bytes.Equal(b, want) || e != api.OK {
			t.Errorf("Unhex(%q) = %v, %v", s, b, e)
		}
	}
	for _, s := range []string{
		"0", "000", "0g", "g0", "AB", "aB", "Ab", "0x", "0x10", " 00", "00 ", "0 ", "00\n", "\n0", "-1", "00gg", "gg00", "000g", "00000",
		"é", "ff\xff\xff", "٣", "ａ0", "\x00\x00", "0\x00", "00é00",
	} {
		if b, e := num.Unhex(s); len(b) != 0 || e != api.ErrNumber {
			t.Errorf("Unhex(%q) = %v, %v; want nothing, %v", s, b, e, api.ErrNumber)
		}
	}
	lower := regexp.MustCompile(`\A[0-9a-f]{2}\z`)
	for a := range 256 {
		for c := range 256 {
			s := string([]byte{byte(a), byte(c)})
			b, e := num.Unhex(s)
			if lower.MatchString(s) {
				if e != api.OK || len(b) != 1 || fmt.Sprintf("%02x", b[0]) != s {
					t.Errorf("Unhex(%q) = %v, %v", s, b, e)
				}
			} else if e != api.ErrNumber || len(b) != 0 {
				t.Errorf("Unhex(%q) = %v, %v", s, b, e)
			}
		}
	}
}

// TestBytesAreIndependent: rule 4, arguments are not modified and results share no memory.
func TestBytesAreIndependent(t *testing.T) {
	b := []byte{1, 2, 3}
	text := num.Hex(b)
	if !bytes.Equal(b, []byte{1, 2, 3}) {
		t.Errorf("Hex changed its argument to %v", b)
	}
	b[0] = 9
	first, _ := num.Unhex(text)
	first[0] = 9
	second, _ := num.Unhex(text)
	if text != "010203" || !bytes.Equal(second, []byte{1, 2, 3}) {
		t.Errorf("%q, %v", text, second)
	}
}

// TestExtend: P1.3.
func TestExtend(t *testing.T) {
	for _, c := range []struct {
		x    uint64
		bits int
		want int64
	}{
		{0, 8, 0}, {0x7f, 8, 127}, {0x80, 8, -128}, {0xff, 8, -1}, {0x100, 8, 0}, {0x1ff, 8, -1}, {0xffffffffffffff7f, 8, 127},
		{0x7fff, 16, 32767}, {0x8000, 16, -32768}, {0x18000, 16, -32768}, {0xffffffffffff7fff, 16, 32767},
		{0x7fffffff, 32, math.MaxInt32}, {0x80000000, 32, math.MinInt32}, {0xffffffff7fffffff, 32, math.MaxInt32}, {0x1ffffffff, 32, -1},
		{1<<63 - 1, 64, math.MaxInt64}, {1 << 63, 64, math.MinInt64}, {math.MaxUint64, 64, -1},
	} {
		if got := num.Extend(c.x, c.bits); got != c.want {
			t.Errorf("Extend(%#x, %d) = %d; want %d", c.x, c.bits, got, c.want)
		}
	}
	for _, x := range edges() {
		for width, want := range map[int]int64{8: int64(int8(x)), 16: int64(int16(x)), 32: int64(int32(x)), 64: x} {
			if got := num.Extend(uint64(x), width); got != want {
				t.Errorf("Extend(%#x, %d) = %d; want %d", uint64(x), width, got, want)
			}
		}
	}
}

// TestFits: P1.4.
func TestFits(t *testing.T) {
	for _, c := range []struct {
		x    int64
		bits int
		want bool
	}{
		{0, 8, true}, {-1, 8, true}, {127, 8, true}, {128, 8, false}, {255, 8, false}, {256, 8, false}, {-128, 8, true}, {-129, 8, false},
		{32767, 16, true}, {32768, 16, false}, {65535, 16, false}, {-32768, 16, true}, {-32769, 16, false},
		{math.MaxInt32, 32, true}, {math.MaxInt32 + 1, 32, false}, {math.MaxUint32, 32, false}, {math.MinInt32, 32, true}, {math.MinInt32 - 1, 32, false},
		{math.MaxInt64, 64, true}, {math.MinInt64, 64, true}, {math.MaxInt64, 32, false}, {math.MinInt64, 32, false}, {math.MinInt64, 8, false},
	} {
		if got := num.Fits(c.x, c.bits); got != c.want {
			t.Errorf("Fits(%d, %d) = %v", c.x, c.bits, got)
		}
	}
	for _, x := range edges() {
		for _, width := range widths {
			half := power(width - 1)
			n := big.NewInt(x)
			want := n.Cmp(new(big.Int).Neg(half)) >= 0 && n.Cmp(half) < 0
			if got := num.Fits(x, width); got != want {
				t.Errorf("Fits(%d, %d) = %v", x, width, got)
			}
		}
	}
}

// TestOtherNumbersOfBits: P1.5.
func TestOtherNumbersOfBits(t *testing.T) {
	for _, n := range noWidths {
		for _, s := range []string{"0", "-0", "1", "-1", "0xff", "18446744073709551616", strings.Repeat("9", 99)} {
			if x, e := num.Parse(s, n); x != 0 || e != api.ErrRange {
				t.Errorf("Parse(%q, %d) = %d, %v; want 0, %v", s, n, x, e, api.ErrRange)
			}
		}
		for _, x := range edges() {
			if got := num.Extend(uint64(x), n); got != 0 {
				t.Errorf("Extend(%d, %d) = %d", uint64(x), n, got)
			}
			if num.Fits(x, n) {
				t.Errorf("Fits(%d, %d)", x, n)
			}
		}
	}
	for n := -300; n <= 300; n++ {
		_, e := num.Parse("1", n)
		want := n == 8 || n == 16 || n == 32 || n == 64
		if (e == api.OK) != want || num.Fits(1, n) != want || (num.Extend(1, n) == 1) != want {
			t.Errorf("%d bits: %v, %v, %d", n, e, num.Fits(1, n), num.Extend(1, n))
		}
	}
}

// TestInverses: P1.6.
func TestInverses(t *testing.T) {
	for _, x := range edges() {
		if got, e := num.Parse(num.Format(x), 64); got != x || e != api.OK {
			t.Errorf("Parse(Format(%d)) = %d, %v", x, got, e)
		}
	}
	var b []byte
	for x := range 600 {
		if got, e := num.Unhex(num.Hex(b)); !bytes.Equal(got, b) || e != api.OK {
			t.Errorf("Unhex(Hex(%v)) = %v, %v", b, got, e)
		}
		b = append(b, byte(x*7))
	}
}

func FuzzParse(f *testing.F) {
	f.Add("-0x8000", 16)
	f.Add("18446744073709551616", 64)
	f.Add("1é", 8)
	f.Fuzz(func(t *testing.T, s string, width int) {
		checkParse(t, s, width)
		for _, w := range widths {
			checkParse(t, s, w)
		}
	})
}

func FuzzInverses(f *testing.F) {
	f.Add(int64(-1), []byte{0, 255}, "0aFf")
	f.Fuzz(func(t *testing.T, x int64, b []byte, s string) {
		if got, e := num.Parse(num.Format(x), 64); got != x || e != api.OK {
			t.Errorf("Parse(Format(%d)) = %d, %v", x, got, e)
		}
		if got, e := num.Unhex(num.Hex(b)); !bytes.Equal(got, b) || e != api.OK {
			t.Errorf("Unhex(Hex(%v)) = %v, %v", b, got, e)
		}
		if got, e := num.Unhex(s); e == api.OK && num.Hex(got) != s || e != api.OK && len(got) != 0 {
			t.Errorf("Unhex(%q) = %v, %v", s, got, e)
		}
	})
}
