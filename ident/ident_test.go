package ident_test

import (
	"fmt"
	"math"
	"math/rand"
	"regexp"
	"slices"
	"strings"
	"testing"

	"slotcode/ident"
)

var (
	identifier = regexp.MustCompile(`\A[A-Za-z_.][A-Za-z0-9_.]{0,31}\z`)
	register   = regexp.MustCompile(`\Ar([0-9]|10)\z`)
	word       = regexp.MustCompile(`\A[A-Za-z0-9_.]*`)
)

// foreign are texts without a word character, of the kinds that a test of letters and digits may take for one:
// neighbours of the ranges, letters and digits of other scripts, look-alikes of ASCII, and bytes that are no UTF-8.
var foreign = []string{
	"/", ":", ";", "@", "[", "`", "{", "^", "-", "+", ",", "#", " ", "\t", "\n", "\r", "\x00", "\x7f", "\x80", "\xc1\xa1", "\xff",
	"é", "ß", "\u0660", "\uff11", "\uff41", "\uff3f", "\uff0e", "\u0131", "\u212a", "\u0161", "\u0130", "\u2024", "\ufffd", "\U0001d7ce", "\xed\xa0\x80",
}

func checkValid(t *testing.T, s string) {
	t.Helper()
	want := identifier.MatchString(s) && !register.MatchString(s)
	if got := ident.Valid(s); got != want {
		t.Errorf("Valid(%.60q) = %v; want %v", s, got, want)
	}
}

func checkWord(t *testing.T, s string) {
	t.Helper()
	want := len(word.FindString(s))
	if got := ident.Word(s); got != want {
		t.Errorf("Word(%.60q) = %d; want %d", s, got, want)
	}
}

func checkRegister(t *testing.T, s string) {
	t.Helper()
	want, wantOK := 0, register.MatchString(s)
	if wantOK {
		fmt.Sscanf(s, "r%d", &want)
	}
	if n, ok := ident.Register(s); n != want || ok != wantOK {
		t.Errorf("Register(%.60q) = %d, %v; want %d, %v", s, n, ok, want, wantOK)
	}
}

// TestValid: P2.1.
func TestValid(t *testing.T) {
	for s, want := range map[string]bool{
		"loop": true, "a.b": true, "R1": true, "r11": true, "r1": false, "1a": false, "": false, // the chapter's examples
		"a": true, "z": true, "A": true, "Z": true, "_": true, ".": true, "..": true, "_0": true, ".9": true, "a0z9": true,
		"r": true, "r0": false, "r9": false, "r10": false, "r00": true, "r01": true, "r010": true, "r100": true, "R0": true, "R10": true,
		"r1.": true, "r1_": true, "_r1": true, "r1a": true, "rr1": true, "r 1": false, " r1": false, "r1 ": false, "r-1": false,
		"0": false, "9": false, "0x1": false, "9_": false, "-a": false, "a-b": false, "a b": false, "a:": false, ":a": false,
		"map": true, "exit": true, "lookup": true, "L0": true,
		"a\n": false, "\na": false, "a\x00": false, "a\xff": false, "\xffa": false, "é": false, "aé": false, "\u0661a": false, "a\u0661": false,
	} {
		if got := ident.Valid(s); got != want {
			t.Errorf("Valid(%q) = %v; want %v", s, got, want)
		}
	}
}

// TestValidLength: P2.1, at the bound of 32 characters and far beyond it.
func TestValidLength(t *testing.T) {
	for n := range 70 {
		for _, c := range []string{"a", "Z", "_", "."} {
			if got := ident.Valid(strings.Repeat(c, n)); got != (1 <= n && n <= 32) {
				t.Errorf("Valid of %d times %s = %v", n, c, got)
			}
		}
		if ident.Valid(strings.Repeat("7", n)) {
			t.Errorf("Valid of %d digits", n)
		}
	}
	for s, want := range map[string]bool{
		strings.Repeat("a", 31) + "9": true, strings.Repeat("a", 32) + "9": false, "r1" + strings.Repeat("0", 30): true, "r1" + strings.Repeat("0", 31): false,
		strings.Repeat("a", 31) + "-": false, strings.Repeat("a", 30) + "é": false, strings.Repeat("é", 16): false, strings.Repeat("a", 256): false, strings.Repeat("a", 288): false, strings.Repeat("a", 1<<20): false,
	} {
		if got := ident.Valid(s); got != want {
			t.Errorf("Valid(%.60q) = %v; want %v", s, got, want)
		}
	}
}

// TestBytes: P2.1, P2.2 and P2.5, for all texts of up to two bytes, alone and around others.
func TestBytes(t *testing.T) {
	for x := range 256 {
		check(t, string([]byte{byte(x)}))
		for y := range 256 {
			s := string([]byte{byte(x), byte(y)})
			for _, around := range [][2]string{{"", ""}, {"r", ""}, {"", "a"}, {"a", "b"}} {
				check(t, around[0]+s+around[1])
			}
		}
	}
}

// TestRunes: P2.1 and P2.5, for all characters, at the first and at a later place.
func TestRunes(t *testing.T) {
	for r := rune(128); r <= 0x10ffff; r++ {
		s := string(r)
		if ident.Valid(s) || ident.Valid("a"+s) || ident.Word(s) != 0 || ident.Word("a"+s) != 1 || ident.Word("ab"+s+"c") != 2 {
			t.Fatalf("%U is a word character", r)
		}
	}
}

// TestForeign: P2.1, P2.2 and P2.5, for characters that are no word characters at every place of a text.
func TestForeign(t *testing.T) {
	for _, s := range foreign {
		for at := range 33 {
			text := strings.Repeat("a", at) + s + strings.Repeat("a", 3)
			if ident.Valid(text) {
				t.Errorf("Valid(%q)", text)
			}
			if got := ident.Word(text); got != at {
				t.Errorf("Word(%q) = %d; want %d", text, got, at)
			}
		}
		for n := range 11 {
			name := ident.Name(n)
			for _, text := range []string{s + name, name + s, name[:1] + s + name[1:]} {
				if got, ok := ident.Register(text); got != 0 || ok {
					t.Errorf("Register(%q) = %d, %v", text, got, ok)
				}
			}
		}
	}
}

func check(t *testing.T, s string) {
	t.Helper()
	checkValid(t, s)
	checkRegister(t, s)
	checkWord(t, s)
}

// TestRegisters: P2.2, for all registers.
func TestRegisters(t *testing.T) {
	names := []string{"r0", "r1", "r2", "r3", "r4", "r5", "r6", "r7", "r8", "r9", "r10"}
	for n, name := range names {
		if got := ident.Name(n); got != name {
			t.Errorf("Name(%d) = %q; want %q", n, got, name)
		}
		if got, ok := ident.Register(name); got != n || !ok {
			t.Errorf("Register(%q) = %d, %v; want %d, true", name, got, ok, n)
		}
	}
}

// TestNoRegisters: P2.2, for texts and numbers without a register.
func TestNoRegisters(t *testing.T) {
	for _, s := range []string{
		"", "r", "0", "10", "R0", "R10", "r00", "r01", "r010", "r000", "r11", "r12", "r19", "r20", "r99", "r100", "r1a", "ra", "rr0", "r-0", "r-1", "r+1",
		" r1", "r1 ", "r 1", "r1\n", "r1\x00", "r0x1", "r.1", "r1.", "r_1", "x0", "r1r2", "w0", "fp", "r4294967296", "r18446744073709551616", "r\u0661", "\uff521", strings.Repeat("r1", 1<<16),
	} {
		if n, ok := ident.Register(s); n != 0 || ok {
			t.Errorf("Register(%.60q) = %d, %v; want none", s, n, ok)
		}
	}
	for _, n := range []int{-1, -2, -10, -11, 11, 12, 16, 100, 256, 255, 1 << 16, 1 << 31, 1 << 32, 1<<32 + 1, -1 << 32, math.MinInt, math.MinInt + 1, math.MaxInt} {
		if name := ident.Name(n); name != "" {
			t.Errorf("Name(%d) = %q; want none", n, name)
		}
	}
}

// TestFresh: P2.3.
func TestFresh(t *testing.T) {
	for n, want := range map[int]string{
		0: "L0", 1: "L1", 9: "L9", 10: "L10", 42: "L42", 99: "L99", 100: "L100", 65535: "L65535", 1000000: "L1000000",
		1<<31 - 1: "L2147483647", 1 << 31: "L2147483648", 1<<31 + 1: "", 1<<32 - 1: "", 1 << 32: "", 1<<32 + 1: "", 1 << 62: "",
		-1: "", -2: "", -1 << 31: "", -1<<31 - 1: "", -1 << 32: "", -1<<32 + 1: "", math.MaxInt: "", math.MinInt: "", math.MinInt + 1: "",
	} {
		if got := ident.Fresh(n); got != want {
			t.Errorf("Fresh(%d) = %q; want %q", n, got, want)
		}
	}
}

// TestFreshDiffers: P2.6.
func TestFreshDiffers(t *testing.T) {
	seen := map[string]int{}
	see := func(n int) {
		s := ident.Fresh(n)
		if !ident.Valid(s) {
			t.Fatalf("Fresh(%d) = %q is no identifier", n, s)
		}
		if m, ok := seen[s]; ok && m != n {
			t.Fatalf("Fresh(%d) = Fresh(%d) = %q", m, n, s)
		}
		seen[s] = n
	}
	for n := range 70000 {
		see(n)
	}
	for bit := range 32 {
		for d := -100; d <= 100; d++ {
			if n := 1<<bit + d; 0 <= n && n <= 1<<31 {
				see(n)
			}
		}
	}
	for power := 1; power <= 1<<31; power *= 10 {
		see(power - 1)
		see(power)
	}
	random := rand.New(rand.NewSource(1))
	for range 100000 {
		see(int(random.Int63n(1<<31 + 1)))
	}
}

// TestRepeated: P2.4.
func TestRepeated(t *testing.T) {
	for i, c := range []struct {
		list []string
		want int
	}{
		{nil, -1}, {[]string{}, -1}, {[]string{""}, -1}, {[]string{"a"}, -1}, {[]string{"a", "a"}, 1}, {[]string{"", ""}, 1}, {[]string{"a", "b"}, -1},
		{[]string{"a", "b", "a"}, 2}, {[]string{"a", "b", "b"}, 2}, {[]string{"a", "b", "b", "a"}, 2}, {[]string{"a", "b", "c", "b", "a", "a"}, 3}, {[]string{"a", "a", "a"}, 1},
		{[]string{"", "a", ""}, 2}, {[]string{"a", ""}, -1}, {[]string{"a", "A", "a ", " a", "aa", "a\x00", "\x00a"}, -1}, {[]string{"\xff", "\xfe", "\ufffd", "\x80"}, -1}, {[]string{"\xff", "\xfe", "\xff"}, 2},
		{[]string{"e\u0301", "\u00e9"}, -1}, {[]string{"r1", "1a", "r1"}, 2}, {[]string{strings.Repeat("a", 1000), strings.Repeat("a", 999), strings.Repeat("a", 1000)}, 2},
	} {
		before := slices.Clone(c.list)
		if got := ident.Repeated(c.list); got != c.want {
			t.Errorf("%d: Repeated(%.60q) = %d; want %d", i, c.list, got, c.want)
		}
		if !slices.Equal(c.list, before) {
			t.Errorf("%d: Repeated changed its argument to %.60q", i, c.list)
		}
	}
}

// repeated says what the chapter requires of Repeated, by comparing all pairs.
func repeated(l []string) int {
	for i, s := range l {
		if slices.Contains(l[:i], s) {
			return i
		}
	}
	return -1
}

// TestRepeatedLists: P2.4, for all lists of up to five of four texts, and for parts of longer lists.
func TestRepeatedLists(t *testing.T) {
	texts := []string{"a", "b", "", "aa"}
	lists := [][]string{nil}
	for range 5 {
		for _, l := range slices.Clone(lists) {
			for _, s := range texts {
				lists = append(lists, append(slices.Clone(l), s))
			}
		}
	}
	for _, l := range lists {
		for end := range len(l) + 1 {
			if got, want := ident.Repeated(l[:end]), repeated(l[:end]); got != want {
				t.Fatalf("Repeated(%q) = %d; want %d", l[:end], got, want)
			}
		}
	}
}

// TestRepeatedLong: P2.4. Comparing all pairs of the list would take too long.
func TestRepeatedLong(t *testing.T) {
	l := make([]string, 300000)
	for i := range l {
		l[i] = ident.Fresh(i)
	}
	if got := ident.Repeated(l); got != -1 {
		t.Errorf("Repeated = %d; want -1", got)
	}
	last := len(l) - 1
	l[last] = l[0]
	if got := ident.Repeated(l); got != last {
		t.Errorf("Repeated = %d; want %d", got, last)
	}
	l[last-1] = l[last-2]
	if got := ident.Repeated(l); got != last-1 {
		t.Errorf("Repeated = %d; want %d", got, last-1)
	}
	if got := ident.Repeated(l); got != last-1 {
		t.Errorf("Repeated of the same list = %d; want %d", got, last-1)
	}
}

// TestWord: P2.5.
func TestWord(t *testing.T) {
	for s, want := range map[string]int{
		"": 0, " ": 0, "a": 1, "1": 1, "_": 1, ".": 1, "loop: exit": 4, ":loop": 0, " loop": 0, "add64 r1": 5, "r10,": 3, "0x7f]": 4, "-5": 0, "a.b_c-d": 5,
		"AZaz09_.": 8, "a\n": 1, "a\tb": 1, "ab\x00c": 2, "ab\xffc": 2, "é": 0, "aéb": 1, "12345é": 5, "a;b": 1, "a#b": 1, "a+b": 1, "[r1]": 0, "1a": 2, "r1": 2,
		strings.Repeat("a", 32): 32, strings.Repeat("a", 33): 33, strings.Repeat("9", 1000) + ",": 1000, strings.Repeat("a_.9", 1<<18): 1 << 20, strings.Repeat("a ", 1<<18): 1,
	} {
		if got := ident.Word(s); got != want {
			t.Errorf("Word(%.60q) = %d; want %d", s, got, want)
		}
	}
}

func FuzzIdent(f *testing.F) {
	for _, s := range []string{"", "r1", "r10", "r11", "loop", "a.b", "1a", "aé", "\xff", strings.Repeat("a", 32), strings.Repeat("_", 33)} {
		f.Add(s)
	}
	f.Fuzz(func(t *testing.T, s string) {
		check(t, s)
		l := strings.Split(s, "a")
		if got, want := ident.Repeated(l), repeated(l); got != want {
			t.Errorf("Repeated(%q) = %d; want %d", l, got, want)
		}
	})
}
