package lex_test

import (
	"fmt"
	"slices"
	"strings"
	"sync"
	"testing"

	"slotcode/api"
	"slotcode/lex"
)

const (
	wordBytes = "ABCDEFGHIJKLMNOPQRSTUVWXYZabcdefghijklmnopqrstuvwxyz0123456789_."
	markBytes = ",[]+-:"
	spaces    = " \t\r"
	comments  = ";#"
)

// wrong are texts of wrong bytes, of the kinds that a test of characters may take for others: neighbours of the ranges, letters, digits,
// spaces and marks of other scripts, look-alikes of ASCII, characters that are equal to others in their last 8 or 16 bits, and bytes that are no UTF-8.
var wrong = []string{
	"\n", "\x00", "\x0b", "\x0c", "\x1f", "!", "\"", "$", "%", "&", "'", "(", ")", "*", "/", "<", "=", ">", "?", "@", "\\", "^", "`", "{", "|", "}", "~", "\x7f",
	"\x80", "\x85", "\xa0", "\xc1\xa1", "\xff", "\xed\xa0\x80", "\xe2\x80", "\u0085", "\u00a0", "\u2028", "\u3000", "\ufeff", "\u00ad", "\u2212", "\u2010", "\uff0c", "\uff1a", "\uff1b", "\uff03", "\uff3b", "\ufe5d",
	"\u037e", "é", "ß", "\u0660", "\uff11", "\uff41", "\uff3f", "\uff0e", "\u0131", "\u212a", "\u2024", "\ufffd", "\U0001d7ce", "\u0120", "\u013b", "\u0123", "\u012c", "\u0161", "\U0001002c", "\U0001003b", "\U00010020",
}

// tokens says what the chapter requires of Tokens, byte by byte.
func tokens(line string) ([]lex.Tok, int, api.Errno) {
	var l []lex.Tok
	for at := 0; at < len(line); {
		end := at
		for end < len(line) && strings.IndexByte(wordBytes, line[end]) >= 0 {
			end++
		}
		c := line[at]
		switch {
		case strings.IndexByte(comments, c) >= 0:
			return l, 0, api.OK
		case strings.IndexByte(spaces, c) >= 0:
			at++
			continue
		case strings.IndexByte(markBytes, c) >= 0:
			end = at + 1
		case end == at:
			return nil, at, api.ErrSyntax
		}
		l = append(l, lex.Tok{Text: line[at:end], At: at})
		at = end
	}
	return l, 0, api.OK
}

// shape says what the chapter requires of Shape and Words.
func shape(l []lex.Tok) (string, []string) {
	var letters []string
	var words []string
	for _, x := range l {
		if len(x.Text) == 1 && strings.Contains(markBytes, x.Text) {
			letters = append(letters, x.Text)
			continue
		}
		letters = append(letters, "w")
		words = append(words, x.Text)
	}
	return strings.Join(letters, ""), words
}

// short returns the beginning of the text of a value, which may be long.
func short(value any) string {
	s := fmt.Sprintf("%q", value)
	if len(s) > 200 {
		return s[:200] + "…"
	}
	return s
}

// texts returns the texts of tokens.
func texts(l []lex.Tok) []string {
	var all []string
	for _, x := range l {
		all = append(all, x.Text)
	}
	return all
}

func checkTokens(t *testing.T, line string) {
	t.Helper()
	want, wantAt, wantError := tokens(line)
	l, at, e := lex.Tokens(line)
	if !slices.Equal(l, want) || at != wantAt || e != wantError {
		t.Errorf("Tokens(%.60q) = %s, %d, %v; want %s, %d, %v", line, short(l), at, e, short(want), wantAt, wantError)
	}
	if e == api.OK {
		checkShape(t, l)
		checkAgain(t, l)
	}
}

func checkShape(t *testing.T, l []lex.Tok) {
	t.Helper()
	before := slices.Clone(l)
	want, wantWords := shape(l)
	if got := lex.Shape(l); got != want {
		t.Errorf("Shape(%s) = %.60q; want %.60q", short(l), got, want)
	}
	if got := lex.Words(l); !slices.Equal(got, wantWords) {
		t.Errorf("Words(%s) = %s; want %s", short(l), short(got), short(wantWords))
	}
	if !slices.Equal(l, before) {
		t.Errorf("the argument %s was changed to %s", short(before), short(l))
	}
}

// checkAgain: P8.4.
func checkAgain(t *testing.T, l []lex.Tok) {
	t.Helper()
	line := strings.Join(texts(l), " ")
	again, at, e := lex.Tokens(line)
	if !slices.Equal(texts(again), texts(l)) || at != 0 || e != api.OK {
		t.Errorf("the tokens of %.60q are %s, %d, %v; want the texts of %s", line, short(again), at, e, short(l))
	}
	if got, want := lex.Shape(again), lex.Shape(l); got != want {
		t.Errorf("the shape of %.60q is %.60q; want %.60q", line, got, want)
	}
}

// TestTokens: P8.1 and P8.2, with all results written out.
func TestTokens(t *testing.T) {
	for _, c := range []struct {
		line   string
		tokens []lex.Tok
		shape  string
		words  []string
	}{
		{"x: add64 r1, -5 ; five", []lex.Tok{{"x", 0}, {":", 1}, {"add64", 3}, {"r1", 9}, {",", 11}, {"-", 13}, {"5", 14}}, "w:ww,-w", []string{"x", "add64", "r1", "5"}}, // the chapter's example
		{"", nil, "", nil},
		{" \t\r ", nil, "", nil},
		{";", nil, "", nil},
		{"#", nil, "", nil},
		{" # a ; b", nil, "", nil},
		{"exit", []lex.Tok{{"exit", 0}}, "w", []string{"exit"}},
		{"  exit\r", []lex.Tok{{"exit", 2}}, "w", []string{"exit"}},
		{"exit;exit", []lex.Tok{{"exit", 0}}, "w", []string{"exit"}},
		{"exit#exit", []lex.Tok{{"exit", 0}}, "w", []string{"exit"}},
		{"a b\tc\rd", []lex.Tok{{"a", 0}, {"b", 2}, {"c", 4}, {"d", 6}}, "wwww", []string{"a", "b", "c", "d"}},
		{",[]+-:", []lex.Tok{{",", 0}, {"[", 1}, {"]", 2}, {"+", 3}, {"-", 4}, {":", 5}}, ",[]+-:", nil},
		{"::", []lex.Tok{{":", 0}, {":", 1}}, "::", nil},
		{"--5", []lex.Tok{{"-", 0}, {"-", 1}, {"5", 2}}, "--w", []string{"5"}},
		{"a,b", []lex.Tok{{"a", 0}, {",", 1}, {"b", 2}}, "w,w", []string{"a", "b"}},
		{"ldxb r0,[r10-0x1]", []lex.Tok{{"ldxb", 0}, {"r0", 5}, {",", 7}, {"[", 8}, {"r10", 9}, {"-", 12}, {"0x1", 13}, {"]", 16}}, "ww,[w-w]", []string{"ldxb", "r0", "r10", "0x1"}},
		{"stw [r1+4], 7", []lex.Tok{{"stw", 0}, {"[", 4}, {"r1", 5}, {"+", 7}, {"4", 8}, {"]", 9}, {",", 10}, {"7", 12}}, "w[w+w],w", []string{"stw", "r1", "4", "7"}},
		{"map counts 4 8 16", []lex.Tok{{"map", 0}, {"counts", 4}, {"4", 11}, {"8", 13}, {"16", 15}}, "wwwww", []string{"map", "counts", "4", "8", "16"}},
		{"a w w", []lex.Tok{{"a", 0}, {"w", 2}, {"w", 4}}, "www", []string{"a", "w", "w"}},
		{"AZaz09_.", []lex.Tok{{"AZaz09_.", 0}}, "w", []string{"AZaz09_."}},
		{"1a .. _", []lex.Tok{{"1a", 0}, {"..", 3}, {"_", 6}}, "www", []string{"1a", "..", "_"}},
		{"5;\n", []lex.Tok{{"5", 0}}, "w", []string{"5"}},
		{"5#é\xff\x00\n@\n6", []lex.Tok{{"5", 0}}, "w", []string{"5"}},
	} {
		l, at, e := lex.Tokens(c.line)
		if !slices.Equal(l, c.tokens) || at != 0 || e != api.OK {
			t.Errorf("Tokens(%q) = %v, %d, %v; want %v", c.line, l, at, e, c.tokens)
		}
		if got := lex.Shape(c.tokens); got != c.shape {
			t.Errorf("Shape of %q = %q; want %q", c.line, got, c.shape)
		}
		if got := lex.Words(c.tokens); !slices.Equal(got, c.words) {
			t.Errorf("Words of %q = %q; want %q", c.line, got, c.words)
		}
		checkTokens(t, c.line)
	}
}

// TestWrong: P8.1, for lines with wrong bytes.
func TestWrong(t *testing.T) {
	for line, want := range map[string]int{
		"@": 0, "a@": 1, "a @": 2, " \t\r@": 3, "\n": 0, "exit\n": 4, "exit\r\n": 5, "\nexit": 0, "a\n;": 1, "a\nb": 1, "@;": 0, "a @ # c": 2, "[r1*4]": 3, "a: (": 3,
		"r1, $5": 4, "a=b": 1, "x\x00": 1, "\xff": 0, "ab\xff": 2, "é": 0, "aé": 1, "abé": 2, "@@": 0, "a@b@c": 1, "é@": 0, "\"a\"": 0, "a/b": 1, "a // b": 2, "'": 0, "\xc3": 0, "\xa9": 0, "\ufeffexit": 0,
		", \u00a0": 2, "-\u22125": 1, strings.Repeat("a", 1000) + "!": 1000, strings.Repeat(" ", 1000) + "!": 1000, strings.Repeat(":", 1000) + "!": 1000,
	} {
		if l, at, e := lex.Tokens(line); len(l) != 0 || at != want || e != api.ErrSyntax {
			t.Errorf("Tokens(%.60q) = %s, %d, %v; want nothing, %d, %v", line, short(l), at, e, want, api.ErrSyntax)
		}
	}
}

// TestWrongPlaces: P8.1, for wrong bytes at every place of a line, and in its comment, where nothing is wrong.
func TestWrongPlaces(t *testing.T) {
	const line, comment = "a: ldxdw\tr1,[r2-8]\r", ";,# a"
	for _, bad := range wrong {
		for at := range len(line) + 1 {
			if l, got, e := lex.Tokens(line[:at] + bad + line[at:]); len(l) != 0 || got != at || e != api.ErrSyntax {
				t.Errorf("Tokens with %q at %d = %v, %d, %v", bad, at, l, got, e)
			}
		}
		want, _, _ := lex.Tokens(line)
		for at := 1; at <= len(comment); at++ {
			if l, got, e := lex.Tokens(line + comment[:at] + bad + comment[at:]); !slices.Equal(l, want) || got != 0 || e != api.OK {
				t.Errorf("Tokens with %q at %d of a comment = %v, %d, %v; want %v", bad, at, l, got, e, want)
			}
		}
	}
}

// TestBytes: P8.1, for all texts of up to two bytes, alone and around others.
func TestBytes(t *testing.T) {
	for x := range 256 {
		if checkTokens(t, string([]byte{byte(x)})); t.Failed() {
			return
		}
		for y := range 256 {
			s := string([]byte{byte(x), byte(y)})
			for _, line := range []string{s, "a" + s, s + "b", "a" + s + "b", "a " + s + " b", "," + s + ",", ";" + s, "a" + s[:1] + "b" + s[1:] + "c"} {
				checkTokens(t, line)
			}
		}
	}
}

// TestRunes: P8.1, for all characters beyond ASCII, which are wrong outside of comments.
func TestRunes(t *testing.T) {
	for r := rune(128); r <= 0x10ffff; r++ {
		s := string(r)
		for _, c := range []struct {
			line string
			at   int
		}{{s, 0}, {"a" + s, 1}, {"a, " + s + "b", 3}} {
			if l, at, e := lex.Tokens(c.line); len(l) != 0 || at != c.at || e != api.ErrSyntax {
				t.Fatalf("Tokens(%q) = %v, %d, %v", c.line, l, at, e)
			}
		}
		if l, at, e := lex.Tokens("a;" + s); len(l) != 1 || at != 0 || e != api.OK {
			t.Fatalf("Tokens with %U in a comment = %v, %d, %v", r, l, at, e)
		}
	}
}

// TestShortLines: P8.1, P8.2 and P8.4, for all lines of up to four parts.
func TestShortLines(t *testing.T) {
	parts := []string{"a", "9", "_.", " ", "\t", "\r", ";", "#", ",", "[", "]", "+", "-", ":", "\n", "é", "\xff"}
	lines := []string{""}
	for range 4 {
		var longer []string
		for _, line := range lines {
			for _, part := range parts {
				longer = append(longer, line+part)
			}
		}
		for _, line := range longer {
			if checkTokens(t, line); t.Failed() {
				return
			}
		}
		lines = longer
	}
}

// TestParts: P8.2, for all parts of a list of tokens. What lies behind a part must not be read (rule 4).
func TestParts(t *testing.T) {
	for _, line := range []string{"a: b: jeq32 r1, -5, end", "stxdw [r10-8], r1", "map m 4 8 16", "w w:w,w", "+-[],:", "-,-,w"} {
		l, _, e := lex.Tokens(line)
		if e != api.OK {
			t.Fatalf("Tokens(%q): %v", line, e)
		}
		for end := range len(l) + 1 {
			for start := range end + 1 {
				checkShape(t, l[start:end])
			}
		}
	}
	if got := lex.Shape(nil); got != "" {
		t.Errorf("Shape of nothing = %q", got)
	}
	if got := lex.Words([]lex.Tok{}); len(got) != 0 {
		t.Errorf("Words of nothing = %q", got)
	}
}

// TestNoTokens: P1, lists that Tokens never returns do not make Shape and Words panic.
func TestNoTokens(t *testing.T) {
	l := []lex.Tok{{}, {Text: "", At: -1}, {Text: "é", At: 1 << 62}, {Text: "\xff"}, {Text: "a b"}, {Text: " a"}, {Text: ",,"}, {Text: ";a"}}
	for end := range len(l) + 1 {
		lex.Shape(l[:end])
		lex.Words(l[:end])
	}
}

// TestLong: P8.1, P8.2 and P8.4, for lines that take too long if a part of them is visited for each token.
func TestLong(t *testing.T) {
	const n = 1 << 18
	for _, line := range []string{
		strings.Repeat("a", n), strings.Repeat("9", n) + ":", strings.Repeat("a ", n), strings.Repeat(",", n), strings.Repeat("a,", n), strings.Repeat(" ", n), strings.Repeat("ab[", n) + "\n",
		";" + strings.Repeat("a,", n), strings.Repeat("a", n) + "é", strings.Repeat("\t-5", n) + "#" + strings.Repeat("\xff", n), strings.Repeat("x:", n) + ";\n",
	} {
		checkTokens(t, line)
	}
}

// lines says what the chapter requires of Lines.
func lines(text string) []string {
	l := strings.Split(text, "\n")
	if l[len(l)-1] == "" {
		l = l[:len(l)-1]
	}
	return l
}

func checkLines(t *testing.T, text string) {
	t.Helper()
	if got, want := lex.Lines(text), lines(text); !slices.Equal(got, want) {
		t.Errorf("Lines(%.60q) = %s; want %s", text, short(got), short(want))
	}
}

// TestLines: P8.3.
func TestLines(t *testing.T) {
	for _, c := range []struct {
		text string
		want []string
	}{
		{"", nil}, {"\n", []string{""}}, {"\n\n", []string{"", ""}}, {"\n\n\n", []string{"", "", ""}},
		{"a", []string{"a"}}, {"a\n", []string{"a"}}, {"\na", []string{"", "a"}}, {"a\n\n", []string{"a", ""}}, {"a\nb", []string{"a", "b"}}, {"a\nb\n", []string{"a", "b"}}, {"a\n\nb", []string{"a", "", "b"}}, {"\n\na\n", []string{"", "", "a"}},
		{" ", []string{" "}}, {"a\n ", []string{"a", " "}}, {"a \n\tb", []string{"a ", "\tb"}}, {"\r", []string{"\r"}}, {"\r\n", []string{"\r"}}, {"\n\r", []string{"", "\r"}}, {"a\r\nb\r\n", []string{"a\r", "b\r"}}, {"a\rb", []string{"a\rb"}},
		{"a ; b\nc # d", []string{"a ; b", "c # d"}}, {";\n;", []string{";", ";"}}, {"a\\nb", []string{"a\\nb"}}, {"a\x0bb\x0cc\x85\u0085\u2028\u2029d", []string{"a\x0bb\x0cc\x85\u0085\u2028\u2029d"}},
		{"\x00\n\xff\n\u010a", []string{"\x00", "\xff", "\u010a"}}, {"\xe2\n\x80\xa8", []string{"\xe2", "\x80\xa8"}}, {"x: ja x\nexit\n", []string{"x: ja x", "exit"}},
	} {
		if got := lex.Lines(c.text); !slices.Equal(got, c.want) {
			t.Errorf("Lines(%q) = %q; want %q", c.text, got, c.want)
		}
		checkLines(t, c.text)
	}
}

// TestShortTexts: P8.3, for all texts of up to six parts, and for each byte.
func TestShortTexts(t *testing.T) {
	all := []string{""}
	for range 6 {
		var longer []string
		for _, text := range all {
			for _, part := range []string{"a", " ", "\r", "\n", ";", "\xc3\x8a"} {
				longer = append(longer, text+part)
			}
		}
		for _, text := range longer {
			if checkLines(t, text); t.Failed() {
				return
			}
		}
		all = longer
	}
	for c := range 256 {
		s := string([]byte{byte(c)})
		for _, text := range []string{s, s + "\n", "\n" + s, "a" + s + "b\n" + s, s + s} {
			checkLines(t, text)
		}
	}
}

// TestManyLines: P8.3, for texts that take too long if the rest of them is visited or copied for each line.
func TestManyLines(t *testing.T) {
	const n = 1 << 20
	for _, text := range []string{strings.Repeat("\n", n), strings.Repeat("a\n", n), strings.Repeat("exit\n", n) + "exit", strings.Repeat("a", n), strings.Repeat("a", n) + "\n\n"} {
		checkLines(t, text)
	}
}

// TestNewResults: results of one call do not change with those of another (rule 4).
func TestNewResults(t *testing.T) {
	const line, text = "a: add64 r1, -5", "a\nb\n"
	l, _, _ := lex.Tokens(line)
	again, _, _ := lex.Tokens(line)
	words, others := lex.Words(l), lex.Words(l)
	texts, rest := lex.Lines(text), lex.Lines(text)
	words[0], texts[0] = "x", "x"
	if want, _, _ := tokens(line); !slices.Equal(l, want) {
		t.Errorf("Tokens(%q) became %v with the result of Words", line, l)
	}
	clear(l)
	if want, _, _ := tokens(line); !slices.Equal(again, want) {
		t.Errorf("Tokens(%q) became %v with another result", line, again)
	}
	if want := []string{"a", "add64", "r1", "5"}; !slices.Equal(others, want) {
		t.Errorf("Words of %q became %q with another result", line, others)
	}
	if want := []string{"a", "b"}; !slices.Equal(rest, want) {
		t.Errorf("Lines(%q) became %q with another result", text, rest)
	}
}

// TestConcurrent: the functions may be called concurrently (rule 6), and depend on their arguments only (rule 7).
func TestConcurrent(t *testing.T) {
	var group sync.WaitGroup
	for worker := range 4 {
		group.Go(func() {
			for i := range 500 {
				checkTokens(t, strings.Repeat("a: [r1", i%7)+wrong[i%len(wrong)]+strings.Repeat("-b", worker))
				checkTokens(t, strings.Repeat("x ", worker)+strings.Repeat(",", i%9)+"#")
				checkLines(t, strings.Repeat("a\n", i%11)+strings.Repeat("b", worker))
			}
		})
	}
	group.Wait()
}

func FuzzLex(f *testing.F) {
	for _, s := range []string{"", "x: add64 r1, -5 ; five", "a\nb\n", "[r10+0x7f]", "\r\n# é", "é", "\xff", "a\n\nb;\n", ",[]+-:"} {
		f.Add(s)
	}
	f.Fuzz(func(t *testing.T, s string) {
		checkTokens(t, s)
		checkLines(t, s)
		for _, line := range lex.Lines(s) {
			checkTokens(t, line)
		}
	})
}
