package lexeme_test

import (
	"math"
	"math/rand"
	"regexp"
	"slices"
	"strconv"
	"strings"
	"testing"
	stdutf8 "unicode/utf8"

	"calque/api"
	"calque/escape"
	"calque/lexeme"
)

// The definitions as patterns, of which the first one is skipped between tokens.
// A pattern takes a byte that belongs to no code point for a character.
var (
	between = regexp.MustCompile(`\A(?:[ \t\n\r]|#[^\n]*)*`)
	word    = regexp.MustCompile(`\A[A-Za-z0-9_-]+`)
	quoted  = regexp.MustCompile(`\A"((?s:\\.|[^"\\])*)"`)
	mark    = regexp.MustCompile(`\A[{};]`)
	isWord  = regexp.MustCompile(`\A[A-Za-z0-9_-]{1,40}\z`).MatchString
	isCount = regexp.MustCompile(`\A(0|[1-9][0-9]{0,5})\z`).MatchString
)

// result is what Tokens returns.
type result struct {
	tokens []lexeme.Token
	at     int
	e      api.Errno
}

// expect is what the definitions say about a string.
func expect(s string) result {
	var l []lexeme.Token
	for at := 0; ; {
		at += len(between.FindString(s[at:]))
		if at == len(s) {
			return result{tokens: l}
		}
		t, size, at2, e := expectToken(s, at)
		if e != api.OK {
			return result{at: at2, e: e}
		}
		l = append(l, t)
		at += size
	}
}

// expectToken is the token at an offset and its size, or an error and where it is.
func expectToken(s string, from int) (t lexeme.Token, size, at int, e api.Errno) {
	rest := s[from:]
	if w := word.FindString(rest); w != "" {
		if len(w) > 40 {
			return t, 0, from, api.ErrLimit
		}
		return lexeme.Token{Kind: lexeme.Word, Text: w, From: from}, len(w), 0, api.OK
	}
	if m := mark.FindString(rest); m != "" {
		return lexeme.Token{Kind: lexeme.Mark, Text: m, From: from}, 1, 0, api.OK
	}
	q := quoted.FindStringSubmatch(rest)
	if q == nil {
		return t, 0, from, api.ErrSyntax
	}
	text, wrong, e := escape.Unescape(escape.Quote, q[1])
	switch {
	case e != api.OK:
		return t, 0, from + 1 + wrong, api.ErrSyntax
	case len(text) > 400:
		return t, 0, from, api.ErrLimit
	case !stdutf8.ValidString(text):
		return t, 0, from, api.ErrForm
	}
	return lexeme.Token{Kind: lexeme.String, Text: text, From: from}, len(q[0]), 0, api.OK
}

// read is what Tokens returns for a string.
func read(s string) result {
	l, at, e := lexeme.Tokens(s)
	return result{l, at, e}
}

func (r result) equals(other result) bool {
	return slices.Equal(r.tokens, other.tokens) && r.at == other.at && r.e == other.e
}

// placeless returns tokens with zero as their offsets.
func placeless(l []lexeme.Token) []lexeme.Token {
	l = slices.Clone(l)
	for i := range l {
		l[i].From = 0
	}
	return l
}

// check compares Tokens with the definitions, and checks what is promised of the tokens.
func check(t *testing.T, s string) result {
	t.Helper()
	got, want := read(s), expect(s)
	if !got.equals(want) {
		t.Fatalf("P11.1: Tokens(%q): %v, want %v", s, got, want)
	}
	checkPlaces(t, s, got.tokens)
	checkSpelling(t, got.tokens)
	return got
}

// checkPlaces checks the offsets of the tokens of a string.
func checkPlaces(t *testing.T, s string, l []lexeme.Token) {
	t.Helper()
	last := -1
	for _, token := range l {
		if token.From <= last || token.From >= len(s) {
			t.Fatalf("P11.3: Tokens(%q): %v: an offset is not greater than the one before, or too great", s, l)
		}
		last = token.From
		first := s[last : last+1]
		if token.Kind == lexeme.String && first != `"` || token.Kind != lexeme.String && first != token.Text[:1] {
			t.Fatalf("P11.3: Tokens(%q): there is %q at the token %v", s, first, token)
		}
	}
}

// checkSpelling spells tokens, and reads them again.
func checkSpelling(t *testing.T, l []lexeme.Token) {
	t.Helper()
	before := slices.Clone(l)
	line, e := lexeme.Spell(l)
	if e != api.OK || strings.Contains(line, "\n") || line != spell(l) {
		t.Fatalf("P11.1: Spell(%v): %q %d, want %q", l, line, e, spell(l))
	}
	if !slices.Equal(l, before) {
		t.Fatalf("P11.1: Spell changed %v to %v", before, l)
	}
	back := read(line)
	if back.e != api.OK || back.at != 0 || !slices.Equal(placeless(back.tokens), placeless(l)) {
		t.Fatalf("P11.2: %v is spelled as %q and read as %v", l, line, back)
	}
	if again, e := lexeme.Spell(back.tokens); again != line || e != api.OK {
		t.Fatalf("P11.2: the line %q is spelled as %q after it was read, error %d", line, again, e)
	}
}

// spell is the line of tokens by the definition.
func spell(l []lexeme.Token) string {
	line := ""
	for i, token := range l {
		if i > 0 {
			line += " "
		}
		if token.Kind == lexeme.String {
			line += `"` + escape.Escape(escape.Quote, token.Text) + `"`
		} else {
			line += token.Text
		}
	}
	return line
}

// texts calls a function for each string that is made of at most n of some pieces.
func texts(pieces []string, n int, f func(s string)) {
	f("")
	if n == 0 {
		return
	}
	for _, p := range pieces {
		texts(pieces, n-1, func(s string) { f(p + s) })
	}
}

func a(n int) string { return strings.Repeat("a", n) }

func TestKinds(t *testing.T) {
	if lexeme.Word != 1 || lexeme.String != 2 || lexeme.Mark != 3 {
		t.Error("P11.1: the kinds are not 1, 2 and 3")
	}
}

func TestTokensExamples(t *testing.T) {
	w := func(text string, from int) lexeme.Token { return lexeme.Token{Kind: 1, Text: text, From: from} }
	s := func(text string, from int) lexeme.Token { return lexeme.Token{Kind: 2, Text: text, From: from} }
	m := func(text string, from int) lexeme.Token { return lexeme.Token{Kind: 3, Text: text, From: from} }
	for _, c := range []struct {
		name, s string
		l       []lexeme.Token
	}{
		{"empty", "", nil},
		{"blanks", " \t\r\n \n", nil},
		{"comment", "# list \"a", nil},
		{"comments", "#\n##\n # x # y\r\n#", nil},
		{"chapter", `list and "a\"b"; # end`, []lexeme.Token{w("list", 0), w("and", 5), s(`a"b`, 9), m(";", 15)}},
		{"chapter: word", "es-419", []lexeme.Token{w("es-419", 0)}},
		{"chapter: no number", "007", []lexeme.Token{w("007", 0)}},
		{"layer 12", "locale en { direction up; }", []lexeme.Token{w("locale", 0), w("en", 7), m("{", 10), w("direction", 12), w("up", 22), m(";", 24), m("}", 26)}},
		{"words", "AZaz09_- -- __ 0", []lexeme.Token{w("AZaz09_-", 0), w("--", 9), w("__", 12), w("0", 15)}},
		{"marks", "{}};;", []lexeme.Token{m("{", 0), m("}", 1), m("}", 2), m(";", 3), m(";", 4)}},
		{"no space", `a{b;"c"d"e""f"}`, []lexeme.Token{w("a", 0), m("{", 1), w("b", 2), m(";", 3), s("c", 4), w("d", 7), s("e", 8), s("f", 11), m("}", 14)}},
		{"each blank", "a b\tc\nd\re\r\nf", []lexeme.Token{w("a", 0), w("b", 2), w("c", 4), w("d", 6), w("e", 8), w("f", 11)}},
		{"comment behind a word", "a#b\nc", []lexeme.Token{w("a", 0), w("c", 4)}},
		{"comment behind a string", "\"a\"#b\"\n;#", []lexeme.Token{s("a", 0), m(";", 7)}},
		{"comment without an end", "a #b\rc\xff", []lexeme.Token{w("a", 0)}},
		{"empty strings", `"" ""`, []lexeme.Token{s("", 0), s("", 3)}},
		{"marks and comments in a string", `"{};# a"b`, []lexeme.Token{s("{};# a", 0), w("b", 8)}},
		{"sequences", `"\n\r\t\\\"\=\:\#\!\{\}\ \x41\x7F\u00e4\uFFFD"`, []lexeme.Token{s("\n\r\t\\\"=:#!{} A\x7f\xc3\xa4\xef\xbf\xbd", 0)}},
		{"backslashes", `"\\" "\\\""`, []lexeme.Token{s(`\`, 0), s(`\"`, 5)}},
		{"control characters in a string", "\"\x00\t\r\x7f\"", []lexeme.Token{s("\x00\t\r\x7f", 0)}},
		{"characters in a string", "\"日\" x", []lexeme.Token{s("日", 0), w("x", 6)}},
	} {
		want := result{tokens: c.l}
		if got := check(t, c.s); !got.equals(want) {
			t.Errorf("P11.1: %s: Tokens(%q): %v, want %v", c.name, c.s, got, want)
		}
	}
}

func TestTokensErrors(t *testing.T) {
	const umlaut = "\xc3\xa4"
	for _, c := range []struct {
		name, s string
		at      int
		e       api.Errno
	}{
		{"no token", "a = b", 2, api.ErrSyntax},
		{"no token at first", "=", 0, api.ErrSyntax},
		{"no token behind a word", "a.b", 1, api.ErrSyntax},
		{"no token behind a comment", "# =\n =", 5, api.ErrSyntax},
		{"apostrophe", "'a'", 0, api.ErrSyntax},
		{"backslash", `a \n`, 2, api.ErrSyntax},
		{"letter beyond ASCII", "a" + umlaut, 1, api.ErrSyntax},
		{"replacement", " \xff", 1, api.ErrSyntax},
		{"vertical tab", "a \v", 2, api.ErrSyntax},
		{"form feed", "\f", 0, api.ErrSyntax},
		{"zero byte", "a\x00", 1, api.ErrSyntax},
		{"space beyond ASCII", "\u00a0", 0, api.ErrSyntax},
		{"string without an end", `x "a`, 2, api.ErrSyntax},
		{"only a quotation mark", `"`, 0, api.ErrSyntax},
		{"three quotation marks", `"""`, 2, api.ErrSyntax},
		{"end behind a backslash", `x "a\"`, 2, api.ErrSyntax},
		{"end behind backslashes", `"a\\\" `, 0, api.ErrSyntax},
		{"string without an end, and a wrong sequence", ` "a\q`, 1, api.ErrSyntax},
		{"string without an end, and too long", `"` + a(401), 0, api.ErrSyntax},
		{"wrong sequence", `"a\q"`, 2, api.ErrSyntax},
		{"wrong sequence in a later string", `"" ; "ab\u00" "\q"`, 8, api.ErrSyntax},
		{"wrong number", `"\x80"`, 1, api.ErrSyntax},
		{"line feed", "\"a\nb\"", 2, api.ErrSyntax},
		{"line feed in a string that is too long", `"` + a(500) + "\n\"", 501, api.ErrSyntax},
		{"wrong sequence and no valid string", "\"\xff\\q\"", 2, api.ErrSyntax},
		{"word that is too long", " " + a(41), 1, api.ErrLimit},
		{"much too long", "{" + a(4000), 1, api.ErrLimit},
		{"string that is too long", `"` + a(401) + `"`, 0, api.ErrLimit},
		{"sequences that are too many", `x "` + strings.Repeat(`\n`, 401) + `"`, 2, api.ErrLimit},
		{"characters that are too long", `"` + strings.Repeat(umlaut, 200) + `a"`, 0, api.ErrLimit},
		{"sequences that stand for too much", `"` + strings.Repeat(`\u00e4`, 200) + `a"`, 0, api.ErrLimit},
		{"too long and not valid", `"` + a(400) + "\xff\"", 0, api.ErrLimit},
		{"not valid", "a \"\xff\"", 2, api.ErrForm},
		{"long and not valid", `;"` + a(399) + "\xc3\"", 1, api.ErrForm},
		{"cut off", "\"\xe6\x97\"", 0, api.ErrForm},
		{"surrogate", "\"\xed\xa0\x80\"", 0, api.ErrForm},
		{"form ahead of syntax", "\"\xff\" =", 0, api.ErrForm},
		{"limit ahead of syntax", a(41) + " =", 0, api.ErrLimit},
		{"form ahead of limit", "\"\xff\" " + a(41), 0, api.ErrForm},
		{"syntax ahead of limit", "= " + a(41), 0, api.ErrSyntax},
		{"limit ahead of form", a(41) + "\"\xff\"", 0, api.ErrLimit},
		{"syntax ahead of form", "\"\\q\" \"\xff\"", 1, api.ErrSyntax},
	} {
		want := result{at: c.at, e: c.e}
		if got := check(t, c.s); !got.equals(want) {
			t.Errorf("P11.1: %s: Tokens(%q): %v, want %v", c.name, c.s, got, want)
		}
	}
}

func TestLimits(t *testing.T) {
	for _, s := range []string{
		a(40), a(40) + ";" + a(40), a(40) + `"` + a(400) + `"` + a(40), `"` + strings.Repeat("日", 133) + `a"`,
		`"` + strings.Repeat(`\u00e4`, 200) + `"`, `"` + strings.Repeat(`\x0a`, 400) + `"`, `"` + strings.Repeat(`\uFFFD`, 133) + `"`,
		"#" + a(5000) + "\n" + strings.Repeat(" ", 5000) + "a", strings.Repeat("a;", 5000),
	} {
		if r := check(t, s); r.e != api.OK || len(r.tokens) == 0 {
			t.Errorf("P11.1: Tokens(%q): %d", s, r.e)
		}
	}
}

func TestShortTexts(t *testing.T) {
	count := 0
	texts([]string{"a", "0", `"`, `\`, ";", "#", "\n", " ", "=", "n", "\xff"}, 5, func(s string) {
		check(t, s)
		count++
	})
	if count != (11*11*11*11*11*11-1)/10 {
		t.Errorf("%d texts", count)
	}
	texts([]string{"ab", `"`, `\"`, `\u00e4`, `\x4`, "{", "}", "#", "\r\n", "\t", " ", "\xc3", "\xa4"}, 4, func(s string) { check(t, s) })
}

func TestBytes(t *testing.T) {
	one := func(c int) string { return string([]byte{byte(c)}) }
	for c := range 256 {
		for _, around := range [][2]string{{"", ""}, {"a", "a"}, {" ", " "}, {"{", "}"}, {`"`, `"`}, {`"\`, `"`}, {"#", "\na"}, {"\n", "\n"}} {
			check(t, around[0]+one(c)+around[1])
		}
		for d := range 256 {
			check(t, one(c)+one(d))
			check(t, `"`+one(c)+one(d)+`"`)
		}
	}
}

func TestLongTexts(t *testing.T) {
	pieces := []string{
		"locale", "en-GB", "_", "0", a(39), a(40), a(41), `"`, `"`, `"`, `"{0} i {1}"`, `"\\"`, `"\""`, `"` + a(399) + `"`, `"` + a(400) + `"`,
		`"` + a(401) + `"`, `\`, `\n`, `\u65e5`, "日", "\xe6", "{", "}", ";", ";", "#", "# x", "\n", "\n", "\r", " ", " ", " ", "\t", "=", "\"\"",
	}
	random := rand.New(rand.NewSource(11))
	good := 0
	for range 30000 {
		var b strings.Builder
		for range random.Intn(12) {
			b.WriteString(pieces[random.Intn(len(pieces))])
		}
		if check(t, b.String()).e == api.OK {
			good++
		}
	}
	if good < 3000 {
		t.Errorf("only %d texts have tokens", good)
	}
}

func TestTokensGivesNewMemory(t *testing.T) {
	l, _, _ := lexeme.Tokens("a b")
	l[0] = lexeme.Token{}
	if r := read("a b"); r.tokens[0].Text != "a" {
		t.Errorf("P11.1: Tokens after a change of its result: %v", r)
	}
}

func TestSpellExamples(t *testing.T) {
	for _, c := range []struct {
		l    []lexeme.Token
		line string
	}{
		{nil, ""},
		{[]lexeme.Token{}, ""},
		{[]lexeme.Token{{Kind: 1, Text: "a"}}, "a"},
		{[]lexeme.Token{{Kind: 2}}, `""`},
		{[]lexeme.Token{{Kind: 1, Text: "alias"}, {Kind: 1, Text: "iw"}, {Kind: 1, Text: "he"}, {Kind: 3, Text: ";"}}, "alias iw he ;"},
		{[]lexeme.Token{{Kind: 3, Text: "{", From: 9}, {Kind: 3, Text: "}", From: -1}, {Kind: 1, Text: "0", From: math.MinInt}}, "{ } 0"},
		{[]lexeme.Token{{Kind: 2, Text: " \"\\\n\r\t\x00\x7f日{}=:#!"}}, `" \"\\\n\r\t\x00\x7f日{}=:#!"`},
		{[]lexeme.Token{{Kind: 1, Text: a(40)}, {Kind: 2, Text: strings.Repeat("\n", 400)}}, a(40) + ` "` + strings.Repeat(`\n`, 400) + `"`},
	} {
		if line, e := lexeme.Spell(c.l); line != c.line || e != api.OK {
			t.Errorf("P11.1: Spell(%v): %q %d, want %q", c.l, line, e, c.line)
		}
		checkSpelling(t, c.l)
	}
}

func TestSpellErrors(t *testing.T) {
	good := lexeme.Token{Kind: lexeme.Word, Text: "a"}
	for _, bad := range []lexeme.Token{
		{}, {Kind: 0, Text: "a"}, {Kind: 4, Text: "a"}, {Kind: -1, Text: ";"}, {Kind: 256 + 1, Text: "a"}, {Kind: math.MaxInt, Text: "a"}, {Kind: math.MinInt, Text: ";"},
		{Kind: 1}, {Kind: 1, Text: "a b"}, {Kind: 1, Text: ";"}, {Kind: 1, Text: "a\n"}, {Kind: 1, Text: "\xc3\xa4"}, {Kind: 1, Text: a(41)}, {Kind: 1, Text: "a.b"}, {Kind: 1, Text: `"a"`},
		{Kind: 2, Text: a(401)}, {Kind: 2, Text: "\xff"}, {Kind: 2, Text: "a\xe6\x97"}, {Kind: 2, Text: strings.Repeat("\xc3\xa4", 200) + "a"},
		{Kind: 3}, {Kind: 3, Text: "="}, {Kind: 3, Text: "a"}, {Kind: 3, Text: "{}"}, {Kind: 3, Text: ";;"}, {Kind: 3, Text: "; "}, {Kind: 3, Text: "#"}, {Kind: 3, Text: `"`}, {Kind: 3, Text: "\x00"},
	} {
		for _, l := range [][]lexeme.Token{{bad}, {bad, good}, {good, bad}, {good, bad, good, bad}} {
			if line, e := lexeme.Spell(l); line != "" || e != api.ErrArg {
				t.Errorf("P11.1: Spell(%v): %q %d", l, line, e)
			}
		}
	}
}

func TestSpellEveryToken(t *testing.T) {
	random := rand.New(rand.NewSource(2))
	for range 20000 {
		l := make([]lexeme.Token, random.Intn(5))
		valid := true
		for i := range l {
			b := make([]byte, random.Intn(4))
			for j := range b {
				b[j] = "aZ09-_{};\"\\#n \t\n\x00\x7f\xc3\xa4"[random.Intn(20)]
			}
			l[i] = lexeme.Token{Kind: random.Intn(5), Text: string(b), From: random.Intn(3)}
			switch l[i].Kind {
			case 1:
				valid = valid && isWord(l[i].Text)
			case 2:
				valid = valid && stdutf8.ValidString(l[i].Text)
			case 3:
				valid = valid && mark.FindString(l[i].Text) == l[i].Text && l[i].Text != ""
			default:
				valid = false
			}
		}
		if valid {
			checkSpelling(t, l)
		} else if line, e := lexeme.Spell(l); line != "" || e != api.ErrArg {
			t.Fatalf("P11.1: Spell(%v): %q %d", l, line, e)
		}
	}
}

func TestSpellEveryCodePoint(t *testing.T) {
	for n := range rune(0x110000) {
		if !stdutf8.ValidRune(n) {
			continue
		}
		l := []lexeme.Token{{Kind: lexeme.String, Text: string(n)}}
		line, e := lexeme.Spell(l)
		if back := read(line); e != api.OK || !back.equals(result{tokens: l}) {
			t.Fatalf("P11.2: the text %q is spelled as %q, error %d, and read as %v", string(n), line, e, back)
		}
	}
}

func TestWordsAndTexts(t *testing.T) {
	for _, c := range []struct {
		s          string
		word, text bool
	}{
		{"", false, true}, {"a", true, true}, {"-", true, true}, {"_", true, true}, {"en_GB", true, true}, {"es-419", true, true}, {"007", true, true},
		{"a b", false, true}, {" a", false, true}, {"a\n", false, true}, {"a\x00", false, true}, {"a.b", false, true}, {"{", false, true}, {`"a"`, false, true}, {"\xc3\xa4", false, true},
		{a(40), true, true}, {a(41), false, true}, {a(39) + " ", false, true}, {strings.Repeat("9", 40), true, true},
		{a(400), false, true}, {a(401), false, false}, {strings.Repeat("\xc3\xa4", 200), false, true}, {strings.Repeat("\xc3\xa4", 200) + "a", false, false},
		{strings.Repeat("\n", 400), false, true}, {strings.Repeat("\\", 401), false, false},
		{"\xff", false, false}, {"a\xff", false, false}, {"\xef\xbf\xbd", false, true}, {"\xed\xa0\x80", false, false}, {a(399) + "\xc3", false, false}, {a(4000), false, false},
		{a(400) + "\xff", false, false}, {strings.Repeat("\xff", 401), false, false}, {a(40) + ".", false, true}, {a(400) + ".", false, false},
	} {
		if lexeme.IsWord(c.s) != c.word {
			t.Errorf("P11.1: IsWord(%q): %v", c.s, !c.word)
		}
		if lexeme.IsText(c.s) != c.text {
			t.Errorf("P11.1: IsText(%q): %v", c.s, !c.text)
		}
	}
	for c := range 256 {
		for _, s := range []string{string([]byte{byte(c)}), "a" + string([]byte{byte(c)}), string([]byte{byte(c)}) + "a", a(20) + string([]byte{byte(c)}) + a(19)} {
			if lexeme.IsWord(s) != isWord(s) {
				t.Errorf("P11.1: IsWord(%q): %v", s, !isWord(s))
			}
			if lexeme.IsText(s) != stdutf8.ValidString(s) {
				t.Errorf("P11.1: IsText(%q): %v", s, !stdutf8.ValidString(s))
			}
		}
	}
}

func TestNumberExamples(t *testing.T) {
	for _, c := range []struct {
		s    string
		n    int
		good bool
	}{
		{"0", 0, true}, {"7", 7, true}, {"10", 10, true}, {"120", 120, true}, {"1000", 1000, true}, {"100000", 100000, true}, {"999999", 999999, true},
		{"", 0, false}, {"00", 0, false}, {"01", 0, false}, {"007", 0, false}, {"000000", 0, false}, {"1000000", 0, false}, {"1234567", 0, false},
		{"-1", 0, false}, {"-0", 0, false}, {"+1", 0, false}, {"1_0", 0, false}, {"_1", 0, false}, {"1_", 0, false}, {"0x1", 0, false}, {"1e3", 0, false}, {"1.0", 0, false},
		{" 1", 0, false}, {"1 ", 0, false}, {"1\n", 0, false}, {"a", 0, false}, {"1a", 0, false}, {"a1", 0, false}, {"\xd9\xa1", 0, false}, {"1\x00", 0, false}, {"\xff", 0, false},
		{strings.Repeat("9", 40), 0, false}, {strings.Repeat("0", 4000), 0, false}, {"4294967297", 0, false},
		{"-1234567", 0, false}, {"+1000000", 0, false}, {"-00000001", 0, false}, {"0000000", 0, false}, {"-012", 0, false}, {"1_000_000", 0, false},
	} {
		if n, good := lexeme.Number(c.s); n != c.n || good != c.good {
			t.Errorf("P11.1: Number(%q): %d %v, want %d %v", c.s, n, good, c.n, c.good)
		}
	}
}

func TestNumbers(t *testing.T) {
	for n := range 1000000 {
		if v, good := lexeme.Number(strconv.Itoa(n)); v != n || !good {
			t.Fatalf("P11.1: Number(%d): %d %v", n, v, good)
		}
	}
	digits := []string{"0", "1", "9", "-", "_", "a", "/", ":"}
	texts(digits, 5, func(s string) {
		want, err := strconv.Atoi(s)
		if !isCount(s) || err != nil {
			want = 0
		}
		if n, good := lexeme.Number(s); n != want || good != isCount(s) {
			t.Fatalf("P11.1: Number(%q): %d %v", s, n, good)
		}
	})
	for c := range 256 {
		for _, s := range []string{string([]byte{byte(c)}), "1" + string([]byte{byte(c)}), string([]byte{byte(c)}) + "1"} {
			if _, good := lexeme.Number(s); good != isCount(s) {
				t.Errorf("P11.1: Number(%q): %v", s, good)
			}
		}
	}
}
