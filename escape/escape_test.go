package escape_test

import (
	"fmt"
	"math"
	"regexp"
	"strconv"
	"strings"
	"testing"
	stdutf8 "unicode/utf8"

	"calque/api"
	"calque/escape"
)

var styles = []int{escape.Line, escape.Quote, escape.Brace, escape.Entity}

var noStyles = []int{0, 5, -1, 6, 256 + escape.Line, math.MaxInt, math.MinInt}

// row is one row of the chapter's table of escaped forms: each of the bytes is replaced by its sequence.
type row struct {
	styles    []int
	bytes     string
	firstOnly bool
	sequence  func(c byte) string
}

func backslashed(c byte) string { return "\\" + string(rune(c)) }

func fixed(s string) func(byte) string { return func(byte) string { return s } }

func formatted(format string) func(byte) string {
	return func(c byte) string { return fmt.Sprintf(format, c) }
}

// table holds the rows in the order of the chapter; the first one that applies counts.
func table() []row {
	controls := "\x7f"
	for c := range 32 {
		controls += string(rune(c))
	}
	line, quote, brace, entity := escape.Line, escape.Quote, escape.Brace, escape.Entity
	all := []int{line, quote, brace}
	return []row{
		{all, "\\", false, fixed(`\\`)},
		{all, "\n", false, fixed(`\n`)},
		{all, "\r", false, fixed(`\r`)},
		{all, "\t", false, fixed(`\t`)},
		{[]int{line}, "=:#!", false, backslashed},
		{[]int{line}, " ", true, fixed(`\ `)},
		{[]int{quote, brace}, `"`, false, fixed(`\"`)},
		{[]int{brace}, "{}", false, backslashed},
		{[]int{line, quote}, controls, false, formatted(`\x%02x`)},
		{[]int{brace}, controls, false, formatted(`\u%04x`)},
		{[]int{entity}, "&", false, fixed("&amp;")},
		{[]int{entity}, "<", false, fixed("&lt;")},
		{[]int{entity}, ">", false, fixed("&gt;")},
		{[]int{entity}, `"`, false, fixed("&quot;")},
		{[]int{entity}, controls, false, formatted("&#%d;")},
	}
}

func (r row) applies(style int, c byte, first bool) bool {
	for _, s := range r.styles {
		if s == style {
			return strings.IndexByte(r.bytes, c) >= 0 && (first || !r.firstOnly)
		}
	}
	return false
}

// escaped is the escaped form by the table.
func escaped(rows []row, style int, s string) string {
	t := ""
bytes:
	for i := range len(s) {
		for _, r := range rows {
			if r.applies(style, s[i], i == 0) {
				t += r.sequence(s[i])
				continue bytes
			}
		}
		t += s[i : i+1]
	}
	return t
}

// The sequences, and the bytes that stand for themselves, at the start of a string.
var readings = map[int]*regexp.Regexp{
	escape.Line:   regexp.MustCompile(`\A(?:\\(?:[nrt\\"=:#!{} ]|x[0-7][0-9a-fA-F]|u[0-9a-fA-F]{4})|[^\\\n])`),
	escape.Quote:  regexp.MustCompile(`\A(?:\\(?:[nrt\\"=:#!{} ]|x[0-7][0-9a-fA-F]|u[0-9a-fA-F]{4})|[^\\\n"])`),
	escape.Brace:  regexp.MustCompile(`\A(?:\\(?:[nrt\\"=:#!{} ]|x[0-7][0-9a-fA-F]|u[0-9a-fA-F]{4})|[^\\\n"])`),
	escape.Entity: regexp.MustCompile(`\A(?:&(?:amp|lt|gt|quot|apos|#[0-9]{1,7}|#x[0-9a-fA-F]{1,6});|[^&<"])`),
}

// meanings are those of the sequences that have no number.
var meanings = map[string]string{
	`\n`: "\n", `\r`: "\r", `\t`: "\t",
	"&amp;": "&", "&lt;": "<", "&gt;": ">", "&quot;": `"`, "&apos;": "'",
}

// meaning is what a sequence, or a byte, stands for; ok is false if its number is no code point.
func meaning(sequence string) (t string, ok bool) {
	if len(sequence) == 1 {
		return sequence, true
	}
	if t, found := meanings[sequence]; found {
		return t, true
	}
	digits, base := "", 16
	switch {
	case strings.HasPrefix(sequence, `\x`), strings.HasPrefix(sequence, `\u`):
		digits = sequence[2:]
	case strings.HasPrefix(sequence, "&#x"):
		digits = sequence[3 : len(sequence)-1]
	case strings.HasPrefix(sequence, "&"):
		digits, base = sequence[2:len(sequence)-1], 10
	default:
		return sequence[len(sequence)-1:], true
	}
	n, err := strconv.ParseInt(digits, base, 64)
	if err != nil || n > 0x10ffff || n >= 0xd800 && n <= 0xdfff {
		return "", false
	}
	return string(stdutf8.AppendRune(nil, rune(n))), true
}

// unescaped is what Unescape returns by the definition of reading.
func unescaped(style int, s string) (string, int, api.Errno) {
	t := ""
	for at := 0; at < len(s); {
		if s[at] >= 0x80 {
			t += s[at : at+1]
			at++
			continue
		}
		sequence := readings[style].FindString(s[at:])
		text, ok := "", false
		if sequence != "" {
			text, ok = meaning(sequence)
		}
		if !ok {
			return "", at, api.ErrSyntax
		}
		t += text
		at += len(sequence)
	}
	return t, 0, api.OK
}

// end is what End returns: the bytes behind backslashes are overwritten by a byte that is not the delimiter.
func end(style int, s string, delimiter byte) int {
	b := []byte(s)
	if style != escape.Entity {
		for i := 0; i+1 < len(b); i++ {
			if s[i] == '\\' && delimiter != '\\' {
				b[i+1] = delimiter + 1
				i++
			}
		}
	}
	return strings.IndexByte(string(b), delimiter)
}

// short calls a function for each string of at most n of these elements.
func short(alphabet []string, n int, f func(s string)) {
	var grow func(s string, n int)
	grow = func(s string, n int) {
		f(s)
		if n > 0 {
			for _, a := range alphabet {
				grow(s+a, n-1)
			}
		}
	}
	grow("", n)
}

func letters(s string) []string { return strings.Split(s, "") }

// bytes256 are all strings of one byte.
func bytes256() []string {
	var l []string
	for c := range 256 {
		l = append(l, string([]byte{byte(c)}))
	}
	return l
}

func checkEscape(t *testing.T, rows []row, style int, s string) {
	want := escaped(rows, style, s)
	if got := escape.Escape(style, s); got != want {
		t.Fatalf("P2.1: Escape(%d, %q) = %q, not %q", style, s, got, want)
	}
	if got, at, e := escape.Unescape(style, want); got != s || at != 0 || e != api.OK {
		t.Fatalf("P2.2: Unescape(%d, %q) = %q, %d, %v, not %q", style, want, got, at, e, s)
	}
}

func checkUnescape(t *testing.T, style int, s string) {
	want, wantAt, wantE := unescaped(style, s)
	if got, at, e := escape.Unescape(style, s); got != want || at != wantAt || e != wantE {
		t.Fatalf("P2.1: Unescape(%d, %q) = %q, %d, %v, not %q, %d, %v", style, s, got, at, e, want, wantAt, wantE)
	}
}

func checkEnd(t *testing.T, style int, s string, delimiter byte) {
	want := end(style, s, delimiter)
	if got := escape.End(style, s, delimiter); got != want {
		t.Fatalf("P2.1: End(%d, %q, %q) = %d, not %d", style, s, delimiter, got, want)
	}
}

func TestChapterExamples(t *testing.T) {
	for _, c := range []struct {
		style   int
		s, want string
	}{
		{escape.Line, " a=b", `\ a\=b`},
		{escape.Quote, "\x07", `\x07`},
		{escape.Brace, "\x07", `\u0007`},
		{escape.Entity, "\x07", "&#7;"},
		{escape.Line, "  #!:", `\  \#\!\:`},
		{escape.Quote, " =:#!{}\"", ` =:#!{}\"`},
		{escape.Brace, "\x1f\x7f{}", `\u001f\u007f\{\}`},
		{escape.Entity, "'&amp;\\\n", "'&amp;amp;\\&#10;"},
		{escape.Line, "\"\xff\xc3\xa4\x00", "\"\xff\xc3\xa4\\x00"},
	} {
		if got := escape.Escape(c.style, c.s); got != c.want {
			t.Errorf("P2.1: Escape(%d, %q) = %q, not %q", c.style, c.s, got, c.want)
		}
	}
	if got, at, e := escape.Unescape(escape.Brace, `\u00e4`); got != "\xc3\xa4" || at != 0 || e != api.OK {
		t.Errorf("P2.1: %q %d %v", got, at, e)
	}
	for _, style := range []int{escape.Line, escape.Quote, escape.Brace} {
		if got, at, e := escape.Unescape(style, `a\q`); got != "" || at != 1 || e != api.ErrSyntax {
			t.Errorf("P2.1: %d: %q %d %v", style, got, at, e)
		}
	}
}

// All bytes occur at the beginning of a string and inside.
func TestEscapePairsOfBytes(t *testing.T) {
	rows, all := table(), bytes256()
	for _, style := range styles {
		short(all, 2, func(s string) { checkEscape(t, rows, style, s) })
	}
}

func TestEscapeShortStrings(t *testing.T) {
	rows, alphabet := table(), letters("\\\n\t =!\"{}&<>#;nu7\x00")
	for _, style := range styles {
		short(alphabet, 4, func(s string) { checkEscape(t, rows, style, s) })
	}
}

func TestNoStyle(t *testing.T) {
	for _, style := range noStyles {
		for _, s := range []string{"", "a", `\n`, `\q`, "\n\"<&"} {
			if got := escape.Escape(style, s); got != "" {
				t.Errorf("P2.1: Escape(%d, %q) = %q", style, s, got)
			}
			if got, at, e := escape.Unescape(style, s); got != "" || at != 0 || e != api.ErrArg {
				t.Errorf("P2.1: Unescape(%d, %q) = %q, %d, %v", style, s, got, at, e)
			}
			if got := escape.End(style, s, 'a'); got != -1 {
				t.Errorf("P2.1: End(%d, %q) = %d", style, s, got)
			}
		}
	}
}

func TestUnescapePairsOfBytes(t *testing.T) {
	all := bytes256()
	for _, style := range styles {
		short(all, 2, func(s string) { checkUnescape(t, style, s) })
		for _, start := range []string{`\`, `a\x0`, `\x`, `\u004`, `\u00`, "&", "&#", "&#4", "&#x", "&#x4"} {
			for _, end := range []string{"", ";", "1;", "1"} {
				short(all, 1, func(s string) { checkUnescape(t, style, start+s+end) })
			}
		}
	}
}

func TestUnescapeShortStrings(t *testing.T) {
	for style, alphabet := range map[int][]string{
		escape.Line:   letters("\\xu07dF\n\"g"),
		escape.Quote:  letters("\\xu07dF\n\"g"),
		escape.Brace:  letters("\\xu07dF\n\"g"),
		escape.Entity: {"&", "#", "x", "X", ";", "0", "9", "f", "amp", "apos", "<", "\""},
	} {
		short(alphabet, 5, func(s string) { checkUnescape(t, style, s) })
	}
}

func TestUnescapeNumbers(t *testing.T) {
	numbers := []int{0, 9, 10, 65, 127, 128, 255, 0x7ff, 0x800, 0xd7ff, 0xd800, 0xdabc, 0xdfff, 0xe000, 0xfffd, 0xffff, 0x10000, 0xfffff, 0x100000, 0x10fffe, 0x10ffff, 0x110000, 0xffffff, 0x1000000, 9999999, 10000000, 1<<32 + 65}
	formats := []string{`\x%02x`, `\x%02X`, `\x%03x`, `\u%04x`, `\u%04X`, `\u%03x`, `\u%05x`, "&#%d;", "&#%d", "&#%07d;", "&#%08d;", "&#x%x;", "&#x%X;", "&#x%06x;", "&#x%07x;", "&#X%x;", "&#x%x", "&%d;", "&#+%d;", "&#-%d;", "&# %d;", "&#%d ;", "&#x+%x;", "&#0x%x;", "&#x0x%x;", "&#1_%d;"}
	for _, n := range numbers {
		for _, format := range formats {
			for _, style := range styles {
				checkUnescape(t, style, fmt.Sprintf("b"+format+"c", n))
			}
		}
	}
}

func TestUnescapeNames(t *testing.T) {
	for _, name := range []string{"amp", "lt", "gt", "quot", "apos", "AMP", "Lt", "nbsp", "amp ", " amp", "a", "", "#", "#x", "quote", "amplt"} {
		for _, s := range []string{"&" + name + ";", "&" + name, "&" + name + ";;", "x&" + name + ";&" + name + ";", "&" + name + "&;"} {
			for _, style := range styles {
				checkUnescape(t, style, s)
			}
		}
	}
}

func TestUnescapeInvalid(t *testing.T) {
	for _, c := range []struct {
		style int
		s     string
		at    int
	}{
		{escape.Line, "a\n", 1}, {escape.Quote, "a\n", 1}, {escape.Brace, "a\n", 1},
		{escape.Line, "\\\n", 0}, {escape.Quote, `\n"`, 2}, {escape.Brace, `\""`, 2},
		{escape.Entity, `&lt;"`, 4}, {escape.Entity, "\n<", 1}, {escape.Entity, "&amp;&", 5},
		{escape.Line, `\`, 0}, {escape.Line, `\\\`, 2}, {escape.Line, `\x`, 0}, {escape.Line, `\x7`, 0},
		{escape.Line, `\x80`, 0}, {escape.Quote, `\xff`, 0}, {escape.Brace, `\u`, 0}, {escape.Brace, `\u12`, 0},
		{escape.Brace, `ab\u123`, 2}, {escape.Brace, `\u123g`, 0}, {escape.Brace, `\udfff`, 0}, {escape.Line, `\'`, 0},
		{escape.Line, `\N`, 0}, {escape.Line, `\X41`, 0}, {escape.Line, `\U0041`, 0}, {escape.Line, "\\\xc3\xa4", 0},
	} {
		if got, at, e := escape.Unescape(c.style, c.s); got != "" || at != c.at || e != api.ErrSyntax {
			t.Errorf("P2.1: Unescape(%d, %q) = %q, %d, %v, not at %d", c.style, c.s, got, at, e, c.at)
		}
	}
}

func TestEnd(t *testing.T) {
	for _, style := range styles {
		short(letters("\\=\"&a"), 6, func(s string) {
			for _, delimiter := range []byte("\\=\"&ab\x00\xff") {
				checkEnd(t, style, s, delimiter)
			}
		})
		for _, s := range bytes256() {
			for delimiter := range 256 {
				checkEnd(t, style, s+"\\"+s+s, byte(delimiter))
			}
		}
	}
}

// Behind a backslash one byte is skipped, also where the sequence is longer or is none.
func TestEndExamples(t *testing.T) {
	for _, c := range []struct {
		style     int
		s         string
		delimiter byte
		want      int
	}{
		{escape.Line, `\x3d=`, '3', 2}, {escape.Brace, `\u0022`, 'u', -1}, {escape.Line, `\qq`, 'q', 2},
		{escape.Quote, `\\\""`, '"', 4}, {escape.Quote, `\`, '"', -1}, {escape.Quote, `\`, '\\', 0},
		{escape.Entity, `\"`, '"', 1}, {escape.Entity, `\\`, '\\', 0}, {escape.Entity, "a&", '&', 1},
		{escape.Line, "\\\xc3\xa4\xa4", '\xa4', 2}, {escape.Line, "", 0, -1}, {escape.Brace, "a\x00", 0, 1},
	} {
		if got := escape.End(c.style, c.s, c.delimiter); got != c.want {
			t.Errorf("P2.1: End(%d, %q, %q) = %d, not %d", c.style, c.s, c.delimiter, got, c.want)
		}
	}
}

func TestInverse(t *testing.T) {
	every := ""
	for n := 0; n <= 0x10ffff; n++ {
		every += string(rune(n))
		if len(every) < 4000 && n < 0x10ffff {
			continue
		}
		for _, style := range styles {
			if got, at, e := escape.Unescape(style, escape.Escape(style, every)); got != every || at != 0 || e != api.OK {
				t.Fatalf("P2.2: style %d, up to %x: %q, %d, %v", style, n, got, at, e)
			}
		}
		every = ""
	}
}

func TestSafe(t *testing.T) {
	delimiters := map[int]string{escape.Line: "=:#", escape.Quote: `"`, escape.Brace: `"`, escape.Entity: `"`}
	for _, style := range styles {
		short(letters("\\\n\"=:#<&ax\xff"), 4, func(s string) {
			form := escape.Escape(style, s)
			if strings.Contains(form, "\n") {
				t.Fatalf("P2.3: style %d: a line feed in %q", style, form)
			}
			if style == escape.Entity && strings.Contains(form, "<") {
				t.Fatalf("P2.3: < in %q", form)
			}
			for _, delimiter := range []byte(delimiters[style]) {
				if at := escape.End(style, form, delimiter); at != -1 {
					t.Fatalf("P2.3: style %d: an end %q at %d of %q", style, delimiter, at, form)
				}
			}
		})
	}
}

func TestParts(t *testing.T) {
	var parts []string
	short(letters("\\\n \"={&<a\x00\xc3"), 2, func(s string) { parts = append(parts, s) })
	for _, style := range styles {
		for _, a := range parts {
			for _, b := range parts {
				if style == escape.Line && strings.HasPrefix(b, " ") {
					continue
				}
				if got, want := escape.Escape(style, a+b), escape.Escape(style, a)+escape.Escape(style, b); got != want {
					t.Fatalf("P2.4: style %d: %q and %q: %q, not %q", style, a, b, got, want)
				}
			}
		}
	}
	if got := escape.Escape(escape.Line, "a"+" b"); got != "a b" {
		t.Errorf("P2.4: %q", got)
	}
}

func TestLetters(t *testing.T) {
	const alphabet = "abcdefghijklmnopqrstuvwxyzABCDEFGHIJKLMNOPQRSTUVWXYZ0123456789"
	for _, style := range styles {
		for _, s := range []string{"", alphabet, "a b", "7  b 9", strings.Join(letters(alphabet), " "), "n r t x41 u0041 amp", "Grüße aus Łódź", "日本 語"} {
			if got := escape.Escape(style, s); got != s {
				t.Errorf("P2.5: style %d: %q, not %q", style, got, s)
			}
		}
	}
}

// The size of the result of a call is not limited, and the time is proportional to that of the argument.
func TestLongStrings(t *testing.T) {
	s := strings.Repeat(" a=\"{&<\n\x07\\>\xc3\xa4", 1<<16)
	for _, style := range styles {
		form := escape.Escape(style, s)
		if got, at, e := escape.Unescape(style, form); got != s || at != 0 || e != api.OK {
			t.Errorf("P2.2: style %d: a long string is not read: %d, %v", style, at, e)
		}
	}
	if at := escape.End(escape.Quote, strings.Repeat(`\"`, 1<<20)+`"`, '"'); at != 1<<21 {
		t.Errorf("P2.1: %d", at)
	}
}
