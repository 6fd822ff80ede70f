package utf8_test

import (
	"math"
	"slices"
	"strings"
	"testing"

	"calque/api"
	"calque/utf8"
)

// spell is the encoding of a code point by the table of UTF-8, without the help of Go's own decoder.
func spell(n int) string {
	tail := func(shift int) byte { return byte(0x80 | n>>shift&0x3f) }
	switch {
	case n < 0x80:
		return string([]byte{byte(n)})
	case n < 0x800:
		return string([]byte{byte(0xc0 | n>>6), tail(0)})
	case n < 0x10000:
		return string([]byte{byte(0xe0 | n>>12), tail(6), tail(0)})
	}
	return string([]byte{byte(0xf0 | n>>18), tail(12), tail(6), tail(0)})
}

func isCodePoint(n int) bool { return n >= 0 && n <= 0x10ffff && (n < 0xd800 || n > 0xdfff) }

// head is the first element of a string that is not empty, with its bytes; real is false for a replacement.
func head(s string) (n, width int, real bool) {
	for width = 1; width <= 4 && width <= len(s); width++ {
		n = int(s[0])
		if width > 1 {
			n &= 0xff >> (width + 1)
		}
		for i := 1; i < width; i++ {
			n = n<<6 | int(s[i]&0x3f)
		}
		if isCodePoint(n) && spell(n) == s[:width] {
			return n, width, true
		}
	}
	return 0xfffd, 1, false
}

// expected is what the definitions say about a string.
type expected struct {
	elements []int
	valid    bool
	at       []api.Position
}

func expect(s string) expected {
	x := expected{valid: true}
	p := api.Position{Offset: 0, Line: 1, Column: 1}
	for p.Offset < len(s) {
		x.at = append(x.at, p)
		n, width, real := head(s[p.Offset:])
		x.elements = append(x.elements, n)
		x.valid = x.valid && real
		p.Offset, p.Column = p.Offset+width, p.Column+1
		if n == '\n' {
			p.Line, p.Column = p.Line+1, 1
		}
	}
	x.at = append(x.at, p)
	return x
}

// The bytes at which the well-formed sequences of UTF-8 begin to differ, and some ordinary ones.
const edges = "\x00\na\x7f\x80\x8f\x90\x9f\xa0\xbd\xbf\xc0\xc1\xc2\xdf\xe0\xe1\xed\xef\xf0\xf1\xf4\xf5\xff"

// strings4 calls a function for each string of at most 4 bytes of edges.
func strings4(f func(s string)) {
	var grow func(s string)
	grow = func(s string) {
		f(s)
		if len(s) < 4 {
			for i := range len(edges) {
				grow(s + edges[i:i+1])
			}
		}
	}
	grow("")
}

var samples = []string{
	"", "a", "\n", "\n\n", "\r\n", "a\r\nb\rc", "a\nb", "ab\ncd", "a\xc3\xa4\xff", "\xc3\xa4b\n\ncd", "\xff\n\xfe\xe2\x82\nx",
	"\xef\xbf\xbd", "\xef\xbf\xbd\xff", "\xef\xbf", "\xf0\x9f\x98\x80\n\xf0\x9f\x98", "\x00\n\x00", "e\xcc\x81\xe2\x80\xa8x\xc2\x85y",
	strings.Repeat("\xc3\xa4\n", 50), strings.Repeat("\x80", 50),
}

func TestDecodeExamples(t *testing.T) {
	for _, c := range []struct {
		name, s string
		l       []int
		valid   bool
	}{
		{"empty", "", nil, true},
		{"document: example 1", "a\xc3b", []int{97, 65533, 98}, false},
		{"chapter", "a\xc3\xa4\xff", []int{97, 228, 65533}, false},
		{"zero byte", "\x00", []int{0}, true},
		{"widths", "\x7f\xc2\x80\xdf\xbf\xe0\xa0\x80\xef\xbf\xbf\xf0\x90\x80\x80\xf4\x8f\xbf\xbf", []int{0x7f, 0x80, 0x7ff, 0x800, 0xffff, 0x10000, 0x10ffff}, true},
		{"around surrogates", "\xed\x9f\xbf\xee\x80\x80", []int{0xd7ff, 0xe000}, true},
		{"surrogates", "\xed\xa0\x80\xed\xbf\xbf", []int{65533, 65533, 65533, 65533, 65533, 65533}, false},
		{"too great", "\xf4\x90\x80\x80", []int{65533, 65533, 65533, 65533}, false},
		{"five bytes", "\xf8\x88\x80\x80\x80", []int{65533, 65533, 65533, 65533, 65533}, false},
		{"two bytes for one", "\xc0\xaf\xc1\xbf", []int{65533, 65533, 65533, 65533}, false},
		{"three bytes for two", "\xe0\x9f\xbf", []int{65533, 65533, 65533}, false},
		{"four bytes for three", "\xf0\x8f\xbf\xbf", []int{65533, 65533, 65533, 65533}, false},
		{"cut off by the end", "\xe2\x82", []int{65533, 65533}, false},
		{"cut off by a letter", "\xf0\x9f\x98a", []int{65533, 65533, 65533, 97}, false},
		{"cut off by an encoding", "\xe2\x82\xc3\xa4", []int{65533, 65533, 228}, false},
		{"only the rest of an encoding", "\x80\xbf", []int{65533, 65533}, false},
		{"65533 itself", "\xef\xbf\xbd", []int{65533}, true},
		{"65533 and a replacement", "\xef\xbf\xbd\xef\xbf", []int{65533, 65533, 65533}, false},
	} {
		if l := utf8.Decode(c.s); !slices.Equal(l, c.l) {
			t.Errorf("P1.1: %s: Decode: %x, want %x", c.name, l, c.l)
		}
		if utf8.Valid(c.s) != c.valid {
			t.Errorf("P1.1: %s: Valid: %v", c.name, !c.valid)
		}
		if n := utf8.Count(c.s); n != len(c.l) {
			t.Errorf("P1.1: %s: Count: %d, want %d", c.name, n, len(c.l))
		}
	}
}

func TestEncodeExamples(t *testing.T) {
	const r = "\xef\xbf\xbd"
	for _, c := range []struct {
		l []int
		s string
	}{
		{nil, ""},
		{[]int{}, ""},
		{[]int{0, 97, 0x7f}, "\x00a\x7f"},
		{[]int{0x80, 0x7ff}, "\xc2\x80\xdf\xbf"},
		{[]int{0x800, 0xffff}, "\xe0\xa0\x80\xef\xbf\xbf"},
		{[]int{0x10000, 0x10ffff}, "\xf0\x90\x80\x80\xf4\x8f\xbf\xbf"},
		{[]int{0xfffd}, r},
		{[]int{0xd7ff, 0xd800, 0xdbff, 0xdc00, 0xdfff, 0xe000}, "\xed\x9f\xbf" + r + r + r + r + "\xee\x80\x80"},
		{[]int{0xd83d, 0xde00}, r + r},
		{[]int{97, -1, 98, 0x110000, 99}, "a" + r + "b" + r + "c"},
		{[]int{math.MinInt, math.MinInt32, math.MaxInt32, math.MaxInt}, r + r + r + r},
		{[]int{1<<32 + 97, -1<<32 + 97, 1<<31 + 97, 256 + 1<<21}, r + r + r + r},
	} {
		before := slices.Clone(c.l)
		if s := utf8.Encode(c.l); s != c.s {
			t.Errorf("P1.1: Encode(%x): %q, want %q", c.l, s, c.s)
		}
		if !slices.Equal(c.l, before) {
			t.Errorf("P1.1: Encode changed %x to %x", before, c.l)
		}
	}
}

func TestDecodeGivesNewMemory(t *testing.T) {
	const s = "abc"
	utf8.Decode(s)[0] = 0
	if l := utf8.Decode(s); !slices.Equal(l, []int{97, 98, 99}) {
		t.Errorf("P1.1: Decode after a change of its result: %x", l)
	}
}

func TestShortStrings(t *testing.T) {
	strings4(func(s string) {
		x := expect(s)
		if l := utf8.Decode(s); !slices.Equal(l, x.elements) {
			t.Fatalf("P1.1: Decode(%q): %x, want %x", s, l, x.elements)
		}
		if utf8.Valid(s) != x.valid {
			t.Fatalf("P1.1: Valid(%q): %v", s, !x.valid)
		}
		if n := utf8.Count(s); n != len(x.elements) {
			t.Fatalf("P1.1: Count(%q): %d, want %d", s, n, len(x.elements))
		}
		if back := utf8.Encode(utf8.Decode(s)); (back == s) != x.valid {
			t.Fatalf("P1.2: the elements of %q are encoded as %q, valid %v", s, back, x.valid)
		}
		checkFirst(t, s, x)
		if len(s) <= 3 {
			checkPositions(t, s, x)
		}
	})
}

func TestEveryCodePoint(t *testing.T) {
	all := make([]int, 0, 0x110000)
	for n := -3; n <= 0x110003; n++ {
		if !isCodePoint(n) {
			if s := utf8.Encode([]int{n}); s != "\xef\xbf\xbd" {
				t.Fatalf("P1.1: Encode(%x): %q", n, s)
			}
			continue
		}
		all = append(all, n)
		s := utf8.Encode([]int{n})
		if s != spell(n) {
			t.Fatalf("P1.1: Encode(%x): %q, want %q", n, s, spell(n))
		}
		if l := utf8.Decode(s); len(l) != 1 || l[0] != n || !utf8.Valid(s) || utf8.Count(s) != 1 {
			t.Fatalf("P1.2: Decode(Encode(%x)): %x", n, l)
		}
	}
	s := utf8.Encode(all)
	if !slices.Equal(utf8.Decode(s), all) || !utf8.Valid(s) || utf8.Count(s) != len(all) {
		t.Error("P1.2: all code points in one string")
	}
}

func TestParts(t *testing.T) {
	joined := 0
	for _, a := range samples {
		for _, b := range samples {
			if !utf8.Valid(a) {
				continue
			}
			joined++
			if l, want := utf8.Decode(a+b), slices.Concat(utf8.Decode(a), utf8.Decode(b)); !slices.Equal(l, want) {
				t.Errorf("P1.3: %q and %q: %x, want %x", a, b, l, want)
			}
			if utf8.Count(a+b) != utf8.Count(a)+utf8.Count(b) || utf8.Valid(a+b) != utf8.Valid(b) {
				t.Errorf("P1.3: %q and %q: Count or Valid", a, b)
			}
		}
	}
	if joined < 100 {
		t.Errorf("only %d pairs", joined)
	}
	// A string that is not valid may have elements that depend on what follows.
	if l := utf8.Decode("\xc3" + "\xa4"); !slices.Equal(l, []int{228}) {
		t.Errorf("P1.3: joined bytes: %x", l)
	}
}

func TestPositionExamples(t *testing.T) {
	for _, c := range []struct {
		s string
		p api.Position
	}{
		{"", api.Position{Offset: 0, Line: 1, Column: 1}},
		{"ab\ncd", api.Position{Offset: 4, Line: 2, Column: 2}},
		{"ab\ncd", api.Position{Offset: 2, Line: 1, Column: 3}},
		{"ab\ncd", api.Position{Offset: 3, Line: 2, Column: 1}},
		{"ab\ncd", api.Position{Offset: 5, Line: 2, Column: 3}},
		{"ab\n", api.Position{Offset: 3, Line: 2, Column: 1}},
		{"\n\n", api.Position{Offset: 2, Line: 3, Column: 1}},
		{"a\rb", api.Position{Offset: 2, Line: 1, Column: 3}},
		{"a\r\nb", api.Position{Offset: 2, Line: 1, Column: 3}},
		{"a\tb", api.Position{Offset: 2, Line: 1, Column: 3}},
		{"\xe2\x80\xa8x", api.Position{Offset: 3, Line: 1, Column: 2}},
		{"\xf0\x9f\x98\x80x", api.Position{Offset: 4, Line: 1, Column: 2}},
		{"\xf0\x9f\x98x", api.Position{Offset: 2, Line: 1, Column: 3}},
	} {
		if p, e := utf8.At(c.s, c.p.Offset); p != c.p || e != api.OK {
			t.Errorf("P1.1: At(%q, %d): %v %d, want %v", c.s, c.p.Offset, p, e, c.p)
		}
		if n, e := utf8.Offset(c.s, c.p.Line, c.p.Column); n != c.p.Offset || e != api.OK {
			t.Errorf("P1.1: Offset(%q, %d, %d): %d %d, want %d", c.s, c.p.Line, c.p.Column, n, e, c.p.Offset)
		}
	}
}

func TestNoPosition(t *testing.T) {
	for _, c := range []struct {
		s      string
		offset int
	}{
		{"", -1}, {"", 1}, {"ab", 3}, {"ab", -1}, {"\xc3\xa4", 1}, {"\xe2\x82\xac", 1}, {"\xe2\x82\xac", 2}, {"\xf0\x9f\x98\x80", 3},
		{"ab", math.MinInt}, {"ab", math.MaxInt}, {"ab", 1 << 32},
	} {
		if p, e := utf8.At(c.s, c.offset); p != (api.Position{}) || e != api.ErrRange {
			t.Errorf("P1.1: At(%q, %d): %v %d", c.s, c.offset, p, e)
		}
	}
	for _, c := range []struct {
		s            string
		line, column int
	}{
		{"", 1, 2}, {"", 2, 1}, {"", 0, 0}, {"", 1, 0}, {"", 0, 1}, {"ab\nc", 1, 4}, {"ab\nc", 2, 3}, {"ab\nc", 3, 1}, {"ab\nc", -1, 1}, {"ab\nc", 2, -1},
		{"\xc3\xa4", 1, 3}, {"ab", math.MinInt, 1}, {"ab", 1, math.MaxInt}, {"ab", math.MaxInt, math.MinInt}, {"ab", 1<<32 + 1, 1},
	} {
		if n, e := utf8.Offset(c.s, c.line, c.column); n != 0 || e != api.ErrNone {
			t.Errorf("P1.1: Offset(%q, %d, %d): %d %d", c.s, c.line, c.column, n, e)
		}
	}
}

func TestPositions(t *testing.T) {
	for _, s := range samples {
		checkPositions(t, s, expect(s))
	}
}

// checkPositions compares At and Offset with the expected boundaries, in and around the string.
func checkPositions(t *testing.T, s string, x expected) {
	t.Helper()
	next, last := 0, api.Position{}
	for offset := -2; offset <= len(s)+2; offset++ {
		p, e := utf8.At(s, offset)
		if next == len(x.at) || x.at[next].Offset != offset {
			if p != (api.Position{}) || e != api.ErrRange {
				t.Fatalf("P1.1: At(%q, %d), no boundary: %v %d", s, offset, p, e)
			}
			continue
		}
		if p != x.at[next] || e != api.OK {
			t.Fatalf("P1.1: At(%q, %d): %v %d, want %v", s, offset, p, e, x.at[next])
		}
		if p.Line < last.Line || p.Line == last.Line && p.Column <= last.Column {
			t.Fatalf("P1.4: %q: %v is not later than %v", s, p, last)
		}
		if n, e := utf8.Offset(s, p.Line, p.Column); n != offset || e != api.OK {
			t.Fatalf("P1.4: Offset(%q, %d, %d): %d %d, want %d", s, p.Line, p.Column, n, e, offset)
		}
		next, last = next+1, p
	}
	checkOffsets(t, s, x)
}

// checkOffsets asks for all lines and columns in and around the string.
func checkOffsets(t *testing.T, s string, x expected) {
	t.Helper()
	known := map[[2]int]int{}
	for _, p := range x.at {
		known[[2]int{p.Line, p.Column}] = p.Offset
	}
	end := x.at[len(x.at)-1]
	for line := -1; line <= end.Line+1; line++ {
		for column := -1; column <= len(s)+2; column++ {
			want, ok := known[[2]int{line, column}]
			n, e := utf8.Offset(s, line, column)
			if n != want || ok != (e == api.OK) || !ok && e != api.ErrNone {
				t.Fatalf("P1.1: Offset(%q, %d, %d): %d %d, want %d %v", s, line, column, n, e, want, ok)
			}
		}
	}
}

func TestFirst(t *testing.T) {
	for _, c := range []struct {
		s    string
		n    int
		want string
	}{
		{"", 0, ""}, {"", 1, ""}, {"abc", 0, ""}, {"abc", -1, ""}, {"abc", math.MinInt, ""}, {"abc", 1, "a"}, {"abc", 3, "abc"}, {"abc", 4, "abc"},
		{"abc", math.MaxInt, "abc"}, {"a\xc3\xa4b", 2, "a\xc3\xa4"}, {"\xc3\xa4b", 1, "\xc3\xa4"}, {"\xe2\x82", 1, "\xe2"}, {"\xffab", 2, "\xffa"},
		{"a\nb", 2, "a\n"}, {"\xf0\x9f\x98\x80\xf0\x9f\x98\x80", 1, "\xf0\x9f\x98\x80"},
	} {
		if s := utf8.First(c.s, c.n); s != c.want {
			t.Errorf("P1.1: First(%q, %d): %q, want %q", c.s, c.n, s, c.want)
		}
	}
	for _, s := range samples {
		checkFirst(t, s, expect(s))
	}
}

// checkFirst compares First with the expected boundaries.
func checkFirst(t *testing.T, s string, x expected) {
	t.Helper()
	for n := -1; n <= len(x.elements)+1; n++ {
		k := min(max(n, 0), len(x.elements))
		first := utf8.First(s, n)
		if first != s[:x.at[k].Offset] {
			t.Fatalf("P1.1: First(%q, %d): %q, want %q", s, n, first, s[:x.at[k].Offset])
		}
		if !strings.HasPrefix(s, first) || utf8.Count(first) != k {
			t.Fatalf("P1.5: First(%q, %d): %q has %d elements", s, n, first, utf8.Count(first))
		}
	}
}
