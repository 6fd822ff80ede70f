package lexeme_test

import (
	"slices"
	"strings"
	"testing"

	"calque/api"
	"calque/lexeme"
)

// samples are the texts between which there may be blanks.
var samples = []string{
	"", " ", "\n", "a", "ab ", " -_", "0", ";", "{", "a}", `""`, `"a"`, `"\n" x`, "\"# \" \"'\"", "#", "# a", "#\n", "a # b;", "a # b;\n", "\"日\"#", "\r", "a\r\n\tb",
	"alias iw he;", a(40), `"` + a(400) + `"`,
	"=", "a =", `"a`, `"\q"`, "\"\xff\"", a(41), `"` + a(401) + `"`, "\"a\nb\"", `a "b" "`,
}

// shifted returns tokens with greater offsets.
func shifted(l []lexeme.Token, by int) []lexeme.Token {
	l = slices.Clone(l)
	for i := range l {
		l[i].From += by
	}
	return l
}

// joined is what is expected of two strings, the second of which begins at an offset of both.
func joined(first, second result, at int) result {
	switch {
	case first.e != api.OK:
		return first
	case second.e != api.OK:
		return result{at: at + second.at, e: second.e}
	}
	return result{tokens: slices.Concat(first.tokens, shifted(second.tokens, at))}
}

// endsInComment reports whether a string that has tokens ends in a comment without a line feed.
func endsInComment(s string) bool {
	r := read(s)
	more := read(s + "x")
	return slices.Equal(r.tokens, more.tokens) && r.e == api.OK && more.e == api.OK
}

// hasOpenString reports whether a string ends in one with a first quotation mark only.
func hasOpenString(s string) bool {
	return read(s).e == api.ErrSyntax && read(s+`"`).e != api.ErrSyntax
}

func TestBlanks(t *testing.T) {
	pairs := 0
	for _, first := range samples {
		for _, second := range samples {
			if hasOpenString(first) {
				continue
			}
			for _, space := range []string{"\n", " \n ", "\r\n", "\t#\n", "# a \" { =\n", " # \xff\r\n\n#\n  ", "#\n" + strings.Repeat(" ", 500)} {
				pairs++
				checkJoined(t, first, space, second)
			}
			if endsInComment(first) {
				continue
			}
			for _, space := range []string{" ", "\t", "\r", "   ", "\r \t"} {
				pairs++
				checkJoined(t, first, space, second)
			}
		}
	}
	if pairs < 5000 {
		t.Errorf("only %d pairs", pairs)
	}
}

// checkJoined checks that what is between two strings does not change the tokens of both.
func checkJoined(t *testing.T, first, space, second string) {
	t.Helper()
	want := joined(read(first), read(second), len(first+space))
	if got := read(first + space + second); !got.equals(want) {
		t.Errorf("P11.4: %q, %q and %q: %v, want %v", first, space, second, got, want)
	}
}

func TestNothingBetween(t *testing.T) {
	for _, c := range []struct {
		first, second string
		want          []lexeme.Token
	}{
		{"a", "b", []lexeme.Token{{Kind: lexeme.Word, Text: "ab", From: 0}}},
		{"x -", "_0 y", []lexeme.Token{{Kind: lexeme.Word, Text: "x", From: 0}, {Kind: lexeme.Word, Text: "-_0", From: 2}, {Kind: lexeme.Word, Text: "y", From: 6}}},
		{"a;", "b", []lexeme.Token{{Kind: lexeme.Word, Text: "a", From: 0}, {Kind: lexeme.Mark, Text: ";", From: 1}, {Kind: lexeme.Word, Text: "b", From: 2}}},
		{"a", `"b"`, []lexeme.Token{{Kind: lexeme.Word, Text: "a", From: 0}, {Kind: lexeme.String, Text: "b", From: 1}}},
		{`"a"`, `"b"`, []lexeme.Token{{Kind: lexeme.String, Text: "a", From: 0}, {Kind: lexeme.String, Text: "b", From: 3}}},
		{"a # ", "b", []lexeme.Token{{Kind: lexeme.Word, Text: "a", From: 0}}},
	} {
		if got := read(c.first + c.second); !got.equals(result{tokens: c.want}) {
			t.Errorf("P11.4: %q and %q: %v, want %v", c.first, c.second, got, c.want)
		}
	}
}
