// Package utf8 implements layer 1: code points and positions. See shared/doc/01-utf8.md.
package utf8

import "calque/api"

// replacement is the element of a byte that belongs to no code point. It is a code point itself.
const replacement = 0xFFFD

// Decode returns the elements of a string.
func Decode(s string) []int {
	var l []int
	for _, r := range s {
		l = append(l, int(r))
	}
	return l
}

// Encode returns the string of encodings, where a number that is no code point is replaced.
func Encode(l []int) string {
	var b []byte
	for _, n := range l {
		b = append(b, string(codePoint(n))...)
	}
	return string(b)
}

// codePoint returns a number as a code point. Numbers are compared before they are converted, as a rune has fewer bits.
func codePoint(n int) rune {
	if n < 0 || n > 0x10FFFF || n >= 0xD800 && n <= 0xDFFF {
		return replacement
	}
	return rune(n)
}

// Valid reports whether a string consists of encodings of code points.
func Valid(s string) bool {
	for i, r := range s {
		if r == replacement && !spellsReplacement(s[i:]) {
			return false
		}
	}
	return true
}

// spellsReplacement reports whether a string begins with the encoding of 0xFFFD, and not with a byte that is replaced by it.
func spellsReplacement(s string) bool {
	return len(s) >= 3 && s[:3] == "\xef\xbf\xbd"
}

// Count returns the number of elements of a string.
func Count(s string) int {
	n := 0
	for range s {
		n++
	}
	return n
}

// First returns the bytes of the first n elements of a string.
func First(s string, n int) string {
	for i := range s {
		if n < 1 {
			return s[:i]
		}
		n--
	}
	return s
}

// At returns the position of a boundary.
func At(s string, offset int) (api.Position, api.Errno) {
	for p := range boundaries(s) {
		if p.Offset == offset {
			return p, api.OK
		}
	}
	return api.Position{}, api.ErrRange
}

// Offset returns the boundary with a line and a column.
func Offset(s string, line, column int) (int, api.Errno) {
	for p := range boundaries(s) {
		if p.Line == line && p.Column == column {
			return p.Offset, api.OK
		}
	}
	return 0, api.ErrNone
}

// boundaries yields the positions of all boundaries of a string, from left to right.
// Its type is written out, as this package imports only api.
func boundaries(s string) func(yield func(api.Position) bool) {
	return func(yield func(api.Position) bool) {
		line, column := 1, 1
		for i, r := range s {
			if !yield(api.Position{Offset: i, Line: line, Column: column}) {
				return
			}
			column++
			if r == '\n' {
				line, column = line+1, 1
			}
		}
		yield(api.Position{Offset: len(s), Line: line, Column: column})
	}
}
