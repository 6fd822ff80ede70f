package pack_test

import (
	"bytes"
	"math"
	"math/big"
	"slices"
	"strings"
	"testing"

	"calque/api"
	"calque/pack"
)

// encoded is the encoding of an integer by the definition, made from a number without a bound.
func encoded(n int) []byte {
	value := new(big.Int).Abs(big.NewInt(int64(n))).Bytes()
	head := byte(len(value))
	if n < 0 {
		head += 16
	}
	return append([]byte{head}, value...)
}

// encodedString is the encoding of a string by the definition.
func encodedString(s string) []byte {
	return slices.Concat(encoded(len(s)), []byte(s))
}

// encodedStrings is the encoding of a list by the definition.
func encodedStrings(l []string) []byte {
	b := encoded(len(l))
	for _, s := range l {
		b = append(b, encodedString(s)...)
	}
	return b
}

// integers are those near to zero, those near to powers of two, those at both ends, and some without a pattern.
func integers() []int {
	l := []int{-300, math.MinInt, math.MinInt + 1, math.MinInt + 2, math.MaxInt, math.MaxInt - 1, 0x0123456789abcdef, 0x00ff00ff00ff00ff, 0x7f00000000000000}
	for n := -1100; n <= 1100; n++ {
		l = append(l, n)
	}
	for i := range 63 {
		for d := -1; d <= 1; d++ {
			l = append(l, 1<<i+d, -(1<<i)+d)
		}
	}
	h := uint64(1)
	for i := range 200 {
		h = h*6364136223846793005 + 1442695040888963407
		l = append(l, int(h)>>(i%64))
	}
	return l
}

// texts are strings of many lengths and of all bytes.
func texts() []string {
	l := []string{"", "a", "ab", "\x00", "\x01\x00", "\xff\xfe", "\x10", "\x02\x00\x05", "ä\xc3\n", "\x01\x01", strings.Repeat("\x00", 300)}
	all := make([]byte, 256)
	for i := range all {
		all[i] = byte(i)
	}
	for _, n := range []int{15, 16, 17, 127, 128, 255, 256, 257, 65535, 65536, 65537} {
		l = append(l, string(bytes.Repeat(all, 257)[:n]))
	}
	return l
}

// lists are some with few strings, and some whose numbers have two and three bytes.
func lists() [][]string {
	l := [][]string{nil, {}, {""}, {"", ""}, {"ab", ""}, {"", "ab"}, {"a", "b", "a"}, {"\x01", "\x00\x01\x00"}, texts()}
	for _, n := range []int{16, 255, 256, 257, 65536} {
		l = append(l, make([]string, n))
	}
	return append(l, strings.Split(strings.Repeat("one,,three,", 100), ","))
}

// ends are bytes that may follow an encoding.
func ends() [][]byte {
	return [][]byte{nil, {0}, {1}, {1, 5}, {16}, {255, 255}, {0, 0, 0, 0, 0, 0, 0, 0, 0, 0}}
}

// spare returns the bytes in memory with room behind them, and a function that reports whether all of it is untouched.
func spare(b []byte) ([]byte, func() bool) {
	memory := append(bytes.Clone(b), "room behind the bytes, for more than an encoding of ten bytes"...)
	before := bytes.Clone(memory)
	return memory[:len(b)], func() bool { return bytes.Equal(memory, before) }
}

func TestKnown(t *testing.T) {
	for _, c := range []struct {
		n    int
		want []byte
	}{
		{0, []byte{0}}, {1, []byte{1, 1}}, {5, []byte{1, 5}}, {127, []byte{1, 127}}, {128, []byte{1, 128}}, {255, []byte{1, 255}},
		{256, []byte{2, 1, 0}}, {65535, []byte{2, 255, 255}}, {65536, []byte{3, 1, 0, 0}}, {1 << 24, []byte{4, 1, 0, 0, 0}},
		{-1, []byte{17, 1}}, {-128, []byte{17, 128}}, {-255, []byte{17, 255}}, {-256, []byte{18, 1, 0}}, {-300, []byte{18, 1, 44}},
		{1<<56 - 1, []byte{7, 255, 255, 255, 255, 255, 255, 255}}, {1 << 56, []byte{8, 1, 0, 0, 0, 0, 0, 0, 0}},
		{math.MaxInt, []byte{8, 127, 255, 255, 255, 255, 255, 255, 255}},
		{math.MinInt + 1, []byte{24, 127, 255, 255, 255, 255, 255, 255, 255}},
		{math.MinInt, []byte{24, 128, 0, 0, 0, 0, 0, 0, 0}},
	} {
		if got := pack.Int(nil, c.n); !bytes.Equal(got, c.want) {
			t.Errorf("P4.1: Int(nil, %d) = %v, not %v", c.n, got, c.want)
		}
	}
	if got := pack.String(nil, "ab"); !bytes.Equal(got, []byte{1, 2, 97, 98}) {
		t.Errorf("P4.1: String(nil, \"ab\") = %v", got)
	}
	if got := pack.String(nil, ""); !bytes.Equal(got, []byte{0}) {
		t.Errorf("P4.1: String(nil, \"\") = %v", got)
	}
	if got := pack.Strings(nil, []string{"", "ab"}); !bytes.Equal(got, []byte{1, 2, 0, 1, 2, 97, 98}) {
		t.Errorf("P4.1: Strings(nil, [\"\" \"ab\"]) = %v", got)
	}
	if got := pack.Strings(nil, nil); !bytes.Equal(got, []byte{0}) {
		t.Errorf("P4.1: Strings(nil, nil) = %v", got)
	}
}

// What is encoded is appended to a copy of the bytes, which are left as they are, also behind their end.
func TestEncode(t *testing.T) {
	for _, b := range [][]byte{nil, {}, {9}, []byte("ahead"), make([]byte, 300)} {
		check := func(encode func(b []byte) []byte, want []byte) {
			given, untouched := spare(b)
			got := encode(given)
			if !bytes.Equal(got, slices.Concat(b, want)) {
				t.Fatalf("P4.1: behind %d bytes: %.50x, not %.50x", len(b), got, want)
			}
			if !untouched() {
				t.Fatalf("P4.1: the argument of %d bytes is changed", len(b))
			}
			clear(given[:cap(given)])
			if !bytes.Equal(got, slices.Concat(b, want)) {
				t.Fatalf("P4.1: the result shares memory with the argument of %d bytes", len(b))
			}
		}
		for _, n := range integers() {
			check(func(b []byte) []byte { return pack.Int(b, n) }, encoded(n))
		}
		for _, s := range texts() {
			check(func(b []byte) []byte { return pack.String(b, s) }, encodedString(s))
		}
		for _, l := range lists() {
			check(func(b []byte) []byte { return pack.Strings(b, l) }, encodedStrings(l))
		}
	}
}

// Two results that begin with the same bytes do not share memory with each other.
func TestEncodeTwice(t *testing.T) {
	b := pack.String(nil, "begin")
	five, six := pack.Int(b, 5), pack.Int(b, 6)
	x, y := pack.String(b, "x"), pack.Strings(b, []string{"y"})
	for _, c := range []struct{ got, want []byte }{
		{five, encoded(5)}, {six, encoded(6)}, {x, encodedString("x")}, {y, encodedStrings([]string{"y"})},
	} {
		if !bytes.Equal(c.got, slices.Concat(encodedString("begin"), c.want)) {
			t.Errorf("P4.1: %v instead of %v, as other bytes were appended to the same beginning", c.got, c.want)
		}
	}
}

func TestInverse(t *testing.T) {
	for _, end := range ends() {
		for _, n := range integers() {
			b := pack.Int(nil, n)
			for _, least := range []int{math.MinInt, n} {
				r := pack.Read(slices.Concat(b, end))
				if got := r.Bounded(least, math.MaxInt); got != n || r.Offset() != len(b) {
					t.Errorf("P4.2: %d is read as %d to offset %d", n, got, r.Offset())
				}
			}
			r := pack.Read(slices.Concat(b, end))
			if got := r.Int(); got != n || r.Offset() != len(b) || (r.End() == api.OK) != (len(end) == 0) {
				t.Errorf("P4.2: %d is read as %d to offset %d, with %v", n, got, r.Offset(), r.End())
			}
		}
		for _, s := range texts() {
			b := pack.String(nil, s)
			r := pack.Read(slices.Concat(b, end))
			if got := r.String(); got != s || r.Offset() != len(b) || (r.End() == api.OK) != (len(end) == 0) {
				t.Errorf("P4.2: %.50q is read as %.50q to offset %d, with %v", s, got, r.Offset(), r.End())
			}
		}
		for _, l := range lists() {
			b := pack.Strings(nil, l)
			for _, most := range []int{len(l), len(l) + 1, math.MaxInt} {
				r := pack.Read(slices.Concat(b, end))
				if got := r.Strings(most); !slices.Equal(got, l) || r.Offset() != len(b) || (r.End() == api.OK) != (len(end) == 0) {
					t.Errorf("P4.2: a list of %d is read as one of %d to offset %d, with %v", len(l), len(got), r.Offset(), r.End())
				}
			}
		}
	}
}

// A value behind others is read as it is alone, and the offset counts from the start of all bytes.
func TestSequence(t *testing.T) {
	b := pack.Strings(pack.Int(pack.String(pack.Int(nil, -7), "text"), 4096), []string{"", "x"})
	r := pack.Read(b)
	n, first := r.Int(), r.Offset()
	s, second := r.String(), r.Offset()
	m, third := r.Bounded(4096, 4096), r.Offset()
	l, fourth := r.Strings(2), r.Offset()
	if n != -7 || s != "text" || m != 4096 || !slices.Equal(l, []string{"", "x"}) {
		t.Errorf("P4.2: %d, %q, %d and %q are read", n, s, m, l)
	}
	if first != 2 || second != 8 || third != 11 || fourth != 17 || r.End() != api.OK {
		t.Errorf("P4.2: the offsets are %d, %d, %d and %d, with %v", first, second, third, fourth, r.End())
	}
}

// failed checks that a reader has failed at an offset: nothing is read from then on.
func failed(t *testing.T, r *pack.Reader, offset int, what any) {
	t.Helper()
	for range 2 {
		if n := r.Int(); n != 0 || r.Offset() != offset {
			t.Fatalf("P4.5: %v: Int = %d at offset %d, not %d", what, n, r.Offset(), offset)
		}
		if n := r.Bounded(math.MinInt, math.MaxInt); n != 0 || r.Offset() != offset {
			t.Fatalf("P4.5: %v: Bounded = %d at offset %d, not %d", what, n, r.Offset(), offset)
		}
		if n := r.Bounded(3, 4); n != 0 || r.Offset() != offset {
			t.Fatalf("P4.5: %v: Bounded from 3 to 4 = %d at offset %d, not %d", what, n, r.Offset(), offset)
		}
		if s := r.String(); s != "" || r.Offset() != offset {
			t.Fatalf("P4.5: %v: String = %q at offset %d, not %d", what, s, r.Offset(), offset)
		}
		if l := r.Strings(math.MaxInt); len(l) != 0 || r.Offset() != offset {
			t.Fatalf("P4.5: %v: Strings = %q at offset %d, not %d", what, l, r.Offset(), offset)
		}
		if e := r.End(); e != api.ErrForm || r.Offset() != offset {
			t.Fatalf("P4.5: %v: End = %v at offset %d, not %d", what, e, r.Offset(), offset)
		}
		r.Fail()
	}
}

func TestInvalidInts(t *testing.T) {
	for _, b := range [][]byte{
		nil, {1}, {2, 5}, {8, 1, 1, 1, 1, 1, 1, 1}, {17}, {24, 1, 1, 1, 1, 1, 1, 1}, // not complete
		{1, 0}, {2, 0, 5}, {3, 0, 0, 1}, {17, 0}, {18, 0, 5}, {8, 0, 1, 1, 1, 1, 1, 1, 1}, // leading zeros
		{16}, {16, 0}, {16, 1}, // a zero with a sign
		{9, 1, 1, 1, 1, 1, 1, 1, 1, 1}, {15, 1, 1, 1, 1, 1, 1, 1, 1, 1, 1, 1, 1, 1, 1, 1}, {25, 1, 1, 1, 1, 1, 1, 1, 1, 1},
		{32}, {33, 5}, {48}, {49, 5}, {64}, {129, 5}, {128}, {255}, {255, 1},
		{8, 128, 0, 0, 0, 0, 0, 0, 0}, {8, 128, 0, 0, 0, 0, 0, 0, 1}, {8, 255, 255, 255, 255, 255, 255, 255, 255},
		{24, 128, 0, 0, 0, 0, 0, 0, 1}, {24, 192, 0, 0, 0, 0, 0, 0, 0}, {24, 255, 255, 255, 255, 255, 255, 255, 255},
	} {
		for _, read := range []func(r *pack.Reader){
			func(r *pack.Reader) { r.Int() }, func(r *pack.Reader) { r.Bounded(math.MinInt, math.MaxInt) },
			func(r *pack.Reader) { _ = r.String() }, func(r *pack.Reader) { r.Strings(math.MaxInt) },
		} {
			r := pack.Read(b)
			read(r)
			failed(t, r, 0, b)
			r = pack.Read(slices.Concat([]byte{1, 5, 1, 1, 'x'}, b))
			r.Int()
			_ = r.String()
			read(r)
			failed(t, r, 5, b)
		}
	}
}

func TestInvalidStrings(t *testing.T) {
	for _, b := range [][]byte{
		{1, 1}, {1, 3, 97, 98}, {2, 1, 0, 97}, {17, 1}, {17, 1, 97}, {24, 128, 0, 0, 0, 0, 0, 0, 0},
		{8, 127, 255, 255, 255, 255, 255, 255, 255}, {8, 127, 255, 255, 255, 255, 255, 255, 255, 97}, {8, 127, 255, 255, 255, 255, 255, 255, 247, 97},
	} {
		r := pack.Read(b)
		if s := r.String(); s != "" {
			t.Errorf("P4.1: String of %v = %q", b, s)
		}
		failed(t, r, 0, b)
	}
}

func TestInvalidLists(t *testing.T) {
	for _, b := range [][]byte{
		{1, 1}, {1, 2, 0}, {1, 2, 1, 2, 97, 98}, {1, 2, 1, 2, 97, 98, 1}, {1, 2, 1, 2, 97, 98, 1, 1}, {1, 1, 17, 1}, {1, 2, 0, 16},
		{17, 1}, {17, 1, 0}, {24, 128, 0, 0, 0, 0, 0, 0, 0}, {8, 127, 255, 255, 255, 255, 255, 255, 255, 0, 0},
	} {
		r := pack.Read(b)
		if l := r.Strings(math.MaxInt); len(l) != 0 {
			t.Errorf("P4.1: Strings of %v = %q", b, l)
		}
		failed(t, r, 0, b)
	}
}

// A list with more strings than it may have is not read, and nor is any list where the most is below zero.
func TestMostStrings(t *testing.T) {
	for _, l := range lists() {
		b := pack.Strings(pack.Int(nil, 5), l)
		for _, most := range []int{math.MinInt, -1, 0, 1, len(l) - 1, len(l), len(l) + 1} {
			r := pack.Read(b)
			r.Int()
			got := r.Strings(most)
			if len(l) <= most {
				if !slices.Equal(got, l) || r.End() != api.OK {
					t.Errorf("P4.1: %d of at most %d strings are read as %d", len(l), most, len(got))
				}
				continue
			}
			if len(got) != 0 {
				t.Errorf("P4.1: %d strings of at most %d are read", len(got), most)
			}
			failed(t, r, 2, most)
		}
	}
}

func TestBounded(t *testing.T) {
	bounds := []int{math.MinInt, -301, -300, -299, -1, 0, 1, 4, 5, 6, 255, 256, math.MaxInt - 1, math.MaxInt}
	for _, n := range bounds {
		b := pack.Int(pack.String(nil, "x"), n)
		for _, least := range bounds {
			for _, most := range bounds {
				r := pack.Read(b)
				_ = r.String()
				got := r.Bounded(least, most)
				if n >= least && n <= most {
					if got != n || r.End() != api.OK {
						t.Errorf("P4.1: %d is read as %d from %d to %d, with %v", n, got, least, most, r.End())
					}
					continue
				}
				if got != 0 {
					t.Errorf("P4.1: %d is read as %d from %d to %d", n, got, least, most)
				}
				failed(t, r, 3, []int{n, least, most})
			}
		}
	}
}

// beginsWithInt finds the encoding of an integer at the start of bytes by trying all sizes.
func beginsWithInt(b []byte) (n, size int, ok bool) {
	for size = 1; size <= len(b) && size <= 9; size++ {
		value := new(big.Int).SetBytes(b[1:size])
		if b[0]&16 != 0 {
			value.Neg(value)
		}
		if value.IsInt64() && bytes.Equal(encoded(int(value.Int64())), b[:size]) {
			return int(value.Int64()), size, true
		}
	}
	return 0, 0, false
}

// short calls a function for all strings of at most two bytes, and for longer ones of the bytes that matter.
func short(f func(b []byte)) {
	f(nil)
	for x := range 256 {
		f([]byte{byte(x)})
		for y := range 256 {
			f([]byte{byte(x), byte(y)})
		}
	}
	bytesThatMatter := []byte{0, 1, 2, 3, 8, 9, 16, 17, 18, 24, 127, 128, 255}
	var extend func(b []byte)
	extend = func(b []byte) {
		if len(b) > 2 {
			f(b)
		}
		if len(b) < 4 {
			for _, c := range bytesThatMatter {
				extend(append(b[:len(b):len(b)], c))
			}
		}
	}
	extend(nil)
	for _, head := range []byte{7, 8, 9, 23, 24, 25} {
		for _, first := range []byte{0, 1, 127, 128, 129, 255} {
			for _, last := range []byte{0, 1, 255} {
				for size := 8; size <= 10; size++ {
					b := make([]byte, size)
					b[0], b[1], b[size-1] = head, first, last
					f(b)
				}
			}
		}
	}
}

// model is the chapter's reader in other words: each value is a cut from the front of what is left.
type model struct {
	left   []byte
	offset int
	failed bool
}

func (m *model) move(size int) {
	m.left, m.offset = m.left[size:], m.offset+size
}

func (m *model) bounded(least, most int) int {
	n, size, ok := beginsWithInt(m.left)
	if m.failed || !ok || n < least || n > most {
		m.failed = true
		return 0
	}
	m.move(size)
	return n
}

func (m *model) text() string {
	n, size, ok := beginsWithInt(m.left)
	if m.failed || !ok || n < 0 || len(m.left[size:]) < n {
		m.failed = true
		return ""
	}
	s := string(m.left[size:][:n])
	m.move(size + n)
	return s
}

func (m *model) list(most int) []string {
	before := *m
	var l []string
	for n := m.bounded(0, most); n > 0 && !m.failed; n-- {
		l = append(l, m.text())
	}
	if m.failed {
		*m = before
		m.failed = true
		return nil
	}
	return l
}

func (m *model) end() api.Errno {
	if m.failed || len(m.left) > 0 {
		return api.ErrForm
	}
	return api.OK
}

// same makes the calls of a script (a letter each) on a reader and on the model of it, and compares all results.
func same(t *testing.T, b []byte, script string) {
	t.Helper()
	r, m := pack.Read(b), &model{left: b}
	for i, c := range script {
		ok := true
		switch c {
		case 'i':
			ok = r.Int() == m.bounded(math.MinInt, math.MaxInt)
		case 'b':
			ok = r.Bounded(0, 2) == m.bounded(0, 2)
		case 'n':
			ok = r.Bounded(-256, -1) == m.bounded(-256, -1)
		case 's':
			ok = r.String() == m.text()
		case 'l':
			ok = slices.Equal(r.Strings(2), m.list(2))
		case 'm':
			ok = slices.Equal(r.Strings(math.MaxInt), m.list(math.MaxInt))
		case 'f':
			r.Fail()
			m.failed = true
		}
		if !ok || r.Offset() != m.offset || r.End() != m.end() {
			t.Fatalf("P4.1: %v, call %d of %q: the offset is %d, not %d, the end %v, not %v, or the result is wrong", b, i, script, r.Offset(), m.offset, r.End(), m.end())
		}
	}
}

func TestShort(t *testing.T) {
	short(func(b []byte) {
		for _, script := range []string{"iii", "bbi", "nib", "sss", "lsi", "msl", "isi", "sis", "sl", "ifi"} {
			same(t, b, script)
		}
	})
}

// Many short scripts on bytes without a pattern, where small numbers are frequent.
func TestScripts(t *testing.T) {
	h := uint64(1)
	next := func(n int) int {
		h = h*6364136223846793005 + 1442695040888963407
		return int(h >> 33 % uint64(n))
	}
	for range 200000 {
		b, script := make([]byte, next(14)), make([]byte, 1+next(8))
		for i := range b {
			b[i] = []byte{0, 1, 1, 1, 2, 2, 3, 17, 18, byte(next(256))}[next(10)]
		}
		for i := range script {
			script[i] = "iiiibnsssllmf"[next(13)]
		}
		same(t, b, string(script))
	}
}

// Whatever is read to the end is encoded as the same bytes.
func TestCanonical(t *testing.T) {
	read := 0
	short(func(b []byte) {
		r := pack.Read(b)
		if n := r.Int(); r.End() == api.OK {
			read++
			if !bytes.Equal(pack.Int(nil, n), b) {
				t.Errorf("P4.3: %v is read as %d", b, n)
			}
		}
		r = pack.Read(b)
		if s := r.String(); r.End() == api.OK {
			read++
			if !bytes.Equal(pack.String(nil, s), b) {
				t.Errorf("P4.3: %v is read as %q", b, s)
			}
		}
		r = pack.Read(b)
		if l := r.Strings(math.MaxInt); r.End() == api.OK {
			read++
			if !bytes.Equal(pack.Strings(nil, l), b) {
				t.Errorf("P4.3: %v is read as %q", b, l)
			}
		}
		r = pack.Read(b)
		if n, s, l, m := r.Int(), r.String(), r.Strings(9), r.Bounded(-9, 9); r.End() == api.OK {
			read++
			if !bytes.Equal(pack.Int(pack.Strings(pack.String(pack.Int(nil, n), s), l), m), b) {
				t.Errorf("P4.3: %v is read as %d, %q, %q and %d", b, n, s, l, m)
			}
		}
	})
	if read < 1000 {
		t.Errorf("P4.3: only %d byte strings are read to the end", read)
	}
}

// beginnings calls a function for the proper beginnings of bytes, or of long bytes for some of them.
func beginnings(b []byte, f func(b []byte)) {
	for i := range b {
		if i < 30 || i >= len(b)-30 || i%1009 == 0 {
			f(b[:i])
		}
	}
}

func TestPrefix(t *testing.T) {
	for _, n := range integers() {
		beginnings(pack.Int(nil, n), func(b []byte) {
			r := pack.Read(b)
			if got := r.Int(); got != 0 {
				t.Errorf("P4.4: the beginning %v of the encoding of %d is read as %d", b, n, got)
			}
			failed(t, r, 0, n)
		})
	}
	for _, s := range texts() {
		beginnings(pack.String(nil, s), func(b []byte) {
			r := pack.Read(b)
			if got := r.String(); got != "" {
				t.Errorf("P4.4: %d bytes of the encoding of a string of %d are read as %.50q", len(b), len(s), got)
			}
			failed(t, r, 0, len(s))
		})
	}
	for _, l := range lists() {
		beginnings(pack.Strings(nil, l), func(b []byte) {
			r := pack.Read(b)
			if got := r.Strings(math.MaxInt); len(got) != 0 {
				t.Errorf("P4.4: %d bytes of the encoding of a list of %d are read as one of %d", len(b), len(l), len(got))
			}
			failed(t, r, 0, len(l))
		})
	}
}

// A reader that fails after some values stays at the offset behind them, although valid encodings follow.
func TestFailure(t *testing.T) {
	b := pack.Strings(pack.String(pack.Int(pack.Int(nil, 300), 0), "x"), []string{"y"})
	for i, fail := range []func(r *pack.Reader){
		func(r *pack.Reader) { r.Fail() },
		func(r *pack.Reader) { r.Bounded(1, 9) },
		func(r *pack.Reader) { r.Bounded(-9, -1) },
		func(r *pack.Reader) { r.Strings(-1) },
	} {
		r := pack.Read(b)
		if n := r.Int(); n != 300 {
			t.Errorf("P4.2: 300 is read as %d", n)
		}
		fail(r)
		failed(t, r, 3, i)
	}
	for _, b := range [][]byte{nil, {0}, {1, 5}} {
		r := pack.Read(b)
		r.Fail()
		failed(t, r, 0, b)
	}
}

// A reader that has come to the end of the bytes fails with everything that it reads further.
func TestBehindEnd(t *testing.T) {
	for i, read := range []func(r *pack.Reader){
		func(r *pack.Reader) { r.Int() }, func(r *pack.Reader) { r.Bounded(0, 9) },
		func(r *pack.Reader) { _ = r.String() }, func(r *pack.Reader) { r.Strings(9) },
	} {
		r := pack.Read([]byte{1, 5})
		if n := r.Int(); n != 5 || r.Offset() != 2 || r.End() != api.OK || r.End() != api.OK {
			t.Errorf("P4.1: 5 is read as %d to offset %d, with %v", n, r.Offset(), r.End())
		}
		read(r)
		failed(t, r, 2, i)
	}
}

// End does not let a reader fail: what is left can still be read.
func TestEnd(t *testing.T) {
	r := pack.Read([]byte{1, 5, 0})
	for i, want := range []int{5, 0} {
		if e := r.End(); e != api.ErrForm {
			t.Errorf("P4.1: End = %v ahead of value %d", e, i)
		}
		if n := r.Int(); n != want {
			t.Errorf("P4.1: value %d behind End is %d, not %d", i, n, want)
		}
	}
	if e := r.End(); e != api.OK {
		t.Errorf("P4.1: End = %v", e)
	}
	for _, b := range [][]byte{nil, {}} {
		if r := pack.Read(b); r.End() != api.OK || r.Offset() != 0 {
			t.Errorf("P4.1: End of no bytes = %v at offset %d", r.End(), r.Offset())
		}
	}
}

func TestNil(t *testing.T) {
	var r *pack.Reader
	for range 2 {
		if n := r.Int(); n != 0 {
			t.Errorf("P4.1: Int of nil = %d", n)
		}
		if n := r.Bounded(1, 2); n != 0 {
			t.Errorf("P4.1: Bounded of nil = %d", n)
		}
		if s := r.String(); s != "" {
			t.Errorf("P4.1: String of nil = %q", s)
		}
		if l := r.Strings(3); len(l) != 0 {
			t.Errorf("P4.1: Strings of nil = %q", l)
		}
		if n := r.Offset(); n != 0 {
			t.Errorf("P4.1: Offset of nil = %d", n)
		}
		if e := r.End(); e != api.ErrState {
			t.Errorf("P4.1: End of nil = %v", e)
		}
		r.Fail()
	}
}

// A reader has a copy of the bytes, and two readers of the same bytes do not affect each other.
func TestReaderMemory(t *testing.T) {
	want := pack.Strings(pack.String(pack.Int(nil, 300), "text"), []string{"a", "bc"})
	given, untouched := spare(want)
	r, other := pack.Read(given), pack.Read(given)
	other.Int()
	other.Fail()
	if !untouched() {
		t.Error("P4.1: the argument of Read is changed")
	}
	clear(given)
	if n, s, l := r.Int(), r.String(), r.Strings(2); n != 300 || s != "text" || !slices.Equal(l, []string{"a", "bc"}) || r.End() != api.OK {
		t.Errorf("P4.1: %d, %q and %q are read after the argument of Read was changed", n, s, l)
	}
	r = pack.Read(want)
	if n, l := r.Int(), r.String(); n != 300 || l != "text" {
		t.Errorf("P4.1: %d and %q are read", n, l)
	}
	if l := r.Strings(2); len(l) == 2 {
		l[0] = "changed"
	}
	r = pack.Read(want)
	r.Int()
	_ = r.String()
	if l := r.Strings(2); !slices.Equal(l, []string{"a", "bc"}) {
		t.Errorf("P4.1: %q is read after an earlier result was changed", l)
	}
}

// The sizes are not limited, the time is proportional to them, and a great number in short bytes takes no memory.
func TestLong(t *testing.T) {
	s := strings.Repeat("0123456789abcdef", 1<<20)
	l := make([]string, 1<<20)
	for i := range l {
		l[i] = s[i%16 : i%32]
		if i%32 < i%16 {
			l[i] = ""
		}
	}
	r := pack.Read(pack.Strings(pack.String(nil, s), l))
	if r.String() != s || !slices.Equal(r.Strings(math.MaxInt), l) || r.End() != api.OK {
		t.Errorf("P4.2: a long string and a long list are not read: %v", r.End())
	}
	for _, n := range []int{1 << 20, 1 << 40, math.MaxInt} {
		r := pack.Read(append(pack.Int(nil, n), make([]byte, 1000)...))
		if got := r.Strings(math.MaxInt); len(got) != 0 {
			t.Errorf("P4.1: %d of %d strings are read", len(got), n)
		}
		failed(t, r, 0, n)
	}
}
