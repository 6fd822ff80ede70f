package digest_test

import (
	"bytes"
	"fmt"
	"math"
	"math/big"
	"strings"
	"testing"

	"calque/api"
	"calque/digest"
)

var (
	factor  = new(big.Int).SetUint64(0x9FB21C651E98DF25)
	modulus = new(big.Int).Lsh(big.NewInt(1), 64)
)

// step is the chapter's step in numbers without a bound.
func step(h uint64, b byte) uint64 {
	k := new(big.Int).SetUint64(h)
	k.Xor(k, big.NewInt(int64(b)))
	k.Mul(k, factor).Mod(k, modulus)
	return k.Xor(k, new(big.Int).Rsh(k, 32)).Uint64()
}

// undo leads back from the number behind a step to the one ahead of it.
func undo(h uint64, b byte) uint64 {
	k := new(big.Int).SetUint64(h ^ h>>32)
	k.Mul(k, new(big.Int).ModInverse(factor, modulus)).Mod(k, modulus)
	return k.Uint64() ^ uint64(b)
}

// walk is the digest of bytes from a number by the definition.
func walk(h uint64, b []byte) uint64 {
	for _, c := range b {
		h = step(h, c)
	}
	return h
}

// little are the eight bytes of a number, made by division.
func little(n uint64) []byte {
	var b []byte
	for range 8 {
		b = append(b, byte(n%256))
		n /= 256
	}
	return b
}

// followed are bytes with the eight bytes of their number.
func followed(b []byte) []byte {
	return append(bytes.Clone(b), little(uint64(len(b)))...)
}

// numbers are some with few bits, all with one, and some without a pattern.
func numbers() []uint64 {
	l := []uint64{0, 3, 5, 15, 255, 256, 0x0123456789abcdef, 0xfedcba9876543210, digest.Start, math.MaxUint32, math.MaxInt64, math.MaxUint64}
	for i := range 64 {
		l = append(l, 1<<i)
	}
	h := uint64(1)
	for range 20 {
		h = h*6364136223846793005 + 1442695040888963407
		l = append(l, h)
	}
	return l
}

// samples are byte strings of many lengths, with and without patterns.
func samples() [][]byte {
	l := [][]byte{nil, {}, {0}, {1}, {255}, []byte("a"), []byte("calque"), little(0), little(math.MaxUint64)}
	for _, n := range []int{2, 3, 7, 8, 9, 16, 31, 255, 256, 257, 300} {
		l = append(l, make([]byte, n), bytes.Repeat([]byte{255}, n))
		mixed := make([]byte, n)
		for i := range mixed {
			mixed[i] = byte(i*i*31 + i*7 + n)
		}
		l = append(l, mixed)
	}
	return l
}

// spare returns the bytes in memory with room behind them, and a function that reports whether all of it is untouched.
func spare(b []byte) ([]byte, func() bool) {
	memory := append(bytes.Clone(b), "room behind the bytes"...)
	before := bytes.Clone(memory)
	return memory[:len(b)], func() bool { return bytes.Equal(memory, before) }
}

// The numbers here were computed by another program in another language.
func TestKnown(t *testing.T) {
	ramp := func(n int) []byte {
		b := make([]byte, n)
		for i := range b {
			b[i] = byte(i)
		}
		return b
	}
	if digest.Start != 0x63616C717565 {
		t.Errorf("P3.1: Start = %x", uint64(digest.Start))
	}
	for _, c := range []struct {
		h    uint64
		b    []byte
		want uint64
	}{
		{5, nil, 5}, {0, []byte{0}, 0}, {0, []byte("a"), 0x827cc25015904f55}, {0, []byte{255}, 0x126a48b9682c0d62},
		{math.MaxUint64, []byte{255}, 0x4de39ae12ac341e1}, {1 << 63, []byte{128}, 0x590e328f1561a00f},
		{0x123456789abcdef, []byte("calque"), 0x47c0a13a1562133a}, {digest.Start, ramp(256), 0xb07abdd1ef83c181},
	} {
		if got := digest.From(c.h, c.b); got != c.want {
			t.Errorf("P3.1: From(%x, %x) = %x, not %x", c.h, c.b, got, c.want)
		}
	}
	for _, c := range []struct {
		b    []byte
		want uint64
	}{
		{nil, 0xacfc424cb82415a7}, {[]byte{0}, 0xbf850501210d06bb}, {[]byte("a"), 0x16036364a163d016},
		{[]byte("abc"), 0x7dbecd6a4ef1cd3e}, {make([]byte, 255), 0x283e1cf412e28971}, {make([]byte, 256), 0x9850c071f2bc3def},
		{make([]byte, 65536), 0xabff6f9a88f87302}, {ramp(70000), 0xc0ac6b31a17cfc19},
	} {
		if got := digest.Sum(c.b); got != c.want {
			t.Errorf("P3.1: Sum of %d bytes = %x, not %x", len(c.b), got, c.want)
		}
	}
	for _, c := range []struct {
		key  uint64
		b    []byte
		want []byte
	}{
		{0, nil, []byte{0, 0, 0, 0, 0, 0, 0, 0}},
		{math.MaxUint64, nil, []byte{219, 16, 89, 26, 68, 187, 15, 123}},
		{digest.Start, nil, []byte{167, 21, 36, 184, 76, 66, 252, 172}},
		{7, []byte("abc"), []byte{'a', 'b', 'c', 195, 220, 6, 107, 156, 107, 151, 175}},
		{1 << 63, make([]byte, 300), append(make([]byte, 300), 232, 87, 127, 67, 37, 199, 188, 215)},
	} {
		if got := digest.Seal(c.key, c.b); !bytes.Equal(got, c.want) {
			t.Errorf("P3.1: Seal(%x, %x) = %x, not %x", c.key, c.b, got, c.want)
		}
	}
}

func TestDefinitions(t *testing.T) {
	for _, b := range samples() {
		if got, want := digest.Sum(b), walk(0x63616C717565, followed(b)); got != want {
			t.Errorf("P3.1: Sum(%x) = %x, not %x", b, got, want)
		}
		for _, h := range numbers() {
			if got, want := digest.From(h, b), walk(h, b); got != want {
				t.Errorf("P3.1: From(%x, %x) = %x, not %x", h, b, got, want)
			}
			want := append(bytes.Clone(b), little(walk(h, followed(b)))...)
			if got := digest.Seal(h, b); !bytes.Equal(got, want) {
				t.Errorf("P3.1: Seal(%x, %x) = %x, not %x", h, b, got, want)
			}
		}
	}
}

// Arguments are left as they are, also behind their ends, and results are memory of their own.
func TestMemory(t *testing.T) {
	for _, b := range samples() {
		given, untouched := spare(b)
		sealed := digest.Seal(9, given)
		digest.From(9, given)
		digest.Sum(given)
		if !untouched() {
			t.Errorf("P3.1: the argument %x is changed", b)
		}
		want := bytes.Clone(sealed)
		clear(given)
		if !bytes.Equal(sealed, want) {
			t.Errorf("P3.1: Seal(9, %x) shares memory with its argument", b)
		}

		given, untouched = spare(want)
		opened, e := digest.Open(9, given)
		if e != api.OK || !untouched() {
			t.Errorf("P3.1: Open(9, %x): %v, or the argument is changed", want, e)
		}
		clear(given)
		if !bytes.Equal(opened, b) {
			t.Errorf("P3.1: Open(9, %x) shares memory with its argument", want)
		}
		copy(given, want)
		_ = append(opened, "12345678 and more than there was room for"...)
		if !untouched() {
			t.Errorf("P3.1: Open(9, %x) has the memory of its argument behind its result", want)
		}
	}
}

func TestOpenInvalid(t *testing.T) {
	for _, key := range numbers() {
		for n := range 8 {
			// Neither the beginning nor the end of a sealed string is one, and nor are zeros.
			sealed := digest.Seal(key, nil)
			for _, s := range [][]byte{sealed[:n], sealed[8-n:], make([]byte, n)} {
				if b, e := digest.Open(key, s); len(b) != 0 || e != api.ErrForm {
					t.Errorf("P3.1: Open(%x, %x) = %x, %v", key, s, b, e)
				}
			}
		}
	}
	if b, e := digest.Open(0, nil); b != nil || e != api.ErrForm {
		t.Errorf("P3.1: %v, %v", b, e)
	}
	sealed := digest.Seal(7, []byte("abcdefgh"))
	for _, s := range [][]byte{
		sealed[1:], sealed[:15], sealed[:8], sealed[8:], append(bytes.Clone(sealed), 0), append([]byte{0}, sealed...),
		append([]byte("abcdefgh"), little(digest.Sum([]byte("abcdefgh")))...),
		append([]byte("abcdefgh"), little(digest.From(7, []byte("abcdefgh")))...),
		append([]byte("hgfedcba"), sealed[8:]...),
	} {
		if b, e := digest.Open(7, s); len(b) != 0 || e != api.ErrSum {
			t.Errorf("P3.1: Open(7, %x) = %x, %v", s, b, e)
		}
	}
}

// As every step can be undone, there is only one number from which it leads to its result.
func TestOneToOne(t *testing.T) {
	for _, h := range numbers() {
		for c := range 256 {
			if got := undo(digest.From(h, []byte{byte(c)}), byte(c)); got != h {
				t.Fatalf("P3.2: a step by %d from %x cannot be undone: %x", c, h, got)
			}
		}
	}
	for _, b := range samples() {
		seen := map[uint64]uint64{}
		for _, h := range numbers() {
			d := digest.From(h, b)
			if other, found := seen[d]; found && other != h {
				t.Fatalf("P3.2: the digests of %x from %x and from %x are both %x", b, h, other, d)
			}
			seen[d] = h
		}
	}
}

// changed calls a function for each byte string that differs from b in exactly one byte.
// Of a long string, it changes the bytes in a few ways only.
func changed(b []byte, f func(b []byte)) {
	b = bytes.Clone(b)
	for i, c := range b {
		for x := 1; x < 256; x++ {
			if len(b) > 40 && x&(x-1) != 0 && x != 255 {
				continue
			}
			b[i] = c ^ byte(x)
			f(b)
		}
		b[i] = c
	}
}

func TestChangedByte(t *testing.T) {
	for _, b := range samples() {
		sum, from := digest.Sum(b), digest.From(77, b)
		changed(b, func(other []byte) {
			if digest.Sum(other) == sum || digest.From(77, other) == from {
				t.Fatalf("P3.2: %x and %x have the same digest", b, other)
			}
		})
	}
}

func TestParts(t *testing.T) {
	for _, b := range samples() {
		for _, h := range numbers() {
			whole := digest.From(h, b)
			for i := range len(b) + 1 {
				if got := digest.From(digest.From(h, b[:i]), b[i:]); got != whole {
					t.Fatalf("P3.3: from %x, %x and %x: %x, not %x", h, b[:i], b[i:], got, whole)
				}
			}
		}
	}
}

func TestSealOpen(t *testing.T) {
	for _, b := range samples() {
		for _, key := range numbers() {
			sealed := digest.Seal(key, b)
			if got, e := digest.Open(key, sealed); !bytes.Equal(got, b) || e != api.OK {
				t.Errorf("P3.4: Open(%x, %x) = %x, %v", key, sealed, got, e)
			}
			for _, other := range numbers() {
				if other == key {
					continue
				}
				if got, e := digest.Open(other, sealed); len(got) != 0 || e != api.ErrSum {
					t.Fatalf("P3.4: Open(%x, %x) = %x, %v, sealed for %x", other, sealed, got, e, key)
				}
			}
		}
	}
}

func TestSealChanged(t *testing.T) {
	for _, b := range samples() {
		for _, key := range []uint64{0, 1, 1 << 63, digest.Start, math.MaxUint64} {
			changed(digest.Seal(key, b), func(other []byte) {
				if got, e := digest.Open(key, other); len(got) != 0 || e != api.ErrSum {
					t.Fatalf("P3.4: Open(%x, %x) = %x, %v, but a byte is changed", key, other, got, e)
				}
			})
		}
	}
}

func TestTexts(t *testing.T) {
	for _, h := range append(numbers(), 0xa, 0x9, 0xabcdef, 0xf000000000000000) {
		text := digest.Text(h)
		if want := fmt.Sprintf("%016x", h); text != want {
			t.Errorf("P3.1: Text(%x) = %q", h, text)
		}
		if got, e := digest.Parse(text); got != h || e != api.OK {
			t.Errorf("P3.5: Parse(%q) = %x, %v", text, got, e)
		}
	}
	if s := digest.Text(255); s != "00000000000000ff" {
		t.Errorf("P3.1: Text(255) = %q", s)
	}
}

// A text with one other byte is a text only if that byte is a digit in lower case, at every place.
func TestParseBytes(t *testing.T) {
	const digits = "0123456789abcdef"
	const text = "fedcba9876543210"
	for i := range len(text) {
		for c := range 256 {
			s := text[:i] + string([]byte{byte(c)}) + text[i+1:]
			value := strings.IndexByte(digits, byte(c))
			got, e := digest.Parse(s)
			if value < 0 {
				if got != 0 || e != api.ErrSyntax {
					t.Errorf("P3.5: Parse(%q) = %x, %v", s, got, e)
				}
				continue
			}
			shift := 4 * (15 - i)
			want := uint64(0xfedcba9876543210)&^(15<<shift) | uint64(value)<<shift
			if got != want || e != api.OK || digest.Text(got) != s {
				t.Errorf("P3.5: Parse(%q) = %x, %v, not %x", s, got, e, want)
			}
		}
	}
}

func TestParseInvalid(t *testing.T) {
	for n := range 40 {
		if n == 16 {
			continue
		}
		for _, c := range []string{"0", "1", "f"} {
			if h, e := digest.Parse(strings.Repeat(c, n)); h != 0 || e != api.ErrSyntax {
				t.Errorf("P3.5: Parse of %d times %q = %x, %v", n, c, h, e)
			}
		}
	}
	for _, s := range []string{
		"0x000000000000ff", "0X000000000000FF", "+0000000000000ff", "-0000000000000ff", " 0000000000000ff", "00000000000000f ",
		"00000000_0000_ff", "00000000000000FF", "00000000000000fF", "00000000000000ff\n", "\n00000000000000ff", "0x00000000000000ff",
		"00000000000000\xc3\xa4", "\xef\xbc\x91\xef\xbc\x91\xef\xbc\x91\xef\xbc\x91\xef\xbc\x91f", "ghijklmnopqrstuv", "................",
	} {
		if h, e := digest.Parse(s); h != 0 || e != api.ErrSyntax {
			t.Errorf("P3.5: Parse(%q) = %x, %v", s, h, e)
		}
	}
}

// The size of a byte string is not limited, and the time is proportional to it.
func TestLong(t *testing.T) {
	b := bytes.Repeat([]byte("0123456789abcdef"), 1<<20)
	sealed := digest.Seal(1, b)
	if got, e := digest.Open(1, sealed); !bytes.Equal(got, b) || e != api.OK {
		t.Errorf("P3.4: a long sealed string is not opened: %v", e)
	}
	half := len(b) / 2
	if digest.From(digest.From(3, b[:half]), b[half:]) != digest.From(3, b) {
		t.Error("P3.3: the parts of a long byte string")
	}
	sealed[half] ^= 16
	if got, e := digest.Open(1, sealed); len(got) != 0 || e != api.ErrSum {
		t.Errorf("P3.4: a changed long sealed string: %v", e)
	}
}
