package number_test

import (
	"math/big"
	"math/rand"
	"regexp"
	"slices"
	"strings"
	"testing"

	"calque/api"
	"calque/number"
)

// The definition of numbers, and their parts, as regular expressions.
var (
	digits    = regexp.MustCompile(`\A-?(?:0|[1-9][0-9]{0,14})(?:\.[0-9]{1,6})?\z`)
	minusZero = regexp.MustCompile(`\A-[0.]*\z`)
	fields    = regexp.MustCompile(`\A(-?)([0-9]+)(\.?)([0-9]*)\z`)
)

// isNumber reports whether a string is a number.
func isNumber(s string) bool {
	return digits.MatchString(s) && !minusZero.MatchString(s)
}

// groupOf returns what Group returns: it looks at each byte and counts those from it on.
func groupOf(x api.Symbols, s string) string {
	every := x.Secondary
	if every < 1 {
		every = x.Primary
	}
	var b strings.Builder
	for i := range len(s) {
		rest := len(s) - i
		begins := x.Primary >= 1 && rest >= x.Primary && (rest-x.Primary)%every == 0
		if i > 0 && begins {
			b.WriteString(x.Group)
		}
		b.WriteByte(s[i])
	}
	return b.String()
}

// textOf returns the text of a number with the empty style.
func textOf(x api.Symbols, n string) string {
	parts := fields.FindStringSubmatch(n)
	s := groupOf(x, parts[2])
	if parts[1] != "" {
		s = x.Minus + s
	}
	if parts[3] != "" {
		s = s + x.Decimal + parts[4]
	}
	return s
}

// formatOf returns what Format returns; it computes with exact fractions.
func formatOf(x api.Symbols, n, style string) (string, api.Errno) {
	if !isNumber(n) || !slices.Contains([]string{"", "integer", "percent"}, style) {
		return "", api.ErrArg
	}
	if x.Decimal == "" {
		return "", api.ErrData
	}
	if style == "" {
		return textOf(x, n), api.OK
	}
	value, _ := new(big.Rat).SetString(n)
	places, end := 0, ""
	if style == "percent" {
		_, fraction, _ := strings.Cut(n, ".")
		places, end = max(len(fraction)-2, 0), x.Percent
		value.Mul(value, big.NewRat(100, 1))
	}
	n = value.FloatString(places)
	if n == "-0" {
		n = "0"
	}
	if !isNumber(n) {
		return "", api.ErrRange
	}
	return textOf(x, n) + end, api.OK
}

// parseOf returns what Parse returns.
func parseOf(x api.Symbols, s string) (string, api.Errno) {
	if x.Decimal == "" {
		return "", api.ErrData
	}
	n, rest := "", s
	if x.Minus != "" && strings.HasPrefix(s, x.Minus) {
		n, rest = "-", s[len(x.Minus):]
	}
	parts := strings.SplitN(rest, x.Decimal, 2)
	if x.Group != "" {
		parts[0] = strings.Join(strings.Split(parts[0], x.Group), "")
	}
	n += strings.Join(parts, ".")
	if !isNumber(n) || textOf(x, n) != s {
		return "", api.ErrSyntax
	}
	return n, api.OK
}

// isSound returns what Sound returns.
func isSound(x api.Symbols) bool {
	begins := func(s, t string) bool { return len(s) <= len(t) && t[:len(s)] == s }
	for _, c := range []byte(x.Minus + x.Decimal + x.Group) {
		if '0' <= c && c <= '9' {
			return false
		}
	}
	if len(x.Minus) == 0 || len(x.Decimal) == 0 || begins(x.Minus, x.Decimal) || begins(x.Decimal, x.Minus) {
		return false
	}
	if len(x.Group) > 0 && (begins(x.Minus, x.Group) || begins(x.Group, x.Minus)) {
		return false
	}
	for _, c := range []byte(x.Decimal) {
		if slices.Contains([]byte(x.Group), c) {
			return false
		}
	}
	return true
}

// locale returns a locale that has nothing but symbols.
func locale(x api.Symbols) api.Locale {
	return api.Locale{Symbols: x}
}

// checkFormat compares what Format returns.
func checkFormat(t *testing.T, x api.Symbols, n, style, want string, e api.Errno) {
	t.Helper()
	if s, f := number.Format(locale(x), n, style); s != want || f != e {
		t.Errorf("P15.1: Format(%+v, %q, %q) is %q, %d, want %q, %d", x, n, style, s, f, want, e)
	}
}

// checkParse compares what Parse returns.
func checkParse(t *testing.T, x api.Symbols, s, want string, e api.Errno) {
	t.Helper()
	if n, f := number.Parse(locale(x), s); n != want || f != e {
		t.Errorf("P15.1: Parse(%+v, %q) is %q, %d, want %q, %d", x, s, n, f, want, e)
	}
}

// checkGroup compares what Group returns.
func checkGroup(t *testing.T, x api.Symbols, s, want string) {
	t.Helper()
	if got := number.Group(x, s); got != want {
		t.Errorf("P15.1: Group(%+v, %.100q) is %.100q, want %.100q", x, s, got, want)
	}
}

// stringsOf returns all strings of at most so many of some pieces.
func stringsOf(pieces []string, most int) []string {
	all, last := []string{""}, []string{""}
	for range most {
		var next []string
		for _, s := range last {
			for _, piece := range pieces {
				next = append(next, s+piece)
			}
		}
		all, last = append(all, next...), next
	}
	return all
}

// symbols returns symbols of a few strings and sizes.
func symbols(point, group, minus, percent string, primary, secondary int) api.Symbols {
	return api.Symbols{Decimal: point, Group: group, Minus: minus, Percent: percent, Primary: primary, Secondary: secondary}
}

// sounds are sound symbols of all kinds.
var sounds = []api.Symbols{
	symbols(".", ",", "-", "%", 3, 3), symbols(".", ",", "-", "%", 3, 2), symbols(".", ",", "-", "%", 2, 3), symbols(".", ",", "-", "%", 1, 1),
	symbols(".", ",", "-", "%", 1, 2), symbols(".", ",", "-", "%", 2, 1), symbols(".", ",", "-", "", 4, 4), symbols(".", ",", "-", "%", 3, 0), symbols(".", ",", "-", "%", 2, -1),
	symbols(".", ",", "-", "%", 0, 3), symbols(".", ",", "-", "%", -1, 2), symbols(".", "", "-", "%", 3, 3), symbols(".", "", "-", "%", 0, 0), symbols(",", " ", "-", " %", 3, 3),
	symbols(",", ".", "\u2212", "\u00a0%", 3, 0), symbols("::", ", ", "minus ", "-.,", 2, 2), symbols("-.", ",", ".-", "1", 1, 1), symbols(".", "a-", "-a", "%", 1, 0),
	symbols("..", ",,", "-..", "%", 1, 1), symbols(".-", ",", "-,.", "%", 2, 1), symbols("\xff", "\xfe", "\xfd", "\xfc", 2, 2), symbols("\x00", "\n", "\t", "0", 1, 3),
	symbols("d", "aba", "m", "%", 1, 1), symbols("\u066b", "'", "\u061c-", "\u066a", 3, 3), symbols(".", "aa", "ab", "%", 2, 2),
}

// unsounds are symbols of all kinds that are not sound, with a point.
var unsounds = []api.Symbols{
	symbols(".", ".", "-", "%", 3, 3), symbols(".", ".", "-", "%", 1, 1), symbols(".", "-", "-", "%", 1, 1), symbols("-", ",", "-", "%", 1, 1), symbols(".", ",", "", "%", 1, 1), symbols(".", "", "", "%", 0, 0),
	symbols("-", "", "", "%", 3, 3), symbols(",", "-", "", "%", 1, 1), symbols("--", ",", "-", "%", 2, 2), symbols("-", ",", "--", "%", 2, 2), symbols(".", "-,", "-", "%", 1, 2), symbols(".", "-", "-,", "%", 1, 1),
	symbols(".", ".,", "-", "%", 1, 1), symbols(".,", ",", "-", "%", 1, 1), symbols("0", ",", "-", "%", 1, 1), symbols("1", ",", "-", "%", 1, 1), symbols(".", "0", "-", "%", 1, 1), symbols(".", "1", "-", "%", 2, 1), symbols(".", "10", "-", "%", 1, 1),
	symbols(".", ",", "0", "%", 1, 1), symbols(".", ",", "1", "%", 1, 1), symbols(".", ",", "-1", "%", 2, 2), symbols("11", "1", "1", "1", 1, 1), symbols(".", "--", "-", "%", 1, 1), symbols("0.", ",", "-", "%", 1, 1), symbols("\u066b", "\u066c", "-", "%", 3, 3),
}

// edges are numbers at the limits, and at halves and carries.
var edges = strings.Fields(`0 0.0 0.000000 1 -1 1.0 -1.000000 9 10 99 100 -100 999 1000 -1000 9999 10000 12345 -123456 1234567 1234567.50 -1234567.1 12345678.123456 123456789012345
	999999999999999 -999999999999999 999999999999999.4 999999999999999.5 -999999999999999.5 999999999999999.499999 999999999999999.999999 -999999999999999.999999 100000000000000.000001
	9999999999999 -9999999999999.999999 10000000000000 -10000000000000 10000000000000.000001 9999999999999.9 99999999999999.99 0.256 0.5 -0.5 0.4 -0.4 0.49 -0.49 0.499999 -0.499999 1.5 2.5 -1.5 -2.5 9.5 99.5 999.5 -999.5 -999.4 9999.5
	0.01 0.001 0.1 -0.01 -0.005 0.004 0.000001 -0.000001 0.10 0.100 0.1000 1.25 -1.255 12.3456 100.000000 0.00 -0.10`)

// wrong are strings that are no numbers.
var wrong = []string{
	"", "-", ".", "-.", "+1", "--1", "1-", "1.", "-1.", ".1", "-.1", "1..2", "1.2.3", "1.-2", "1,5", "1,234", "1e2", "0x1", "1_0", "x", "1x", "00", "01", "-01", "00.5", "-0", "-0.0", "-0.000000", " 1", "1 ", "1\n", "\x001", "\u0661", "\u22121", "\xff", "NaN", "1%", "0%",
	"1000000000000000", "-1234567890123456", "0000000000000001", "0.0000000", "-0.1234567", "1.0000001", strings.Repeat("1", 100000), "0." + strings.Repeat("0", 100000),
}

// someNumbers returns all short numbers of a few digits, those of edges, and random ones.
func someNumbers(most, count int) []string {
	all := append(stringsOf([]string{"-", ".", "0", "1"}, most), edges...)
	r := rand.New(rand.NewSource(15))
	for range count {
		all = append(all, randomNumber(r))
	}
	return slices.DeleteFunc(all, func(s string) bool { return !isNumber(s) })
}

// randomNumber returns a random number, or a string that is none because it is a zero with a sign.
func randomNumber(r *rand.Rand) string {
	some := func(n int) string {
		const frequent = "01234567890459999"
		var b strings.Builder
		for range n {
			b.WriteByte(frequent[r.Intn(len(frequent))])
		}
		return b.String()
	}
	s := strings.TrimLeft(some(1+r.Intn(api.MaxDigits)), "0")
	if s == "" {
		s = "0"
	}
	if n := r.Intn(api.MaxFraction + 1); n > 0 {
		s += "." + some(n)
	}
	return []string{"", "-"}[r.Intn(2)] + s
}
