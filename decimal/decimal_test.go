package decimal_test

import (
	"fmt"
	"math"
	"math/big"
	"regexp"
	"slices"
	"strconv"
	"strings"
	"testing"

	"calque/api"
	"calque/decimal"
)

// isNumber reports whether a string is a number, by the definition in other words: two patterns.
var isNumber = func() func(s string) bool {
	digits := regexp.MustCompile(`\A-?(0|[1-9][0-9]{0,14})(\.[0-9]{1,6})?\z`)
	negativeZero := regexp.MustCompile(`\A-[0.]*\z`)
	return func(s string) bool { return digits.MatchString(s) && !negativeZero.MatchString(s) }
}()

// stringsOf returns all strings of at most so many of some characters.
func stringsOf(characters string, most int) []string {
	all := []string{""}
	for begin, n := 0, 0; n < most; n++ {
		end := len(all)
		for _, s := range all[begin:end] {
			for i := range len(characters) {
				all = append(all, s+characters[i:i+1])
			}
		}
		begin = end
	}
	return all
}

// numbersOf returns the strings of a list that are numbers.
func numbersOf(all []string) []string {
	return slices.DeleteFunc(slices.Clone(all), func(s string) bool { return !isNumber(s) })
}

// random returns a function for numbers below n without a pattern, the same ones in every run.
func random() func(n int) int {
	h := uint64(1)
	return func(n int) int {
		h = h*6364136223846793005 + 1442695040888963407
		return int(h >> 33 % uint64(n))
	}
}

// randomNumber returns a number, in which the digits at which carries and halves begin are frequent.
func randomNumber(next func(int) int) string {
	digits := func(n int) string {
		const frequent = "0123456789000055554999999"
		var b strings.Builder
		same := frequent[next(len(frequent))]
		for range n {
			c := frequent[next(len(frequent))]
			if next(2) == 0 {
				c = same
			}
			b.WriteByte(c)
		}
		return b.String()
	}
	s := strings.TrimLeft(digits(1+next(api.MaxDigits)), "0")
	if s == "" {
		s = "0"
	}
	if n := next(api.MaxFraction + 1); n > 0 {
		s += "." + digits(n)
	}
	if isNumber("-"+s) && next(2) == 0 {
		s = "-" + s
	}
	return s
}

// edges are numbers at the limits, and at halves and carries.
var edges = []string{
	"0", "0.0", "0.000000", "1", "-1", "1.000000", "-1.000000", "0.000001", "-0.000001", "0.999999", "-0.999999", "0.100000",
	"999999999999999", "-999999999999999", "100000000000000", "-100000000000000", "123456789012345", "900000000000000",
	"999999999999999.999999", "-999999999999999.999999", "999999999999999.000000", "100000000000000.000000", "100000000000000.000001",
	"999999999999999.5", "-999999999999999.5", "999999999999999.4", "999999999999998.5", "99999999999999.5", "-99999999999999.999999",
	"9", "99", "9.5", "9.4", "99.5", "-99.5", "9.95", "9.949999", "9.995", "0.5", "-0.5", "0.4", "-0.4", "0.49", "-0.49", "0.499999", "-0.05", "0.05",
	"1.5", "2.5", "-1.5", "-2.5", "1.25", "1.35", "2.345", "1.005", "10", "10.00", "1.50", "1.500", "100.10", "20.02", "-100.00", "0.10", "0.01",
}

// numbers returns many numbers: all short ones, those at the limits, and long ones.
func numbers() []string {
	all := append(numbersOf(stringsOf("-.0159", 5)), edges...)
	next := random()
	for range 2000 {
		all = append(all, randomNumber(next))
	}
	return all
}

// fewNumbers returns numbers for tests of pairs, many of which have equal values.
func fewNumbers() []string {
	all := append(numbersOf(stringsOf("-.019", 4)), edges...)
	next := random()
	for range 100 {
		all = append(all, randomNumber(next))
	}
	return all
}

// wrong are strings that are no numbers.
var wrong = []string{
	"", "-", ".", "-.", "+1", "--1", "-+1", "1-", "1.", "-1.", ".1", "-.1", "1..2", "1.2.", "1.2.3", "1.-2", "1,5", "1e2", "0x1", "1_0", "x", "1x", "x1", "1.x", "1.5x",
	"00", "01", "-01", "00.5", "01.5", "000", "-0", "-0.0", "-0.000000", " 1", "1 ", "1 2", "1\n", "\n1", "1\x00", "\x001", "1.5\n", "\u0661", "\uff11", "\u22121", "1\xb2", "\xff", "NaN", "Inf",
	"1234567890123456", "-1234567890123456", "1000000000000000", "0000000000000001", "1234567890123456.5", "0.1234567", "-0.1234567", "1.0000000", "0.0000000", "1.0000001",
}

// valueOf returns the value of a number.
func valueOf(s string) *big.Rat {
	x, ok := new(big.Rat).SetString(s)
	if !ok {
		panic("no number: " + s)
	}
	return x
}

// power returns 10 to the power n.
func power(n int) *big.Rat {
	p := new(big.Rat).SetInt(new(big.Int).Exp(big.NewInt(10), big.NewInt(int64(max(n, -n))), nil))
	if n < 0 {
		p.Inv(p)
	}
	return p
}

// fractionOf returns the fraction of a number.
func fractionOf(s string) string {
	_, fraction, _ := strings.Cut(s, ".")
	return fraction
}

// result returns the number with a value and so many digits in its fraction, or ErrRange if it is none.
func result(x *big.Rat, digits int) (string, api.Errno) {
	if s := x.FloatString(digits); isNumber(s) {
		return s, api.OK
	}
	return "", api.ErrRange
}

// shiftOf returns what Shift must return, for at most 100 places.
func shiftOf(s string, n int) (string, api.Errno) {
	return result(new(big.Rat).Mul(valueOf(s), power(n)), max(0, len(fractionOf(s))-n))
}

// roundOf returns what Round must return: the nearest integer is that below the value and a half.
func roundOf(s string, digits int) (string, api.Errno) {
	if digits < 0 || digits > 6 {
		return "", api.ErrRange
	}
	scaled := new(big.Rat).Mul(valueOf(s), power(digits))
	more := new(big.Rat).Add(scaled.Abs(scaled), big.NewRat(1, 2))
	nearest := new(big.Rat).SetInt(new(big.Int).Quo(more.Num(), more.Denom()))
	if strings.HasPrefix(s, "-") {
		nearest.Neg(nearest)
	}
	return result(nearest.Mul(nearest, power(-digits)), digits)
}

// normalOf returns what Normal must return.
func normalOf(s string) string {
	if strings.Contains(s, ".") {
		s = strings.TrimRight(strings.TrimRight(s, "0"), ".")
	}
	return s
}

func TestValidShortStrings(t *testing.T) {
	check := func(s string) {
		t.Helper()
		if got, want := decimal.Valid(s), isNumber(s); got != want {
			t.Fatalf("P7.1: Valid(%q) is %v, must be %v", s, got, want)
		}
	}
	for _, s := range stringsOf("-.019x", 6) {
		check(s)
	}
	for i := range 256 {
		for k := range 256 {
			check(string([]byte{byte(i), byte(k)}))
			check(string([]byte{'1', byte(i), byte(k), '5'}))
		}
	}
	for whole := range 20 {
		for fraction := range 10 {
			for _, digits := range []string{"1", "0", "9"} {
				s := strings.Repeat(digits, whole)
				check(s)
				check("-" + s)
				check("0" + s)
				check("1" + s + "." + strings.Repeat("0", fraction))
				check("-0" + "." + strings.Repeat("0", fraction) + digits)
				check(s + "." + strings.Repeat(digits, fraction))
				check("-" + s + "." + strings.Repeat(digits, fraction))
			}
		}
	}
}

func TestValidChangedNumbers(t *testing.T) {
	for _, s := range edges {
		if !decimal.Valid(s) {
			t.Errorf("P7.1: Valid(%q) is false", s)
		}
		for i := range len(s) + 1 {
			for c := range 256 {
				more := s[:i] + string([]byte{byte(c)}) + s[i:]
				other := s[:i] + string([]byte{byte(c)}) + s[min(len(s), i+1):]
				if decimal.Valid(more) != isNumber(more) || decimal.Valid(other) != isNumber(other) {
					t.Fatalf("P7.1: Valid(%q) is %v, Valid(%q) is %v", more, decimal.Valid(more), other, decimal.Valid(other))
				}
			}
		}
	}
	for _, s := range append(wrong, strings.Repeat("1", 1000000), "0."+strings.Repeat("0", 1000000), strings.Repeat("-", 1000000)) {
		if decimal.Valid(s) {
			t.Errorf("P7.1: Valid(%.30q) is true", s)
		}
	}
}

func TestOperands(t *testing.T) {
	for _, s := range numbers() {
		size := strings.TrimPrefix(s, "-")
		whole, fraction, _ := strings.Cut(size, ".")
		trimmed := strings.TrimRight(fraction, "0")
		integer := func(digits string) int {
			n, _ := strconv.Atoi("0" + digits)
			return n
		}
		want := map[int]int{
			api.OperandI: integer(whole), api.OperandV: len(fraction), api.OperandW: len(trimmed),
			api.OperandF: integer(fraction), api.OperandT: integer(trimmed),
		}
		if trimmed == "" {
			want[api.OperandN] = want[api.OperandI]
		}
		for _, operand := range []int{math.MinInt, -1, 0, 1, 2, 3, 4, 5, 6, 7, 8, 257, math.MaxInt} {
			wantError := api.OK
			if _, ok := want[operand]; !ok {
				wantError = api.ErrArg
				if operand == api.OperandN {
					wantError = api.ErrNone
				}
			}
			if n, e := decimal.Operand(s, operand); n != want[operand] || e != wantError {
				t.Fatalf("P7.1: Operand(%q, %d) is %d, %d, must be %d, %d", s, operand, n, e, want[operand], wantError)
			}
		}
	}
}

func TestKnownOperands(t *testing.T) {
	for _, c := range []struct {
		s                string
		i, v, w, f, tail int
		integer          bool
	}{
		{"1.30", 1, 2, 1, 30, 3, false},
		{"1.3", 1, 1, 1, 3, 3, false},
		{"1.03", 1, 2, 2, 3, 3, false},
		{"1", 1, 0, 0, 0, 0, true},
		{"1.0", 1, 1, 0, 0, 0, true},
		{"-5.000000", 5, 6, 0, 0, 0, true},
		{"-0.000001", 0, 6, 6, 1, 1, false},
		{"0", 0, 0, 0, 0, 0, true},
		{"10.10", 10, 2, 1, 10, 1, false},
		{"999999999999999.999990", 999999999999999, 6, 5, 999990, 99999, false},
		{"-999999999999999", 999999999999999, 0, 0, 0, 0, true},
	} {
		for operand, want := range map[int]int{api.OperandI: c.i, api.OperandV: c.v, api.OperandW: c.w, api.OperandF: c.f, api.OperandT: c.tail} {
			if n, e := decimal.Operand(c.s, operand); n != want || e != api.OK {
				t.Errorf("P7.1: Operand(%q, %d) is %d, %d, must be %d", c.s, operand, n, e, want)
			}
		}
		n, e := decimal.Operand(c.s, api.OperandN)
		if c.integer && (n != c.i || e != api.OK) || !c.integer && (n != 0 || e != api.ErrNone) {
			t.Errorf("P7.1: Operand(%q, OperandN) is %d, %d", c.s, n, e)
		}
	}
}

func TestInteger(t *testing.T) {
	for _, s := range append(numbers(), wrong...) {
		want, ok := 0, isNumber(s) && valueOf(s).IsInt()
		if ok {
			want = int(valueOf(s).Num().Int64())
		}
		if n, is := decimal.Integer(s); n != want || is != ok {
			t.Fatalf("P7.1: Integer(%q) is %d, %v, must be %d, %v", s, n, is, want, ok)
		}
	}
	for _, c := range []struct {
		s    string
		want int
	}{{"0", 0}, {"0.00", 0}, {"-12.00", -12}, {"12", 12}, {"-999999999999999.0", -999999999999999}, {"999999999999999", 999999999999999}} {
		if n, ok := decimal.Integer(c.s); n != c.want || !ok {
			t.Errorf("P7.1: Integer(%q) is %d, %v, must be %d", c.s, n, ok, c.want)
		}
	}
}

func TestCompare(t *testing.T) {
	all := fewNumbers()
	for _, a := range all {
		for _, b := range all {
			want := valueOf(a).Cmp(valueOf(b))
			if order, e := decimal.Compare(a, b); order != want || e != api.OK {
				t.Fatalf("P7.1: Compare(%q, %q) is %d, %d, must be %d", a, b, order, e, want)
			}
			if same, e := decimal.Same(a, b); same != (want == 0) || e != api.OK {
				t.Fatalf("P7.1: Same(%q, %q) is %v, %d, must be %v", a, b, same, e, want == 0)
			}
		}
	}
	next := random()
	for range 20000 {
		// The second number differs from the first one in one digit at most.
		a := randomNumber(next)
		i := next(len(a))
		b := a[:i] + strconv.Itoa(next(10)) + a[i+1:]
		if !isNumber(b) {
			continue
		}
		want := valueOf(a).Cmp(valueOf(b))
		if order, e := decimal.Compare(a, b); order != want || e != api.OK {
			t.Fatalf("P7.1: Compare(%q, %q) is %d, %d, must be %d", a, b, order, e, want)
		}
		if same, e := decimal.Same(a, b); same != (want == 0) || e != api.OK {
			t.Fatalf("P7.1: Same(%q, %q) is %v, %d, must be %v", a, b, same, e, want == 0)
		}
	}
}

func TestKnownOrder(t *testing.T) {
	// Each string is a group of numbers with one value, and less than the next group.
	groups := strings.Split("-999999999999999.999999;-999999999999999 -999999999999999.0;-100000000000000;-10 -10.0;-9.9;-9 -9.000000;-1.5 -1.50;-1.49;-1 -1.0;-0.10 -0.1;-0.09;-0.000001;"+
		"0 0.0 0.000000;0.000001;0.00001 0.000010;0.09;0.1 0.10;0.5;1 1.000;1.49;1.5;2;9;9.9 9.90;10;10.01;100;99999999999999;100000000000000;999999999999999.999998;999999999999999.999999", ";")
	for i, l := range groups {
		for j, m := range groups {
			want := max(-1, min(i-j, 1))
			for _, a := range strings.Fields(l) {
				for _, b := range strings.Fields(m) {
					order, e := decimal.Compare(a, b)
					same, f := decimal.Same(a, b)
					if order != want || e != api.OK || same != (i == j) || f != api.OK {
						t.Errorf("P7.1: Compare(%q, %q) is %d, %d, Same is %v, %d", a, b, order, e, same, f)
					}
				}
			}
		}
	}
}

func TestShift(t *testing.T) {
	for _, s := range numbers() {
		for n := -30; n <= 30; n++ {
			want, wantError := shiftOf(s, n)
			if got, e := decimal.Shift(s, n); got != want || e != wantError {
				t.Fatalf("P7.1: Shift(%q, %d) is %q, %d, must be %q, %d", s, n, got, e, want, wantError)
			}
		}
	}
}

func TestKnownShifts(t *testing.T) {
	for _, c := range []struct {
		s    string
		n    int
		want string
		e    api.Errno
	}{
		{"1.50", 1, "15.0", api.OK},
		{"1.50", 2, "150", api.OK},
		{"1.50", 3, "1500", api.OK},
		{"7", -2, "0.07", api.OK},
		{"70", -1, "7.0", api.OK},
		{"-7", -2, "-0.07", api.OK},
		{"0.05", 1, "0.5", api.OK},
		{"0.05", 2, "5", api.OK},
		{"-0.005", 2, "-0.5", api.OK},
		{"100.00", -2, "1.0000", api.OK},
		{"0.0", -1, "0.00", api.OK},
		{"0", -6, "0.000000", api.OK},
		{"0", -7, "", api.ErrRange},
		{"0.000000", 3, "0.000", api.OK},
		{"0.000000", 6, "0", api.OK},
		{"0.000000", 7, "0", api.OK},
		{"0.000000", -1, "", api.ErrRange},
		{"0.000001", 20, "100000000000000", api.OK},
		{"0.000001", 21, "", api.ErrRange},
		{"-0.000009", 20, "-900000000000000", api.OK},
		{"1", 14, "100000000000000", api.OK},
		{"1", 15, "", api.ErrRange},
		{"1", -6, "0.000001", api.OK},
		{"1", -7, "", api.ErrRange},
		{"999999999999999", -6, "999999999.999999", api.OK},
		{"999999999999999.9", 0, "999999999999999.9", api.OK},
		{"999999999999999.9", 1, "", api.ErrRange},
		{"0.1", math.MaxInt, "", api.ErrRange},
		{"0.1", math.MinInt, "", api.ErrRange},
		{"0", math.MaxInt, "0", api.OK},
		{"0.000000", math.MaxInt, "0", api.OK},
		{"0", math.MinInt, "", api.ErrRange},
		{"0", math.MinInt + 1, "", api.ErrRange},
		{"0.0", math.MaxInt32 + 1, "0", api.OK},
		{"1", 1 << 32, "", api.ErrRange},
		{"1", -1 << 32, "", api.ErrRange},
	} {
		if got, e := decimal.Shift(c.s, c.n); got != c.want || e != c.e {
			t.Errorf("P7.1: Shift(%q, %d) is %q, %d, must be %q, %d", c.s, c.n, got, e, c.want, c.e)
		}
	}
}

func TestRound(t *testing.T) {
	for _, s := range numbers() {
		for _, digits := range []int{math.MinInt, -7, -1, 0, 1, 2, 3, 4, 5, 6, 7, 8, 15, 256, 1 << 32, math.MaxInt} {
			want, wantError := roundOf(s, digits)
			if got, e := decimal.Round(s, digits); got != want || e != wantError {
				t.Fatalf("P7.1: Round(%q, %d) is %q, %d, must be %q, %d", s, digits, got, e, want, wantError)
			}
		}
	}
}

func TestKnownRounds(t *testing.T) {
	for _, c := range []struct {
		s      string
		digits int
		want   string
		e      api.Errno
	}{
		{"2.345", 2, "2.35", api.OK},
		{"2.344", 2, "2.34", api.OK},
		{"2.3449", 2, "2.34", api.OK},
		{"-2.345", 2, "-2.35", api.OK},
		{"2.5", 0, "3", api.OK},
		{"3.5", 0, "4", api.OK},
		{"-2.5", 0, "-3", api.OK},
		{"0.5", 0, "1", api.OK},
		{"-0.5", 0, "-1", api.OK},
		{"-0.4", 0, "0", api.OK},
		{"-0.499999", 0, "0", api.OK},
		{"-0.004", 2, "0.00", api.OK},
		{"-0.005", 2, "-0.01", api.OK},
		{"3", 2, "3.00", api.OK},
		{"0", 6, "0.000000", api.OK},
		{"-3.1", 6, "-3.100000", api.OK},
		{"9.96", 1, "10.0", api.OK},
		{"99.5", 0, "100", api.OK},
		{"-9.999999", 5, "-10.00000", api.OK},
		{"0.999999", 0, "1", api.OK},
		{"10.49", 0, "10", api.OK},
		{"1.990", 2, "1.99", api.OK},
		{"99999999999999.5", 0, "100000000000000", api.OK},
		{"999999999999999.5", 0, "", api.ErrRange},
		{"-999999999999999.999999", 5, "", api.ErrRange},
		{"999999999999999.4", 0, "999999999999999", api.OK},
		{"999999999999999.999999", 6, "999999999999999.999999", api.OK},
		{"999999999999999", 6, "999999999999999.000000", api.OK},
		{"1", 7, "", api.ErrRange},
		{"1", -1, "", api.ErrRange},
		{"0", math.MinInt, "", api.ErrRange},
		{"0", math.MaxInt, "", api.ErrRange},
	} {
		if got, e := decimal.Round(c.s, c.digits); got != c.want || e != c.e {
			t.Errorf("P7.1: Round(%q, %d) is %q, %d, must be %q, %d", c.s, c.digits, got, e, c.want, c.e)
		}
	}
}

func TestNormal(t *testing.T) {
	for _, s := range numbers() {
		if got, e := decimal.Normal(s); got != normalOf(s) || e != api.OK {
			t.Fatalf("P7.1: Normal(%q) is %q, %d, must be %q", s, got, e, normalOf(s))
		}
	}
	for _, c := range []struct{ s, want string }{
		{"10.00", "10"}, {"10", "10"}, {"-1.500", "-1.5"}, {"-100.0", "-100"}, {"0.0", "0"}, {"0", "0"}, {"0.000010", "0.00001"}, {"1.05", "1.05"}, {"0.1", "0.1"},
		{"999999999999999.900000", "999999999999999.9"}, {"1000", "1000"}, {"-0.50", "-0.5"}, {"20.020", "20.02"},
	} {
		if got, e := decimal.Normal(c.s); got != c.want || e != api.OK {
			t.Errorf("P7.1: Normal(%q) is %q, %d, must be %q", c.s, got, e, c.want)
		}
	}
}

func TestWrongStrings(t *testing.T) {
	// A string that is no number is the error, whatever else is wrong.
	for _, s := range append(wrong, strings.Repeat("9", 1000000), "0."+strings.Repeat("0", 1000000)) {
		for _, n := range []int{math.MinInt, -7, -1, 0, 1, 2, 3, 4, 5, 6, 7, 100, math.MaxInt} {
			if got, e := decimal.Operand(s, n); got != 0 || e != api.ErrArg {
				t.Errorf("P7.1: Operand(%.30q, %d) is %d, %d", s, n, got, e)
			}
			if got, e := decimal.Shift(s, n); got != "" || e != api.ErrArg {
				t.Errorf("P7.1: Shift(%.30q, %d) is %q, %d", s, n, got, e)
			}
			if got, e := decimal.Round(s, n); got != "" || e != api.ErrArg {
				t.Errorf("P7.1: Round(%.30q, %d) is %q, %d", s, n, got, e)
			}
		}
		if got, e := decimal.Normal(s); got != "" || e != api.ErrArg {
			t.Errorf("P7.1: Normal(%.30q) is %q, %d", s, got, e)
		}
		if n, ok := decimal.Integer(s); n != 0 || ok {
			t.Errorf("P7.1: Integer(%.30q) is %d, %v", s, n, ok)
		}
		for _, pair := range [][2]string{{s, s}, {s, "0"}, {"0", s}, {s, "-1"}, {"-1", s}, {"1.5", s}, {s, "1.5"}} {
			if order, e := decimal.Compare(pair[0], pair[1]); order != 0 || e != api.ErrArg {
				t.Errorf("P7.1: Compare(%.30q, %.30q) is %d, %d", pair[0], pair[1], order, e)
			}
			if same, e := decimal.Same(pair[0], pair[1]); same || e != api.ErrArg {
				t.Errorf("P7.1: Same(%.30q, %.30q) is %v, %d", pair[0], pair[1], same, e)
			}
		}
	}
}

// compared returns the order of two numbers.
func compared(t *testing.T, a, b string) int {
	t.Helper()
	order, e := decimal.Compare(a, b)
	if e != api.OK {
		t.Fatalf("P7.2: Compare(%q, %q) has the error %d", a, b, e)
	}
	return order
}

func TestTotalOrder(t *testing.T) {
	all := numbersOf(stringsOf("-.019", 3))
	next := random()
	for range 40 {
		all = append(all, randomNumber(next))
	}
	for _, a := range all {
		for _, b := range all {
			order := compared(t, a, b)
			if back := compared(t, b, a); back != -order {
				t.Fatalf("P7.2: Compare(%q, %q) is %d, and %d the other way round", a, b, order, back)
			}
			if same, e := decimal.Same(a, b); same != (order == 0) || e != api.OK {
				t.Fatalf("P7.2: Compare(%q, %q) is %d, but Same %v, %d", a, b, order, same, e)
			}
			for _, c := range all {
				if order <= 0 && compared(t, b, c) <= 0 && compared(t, a, c) > 0 {
					t.Fatalf("P7.2: %q is at most %q, which is at most %q, but not the first at most the third", a, b, c)
				}
			}
		}
	}
}

func TestOrderIsKept(t *testing.T) {
	sorted := fewNumbers()
	next := random()
	for range 1000 {
		sorted = append(sorted, randomNumber(next))
	}
	slices.SortStableFunc(sorted, func(a, b string) int { return compared(t, a, b) })
	check := func(name string, f func(s string) (string, api.Errno)) {
		t.Helper()
		before, last := "", ""
		for _, s := range sorted {
			r, e := f(s)
			if e != api.OK {
				continue
			}
			if last != "" && compared(t, last, r) > 0 {
				t.Fatalf("P7.2: %s leads from %q to %q, and from %q to %q", name, before, last, s, r)
			}
			before, last = s, r
		}
	}
	for n := -6; n <= 21; n++ {
		check(fmt.Sprint("Shift by ", n), func(s string) (string, api.Errno) { return decimal.Shift(s, n) })
	}
	for digits := range 7 {
		check(fmt.Sprint("Round to ", digits), func(s string) (string, api.Errno) { return decimal.Round(s, digits) })
	}
}

func TestShiftAndBack(t *testing.T) {
	for _, s := range numbers() {
		if got, e := decimal.Shift(s, 0); got != s || e != api.OK {
			t.Fatalf("P7.3: Shift(%q, 0) is %q, %d", s, got, e)
		}
		for n := -22; n <= 22; n++ {
			there, e := decimal.Shift(s, n)
			back, f := "", api.ErrRange
			if e == api.OK {
				back, f = decimal.Shift(there, -n)
			}
			if f == api.OK && valueOf(back).Cmp(valueOf(s)) != 0 {
				t.Fatalf("P7.3: Shift by %d leads from %q to %q, and the way back to %q", n, s, there, back)
			}
		}
	}
	for _, c := range []struct {
		s           string
		n           int
		there, back string
	}{{"1.5", 3, "1500", "1.500"}, {"1500", -3, "1.500", "1500"}, {"0.10", 1, "1.0", "0.10"}, {"0", 4, "0", "0.0000"}} {
		there, e := decimal.Shift(c.s, c.n)
		back, f := decimal.Shift(there, -c.n)
		if there != c.there || e != api.OK || back != c.back || f != api.OK {
			t.Errorf("P7.3: Shift(%q, %d) is %q, %d, and the way back %q, %d", c.s, c.n, there, e, back, f)
		}
	}
}

func TestRoundedNumbers(t *testing.T) {
	for _, s := range numbers() {
		for digits := range 7 {
			r, e := decimal.Round(s, digits)
			if e == api.ErrRange && digits < len(fractionOf(s)) && strings.HasPrefix(strings.TrimPrefix(s, "-"), "999999999999999.") {
				continue
			}
			if e != api.OK || len(fractionOf(r)) != digits || !isNumber(r) {
				t.Fatalf("P7.4: Round(%q, %d) is %q, %d", s, digits, r, e)
			}
			difference := new(big.Rat).Sub(valueOf(r), valueOf(s))
			half := new(big.Rat).Quo(power(-digits), big.NewRat(2, 1))
			if difference.Abs(difference).Cmp(half) > 0 {
				t.Fatalf("P7.4: Round(%q, %d) is %q", s, digits, r)
			}
			if digits >= len(fractionOf(s)) && difference.Sign() != 0 {
				t.Fatalf("P7.4: Round(%q, %d) is %q, another value", s, digits, r)
			}
			if again, e := decimal.Round(r, digits); again != r || e != api.OK {
				t.Fatalf("P7.4: Round(%q, %d) is %q, and rounded again %q, %d", s, digits, r, again, e)
			}
		}
	}
}

func TestNormalForms(t *testing.T) {
	for _, s := range numbers() {
		normal, e := decimal.Normal(s)
		if same, f := decimal.Same(s, normal); e != api.OK || !same || f != api.OK {
			t.Fatalf("P7.5: Normal(%q) is %q, %d, another value", s, normal, e)
		}
		if again, e := decimal.Normal(normal); again != normal || e != api.OK {
			t.Fatalf("P7.5: Normal(%q) is %q, %d, but %q is a normal form", normal, again, e, normal)
		}
		for _, pair := range [][2]int{{api.OperandV, api.OperandW}, {api.OperandF, api.OperandT}} {
			n, e := decimal.Operand(normal, pair[0])
			m, f := decimal.Operand(s, pair[1])
			if n != m || e != api.OK || f != api.OK {
				t.Fatalf("P7.5: the operand %d of %q is %d, the operand %d of %q is %d", pair[0], normal, n, pair[1], s, m)
			}
		}
	}
	all := fewNumbers()
	for _, a := range all {
		for _, b := range all {
			x, e := decimal.Normal(a)
			y, f := decimal.Normal(b)
			same, g := decimal.Same(a, b)
			if (x == y) != same || e != api.OK || f != api.OK || g != api.OK {
				t.Fatalf("P7.5: Same(%q, %q) is %v, but the normal forms are %q and %q", a, b, same, x, y)
			}
		}
	}
}
