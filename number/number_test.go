package number_test

import (
	"math"
	"math/rand"
	"reflect"
	"slices"
	"strings"
	"testing"

	"calque/api"
	"calque/number"
	"calque/table"
)

// TestFormatOfSample writes numbers with the symbols of the sample table.
func TestFormatOfSample(t *testing.T) {
	locales := table.Sample().Locales
	for _, x := range []struct {
		locale         int
		n, style, want string
	}{
		{0, "1234567.50", "", "1,234,567.50"}, {0, "0.256", "percent", "25.6%"}, {0, "0", "", "0"}, {0, "-1", "", "-1"}, {0, "999", "", "999"}, {0, "-1000", "", "-1,000"}, {0, "123456.123456", "", "123,456.123456"}, {0, "0.000000", "", "0.000000"},
		{0, "999999999999999.999999", "", "999,999,999,999,999.999999"}, {0, "-999999999999999", "integer", "-999,999,999,999,999"}, {0, "999.5", "integer", "1,000"}, {0, "-999.49", "integer", "-999"}, {0, "-0.4", "integer", "0"}, {0, "-0.5", "integer", "-1"}, {0, "1.000000", "integer", "1"},
		{0, "1", "percent", "100%"}, {0, "12.34567", "percent", "1,234.567%"}, {0, "-0.5", "percent", "-50%"}, {0, "0.00", "percent", "0%"}, {0, "0.000", "percent", "0.0%"}, {0, "-9999999999999.999999", "percent", "-999,999,999,999,999.9999%"},
		{3, "-1234.5", "", "-1 234,5"}, {3, "1234567", "", "1 234 567"}, {3, "10.5", "percent", "1 050%"}, {3, "2.50", "", "2,50"},
		{4, "-1234567.5", "", "-1234567.5"}, {4, "1234567.5", "integer", "1234568"}, {4, "12345", "percent", "1234500%"},
		{5, "12345", "", "1,2345"}, {5, "-1234", "", "-1234"}, {5, "123456789.5", "", "1,2345,6789.5"}, {5, "123", "percent", "1,2300%"},
	} {
		if s, e := number.Format(locales[x.locale], x.n, x.style); s != x.want || e != api.OK {
			t.Errorf("P15.1: Format(%s, %s, %q) is %q, %d, want %q", locales[x.locale].Tag, x.n, x.style, s, e, x.want)
		}
		if s, e := number.Parse(locales[x.locale], x.want); x.style == "" && (s != x.n || e != api.OK) {
			t.Errorf("P15.1, P15.2: Parse(%s, %q) is %q, %d, want %q", locales[x.locale].Tag, x.want, s, e, x.n)
		}
	}
}

func TestFormatExamples(t *testing.T) {
	long := symbols("point", "<group>", "minus ", " per cent", 3, 2)
	for _, x := range []struct {
		x              api.Symbols
		n, style, want string
	}{
		{symbols(".", ",", "-", "%", 3, 2), "1234567", "", "12,34,567"}, {symbols(".", ",", "-", "%", 3, 2), "-123456789012345.6", "", "-12,34,56,78,90,12,345.6"}, {symbols(".", ",", "-", "%", 3, 2), "99999.5", "integer", "1,00,000"},
		{long, "-1234567.25", "", "minus 12<group>34<group>567point25"}, {long, "-1234567.25", "percent", "minus 12<group>34<group>56<group>725 per cent"}, {long, "-1234567.25", "integer", "minus 12<group>34<group>567"},
		{symbols(".", "", "", "", 3, 3), "-1234.5", "", "1234.5"}, {symbols(".", "", "", "", 3, 3), "-1.5", "percent", "150"}, {symbols(".", ",", "-", "%", 3, -7), "1234567", "", "1,234,567"}, {symbols(".", ",", "-", "%", -3, 3), "1234567", "", "1234567"},
		{symbols("1", "2", "3", "4", 1, 1), "-99.9", "", "392919"}, {symbols(".", ".", ".", ".", 1, 1), "-99.9", "percent", ".9.9.9.0."}, {symbols("-", "-", "-", "-", 1, 1), "-99.9", "", "-9-9-9"},
	} {
		checkFormat(t, x.x, x.n, x.style, x.want, api.OK)
	}
}

// TestFormat compares texts of numbers with the model.
func TestFormat(t *testing.T) {
	all := someNumbers(6, 1500)
	for _, x := range slices.Concat(sounds, unsounds, []api.Symbols{{}, symbols("", ",", "-", "%", 3, 3)}) {
		for _, n := range all {
			for _, style := range []string{"", "integer", "percent"} {
				want, e := formatOf(x, n, style)
				checkFormat(t, x, n, style, want, e)
			}
		}
	}
}

// TestFormatErrors looks at each error, and at several of them at once.
func TestFormatErrors(t *testing.T) {
	good, none := sounds[0], symbols("", ",", "-", "%", 3, 3)
	styles := []string{"Integer", "integer ", " ", "percents", "percen", "%", "plain", "x", "\x00", "\xff", strings.Repeat("integer", 20000)}
	for _, n := range wrong {
		for _, style := range append(styles, "", "integer", "percent") {
			checkFormat(t, good, n, style, "", api.ErrArg)
			checkFormat(t, none, n, style, "", api.ErrArg)
			checkFormat(t, api.Symbols{}, n, style, "", api.ErrArg)
		}
	}
	for _, n := range edges {
		for _, style := range styles {
			checkFormat(t, good, n, style, "", api.ErrArg)
			checkFormat(t, none, n, style, "", api.ErrArg)
		}
		for _, style := range []string{"", "integer", "percent"} {
			checkFormat(t, none, n, style, "", api.ErrData)
			checkFormat(t, api.Symbols{}, n, style, "", api.ErrData)
		}
	}
	for _, n := range strings.Fields("999999999999999.5 -999999999999999.5 999999999999999.999999") {
		checkFormat(t, good, n, "integer", "", api.ErrRange)
	}
	for _, n := range strings.Fields("10000000000000 -10000000000000 10000000000000.000001 99999999999999 -999999999999999.999999") {
		checkFormat(t, good, n, "percent", "", api.ErrRange)
	}
}

func TestParseExamples(t *testing.T) {
	en, in, pl := sounds[0], sounds[1], symbols(",", " ", "-", " %", 3, 0)
	ab := symbols(".", "aa", "-", "%", 1, 1)
	for _, x := range []struct {
		x       api.Symbols
		s, want string
	}{
		{en, "1,234,567.50", "1234567.50"}, {en, "-12", "-12"}, {en, "0", "0"}, {en, "0.000000", "0.000000"}, {en, "-0.000001", "-0.000001"}, {en, "999,999,999,999,999.999999", "999999999999999.999999"},
		{en, "", ""}, {en, "-", ""}, {en, ".", ""}, {en, ",", ""}, {en, "-0", ""}, {en, "-0.00", ""}, {en, "01", ""}, {en, "0,001", ""}, {en, "1,23", ""}, {en, "1234", ""}, {en, "1234.5", ""}, {en, "12,34", ""}, {en, "12,345,6", ""}, {en, "1234,567", ""}, {en, ",123", ""}, {en, "123,", ""}, {en, "1,,234", ""}, {en, "1,2,34", ""},
		{en, "1.", ""}, {en, ".5", ""}, {en, "1.2.3", ""}, {en, "1..2", ""}, {en, "1.234,5", ""}, {en, "1.,5", ""}, {en, "--1", ""}, {en, "-+1", ""}, {en, "+1", ""}, {en, "1-", ""}, {en, "1.-2", ""}, {en, " 1", ""}, {en, "1 ", ""}, {en, "25.6%", ""}, {en, "1e2", ""}, {en, "\u0661", ""}, {en, "1\xff", ""}, {en, "1\x00", ""},
		{en, "1,000,000,000,000,000", ""}, {en, "1.1234567", ""}, {en, strings.Repeat("1", 100000), ""}, {en, strings.Repeat(",", 100000), ""}, {en, strings.Repeat(",", 100000) + "1", ""}, {en, "1." + strings.Repeat("0", 100000), ""},
		{in, "12,34,567", "1234567"}, {in, "1,234,567", ""}, {in, "1,23,456.5", "123456.5"}, {in, "123,456", ""},
		{pl, "1 234,5", "1234.5"}, {pl, "-1 234 567", "-1234567"}, {pl, "1234,5", ""}, {pl, "1,5", "1.5"}, {pl, "1.5", ""}, {pl, "1 234.5", ""}, {pl, "-1.5", ""}, {pl, "1,234,5", ""}, {pl, "50 %", ""},
		{ab, "1aa2", "12"}, {ab, "1aa2aa3.5", "123.5"}, {ab, "1aaa2", ""}, {ab, "1aaaa2", ""}, {ab, "1a2", ""}, {ab, "aa1", ""},
		{symbols(".", "", "", "%", 0, 0), "-5", ""}, {symbols(".", "", "", "%", 0, 0), "5", "5"}, {symbols(".", "", "x", "%", 0, 0), "-5", ""}, {symbols(".", "", "x", "%", 0, 0), "x5", "-5"}, {symbols(".", "", "x", "%", 0, 0), "x-5", ""}, {symbols(".", "-", "", "%", 1, 1), "-5", ""}, {symbols(".", "-", "", "%", 1, 1), "5-5", "55"},
		{symbols("-", "", "", "%", 0, 0), "5-5", "5.5"}, {symbols("-", "", "-", "%", 0, 0), "-5-5", "-5.5"}, {symbols("-", "", "-", "%", 0, 0), "5-5", "5.5"}, {symbols(".", "", "1", "%", 0, 0), "15", "-5"}, {symbols(".", "", "1", "%", 0, 0), "1", ""}, {symbols("0", "", "-", "%", 0, 0), "105", "1.5"}, {symbols("0", "", "-", "%", 0, 0), "15", "15"}, {symbols("0", "", "-", "%", 0, 0), "0", ""},
		{symbols(".", ".", "-", "%", 1, 1), "1.2", "1.2"}, {symbols(".", ".", "-", "%", 1, 1), "1.2.3", ""}, {symbols(".", "0", "-", "%", 1, 1), "102", "12"}, {symbols(".", "0", "-", "%", 1, 1), "10002", ""}, {symbols("\u066b", "\u066c", "-", "%", 3, 3), "1\u066c234\u066b5", "1234.5"},
	} {
		e := api.OK
		if x.want == "" {
			e = api.ErrSyntax
		}
		checkParse(t, x.x, x.s, x.want, e)
	}
}

// TestParseOfShort compares what Parse returns with the model, for all short texts of symbols and digits.
func TestParseOfShort(t *testing.T) {
	for _, x := range slices.Concat(sounds, unsounds) {
		pieces := []string{"0", "1", "-", "."}
		for _, s := range []string{x.Decimal, x.Group, x.Minus} {
			if s != "" && !slices.Contains(pieces, s) {
				pieces = append(pieces, s)
			}
		}
		accepted := 0
		for _, s := range stringsOf(pieces, 5) {
			want, e := parseOf(x, s)
			checkParse(t, x, s, want, e)
			if e == api.OK {
				accepted++
			}
		}
		if accepted < 10 {
			t.Errorf("P15.1: only %d texts are accepted with %+v", accepted, x)
		}
	}
}

// TestParseOfChanged compares what Parse returns with the model, for texts of numbers that are changed a bit.
func TestParseOfChanged(t *testing.T) {
	r := rand.New(rand.NewSource(150))
	all := someNumbers(3, 300)
	for _, x := range slices.Concat(sounds, unsounds) {
		pieces := []string{"", "0", "9", "-", ".", "x", "\xff", x.Decimal, x.Group, x.Minus, x.Percent, x.Group + x.Group}
		for range 4000 {
			s := textOf(x, all[r.Intn(len(all))])
			from := r.Intn(len(s) + 1)
			to := from + r.Intn(min(3, len(s)-from+1))
			s = s[:from] + pieces[r.Intn(len(pieces))] + s[to:]
			want, e := parseOf(x, s)
			checkParse(t, x, s, want, e)
		}
	}
}

// TestParseWithoutDecimal shows that ErrData goes ahead of ErrSyntax.
func TestParseWithoutDecimal(t *testing.T) {
	for _, x := range []api.Symbols{{}, symbols("", ",", "-", "%", 3, 3), symbols("", "", "", "", 0, 0), symbols("", ".", "", "", 1, 1)} {
		for _, s := range append([]string{"0", "1", "-1", "1.5", "1,234", "1%"}, wrong...) {
			checkParse(t, x, s, "", api.ErrData)
		}
	}
}

func TestGroupExamples(t *testing.T) {
	for _, x := range []struct {
		primary, secondary int
		s, want            string
	}{
		{3, 3, "", ""}, {3, 3, "1", "1"}, {3, 3, "123", "123"}, {3, 3, "1234", "1|234"}, {3, 3, "123456", "123|456"}, {3, 3, "1234567", "1|234|567"}, {3, 2, "123", "123"}, {3, 2, "1234", "1|234"}, {3, 2, "12345", "12|345"}, {3, 2, "123456", "1|23|456"}, {3, 2, "1234567", "12|34|567"},
		{4, 4, "12345", "1|2345"}, {2, 3, "123456", "1|234|56"}, {2, 4, "1234567", "1|2345|67"}, {1, 1, "1234", "1|2|3|4"}, {1, 2, "1234", "1|23|4"}, {1, 9, "1234", "123|4"}, {3, 0, "1234567", "1|234|567"}, {2, -1, "12345", "1|23|45"}, {1, math.MinInt, "123", "1|2|3"},
		{0, 3, "1234567", "1234567"}, {-1, 3, "1234567", "1234567"}, {math.MinInt, 1, "1234567", "1234567"}, {math.MaxInt, 1, "1234567", "1234567"}, {math.MaxInt, math.MinInt, "1234567", "1234567"}, {2, math.MaxInt, "1234567", "12345|67"}, {7, 1, "1234567", "1234567"}, {6, 1, "1234567", "1|234567"},
		{3, 3, "-12a,.", "-12|a,."}, {1, 1, "\u00e4\xff", "\xc3|\xa4|\xff"}, {2, 1, "a\u00e4", "a|\u00e4"}, {1, 1, "a\x00", "a|\x00"},
	} {
		for _, group := range []string{"|", ",", "", " ", "\u066c", "12", "<group>", "\xff"} {
			checkGroup(t, symbols("", group, "", "", x.primary, x.secondary), x.s, strings.ReplaceAll(x.want, "|", group))
		}
	}
}

// TestGroup compares grouped digits with the model.
func TestGroup(t *testing.T) {
	sizes := []int{math.MinInt, -100, -2, -1, 0, 1, 2, 3, 4, 5, 6, 7, 8, 9, 15, 16, 24, 25, 26, 1000, math.MaxInt - 1, math.MaxInt}
	some := "abcdefghijklmnopqrstuvwxyz"
	for length := range len(some) + 1 {
		for _, primary := range sizes {
			for _, secondary := range sizes {
				x := symbols("d", "-", "m", "p", primary, secondary)
				checkGroup(t, x, some[:length], groupOf(x, some[:length]))
			}
		}
	}
	long := strings.Repeat("0123456789", 30000)
	for _, sizes := range [][2]int{{1, 1}, {1, 0}, {3, 2}, {150000, 7}, {299999, 1}, {300000, 1}, {2, 299998}, {2, 299997}} {
		x := symbols(".", "\u066c", "-", "%", sizes[0], sizes[1])
		checkGroup(t, x, long, groupOf(x, long))
	}
}

func TestSoundExamples(t *testing.T) {
	for _, x := range sounds {
		if !number.Sound(x) {
			t.Errorf("P15.1: %+v are not sound", x)
		}
	}
	for _, x := range append(unsounds, api.Symbols{}, symbols("", ",", "-", "%", 3, 3), symbols("", "", "-", "%", 3, 3), symbols("", ",", "", "%", 3, 3)) {
		if number.Sound(x) {
			t.Errorf("P15.1: %+v are sound", x)
		}
	}
	for c := range 256 {
		s := "[" + string([]byte{byte(c)}) + "]"
		for i, x := range []api.Symbols{symbols(s, ",", "-", "%", 3, 3), symbols(".", s, "-", "%", 3, 3), symbols(".", ",", s, "%", 3, 3)} {
			want := (c < '0' || c > '9') && (i != 0 || c != ',') && (i != 1 || c != '.')
			if number.Sound(x) != want {
				t.Errorf("P15.1: Sound(%+v) is not %v", x, want)
			}
		}
	}
}

// TestSound compares what Sound returns with the definition, for all short symbols of a few bytes.
func TestSound(t *testing.T) {
	all := stringsOf([]string{"a", "b", "c", "0", "9"}, 2)
	count := 0
	for _, x := range triples(append(all, "abc", "bca", "cab", "\u066b", "\u066c", "\xd9", "\xab")) {
		if number.Sound(x) != isSound(x) {
			t.Errorf("P15.1: Sound(%+v) is %v", x, !isSound(x))
		}
		if isSound(x) {
			count++
		}
	}
	if count < 1000 {
		t.Errorf("P15.1: only %d symbols are sound", count)
	}
	a, b := strings.Repeat("a", 200000), strings.Repeat("b", 200000)
	if !number.Sound(symbols(a, b, "-", "", 3, 3)) || number.Sound(symbols(a, b+"a", "-", "", 3, 3)) || number.Sound(symbols(a, b, a+"-", "", 3, 3)) {
		t.Errorf("P15.1: Sound is wrong for long symbols")
	}
}

// triples returns symbols with all Decimal, Group and Minus of some strings.
func triples(all []string) []api.Symbols {
	var l []api.Symbols
	for _, point := range all {
		for _, group := range all {
			for _, minus := range all {
				l = append(l, symbols(point, group, minus, "%", 2, 1))
			}
		}
	}
	return l
}

// TestSoundOfRest shows that Percent, Primary and Secondary do not count.
func TestSoundOfRest(t *testing.T) {
	for _, percent := range []string{"", "%", "-", ".", ",", "0", "-.,0"} {
		for _, size := range []int{math.MinInt, -1, 0, 1, 3, math.MaxInt} {
			if x := symbols(".", ",", "-", percent, size, size-1); !number.Sound(x) {
				t.Errorf("P15.1: %+v are not sound", x)
			}
		}
	}
}

// TestRestOfLocale shows that only the symbols of a locale count, and that it is not changed.
func TestRestOfLocale(t *testing.T) {
	for i, loc := range table.Sample().Locales {
		before := table.Sample().Locales[i]
		for _, n := range edges {
			s, e := number.Format(loc, n, "")
			if want, f := number.Format(locale(loc.Symbols), n, ""); s != want || e != f {
				t.Errorf("P15.1: Format(%s, %s) is %q, %d, and %q, %d without the rest", loc.Tag, n, s, e, want, f)
			}
			m, e := number.Parse(loc, s)
			if want, f := number.Parse(locale(loc.Symbols), s); m != want || e != f {
				t.Errorf("P15.1: Parse(%s, %q) is %q, %d, and %q, %d without the rest", loc.Tag, s, m, e, want, f)
			}
		}
		if !reflect.DeepEqual(loc, before) {
			t.Errorf("P15.1: the locale %s is changed", loc.Tag)
		}
	}
}
