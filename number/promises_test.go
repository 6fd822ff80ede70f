package number_test

import (
	"slices"
	"strings"
	"testing"

	"calque/api"
	"calque/decimal"
	"calque/number"
)

// write returns the text of a number with the empty style.
func write(t *testing.T, x api.Symbols, n string) string {
	t.Helper()
	s, e := number.Format(locale(x), n, "")
	if e != api.OK {
		t.Fatalf("P15.1: Format(%+v, %s) has the error %d", x, n, e)
	}
	return s
}

// checkInverse shows that numbers are read from their texts, which are different ones.
func checkInverse(t *testing.T, x api.Symbols, numbers []string) {
	t.Helper()
	known := map[string]string{}
	for _, n := range numbers {
		s := write(t, x, n)
		if m, e := number.Parse(locale(x), s); m != n || e != api.OK {
			t.Errorf("P15.2: with %+v, %s is written %q, which is read as %q, %d", x, n, s, m, e)
		}
		if m, ok := known[s]; ok && m != n {
			t.Errorf("P15.2: with %+v, %s and %s are both written %q", x, m, n, s)
		}
		known[s] = n
	}
}

func TestInverse(t *testing.T) {
	numbers := someNumbers(7, 3000)
	for _, x := range sounds {
		checkInverse(t, x, numbers)
	}
}

// TestInverseOfAll looks at all short symbols that the program says are sound.
func TestInverseOfAll(t *testing.T) {
	numbers := someNumbers(2, 10)
	count := 0
	for _, x := range triples(stringsOf([]string{"a", "-", ".", "0"}, 2)) {
		if !number.Sound(x) {
			continue
		}
		count++
		for _, sizes := range [][2]int{{1, 1}, {2, 1}, {3, 0}} {
			x.Primary, x.Secondary = sizes[0], sizes[1]
			checkInverse(t, x, numbers)
		}
	}
	if count < 300 {
		t.Errorf("P15.2: only %d symbols are sound", count)
	}
}

// TestNotInverse shows that symbols that are not sound need not permit to read every number.
func TestNotInverse(t *testing.T) {
	for _, x := range []struct {
		x api.Symbols
		n string
	}{{symbols(".", ".", "-", "%", 1, 1), "123.4"}, {symbols(".", ",", "", "%", 3, 3), "-1"}, {symbols(".", "0", "-", "%", 1, 1), "20"}, {symbols("0", ",", "-", "%", 3, 3), "100"}, {symbols(".", ",", "1", "%", 3, 3), "12"}} {
		if m, _ := number.Parse(locale(x.x), write(t, x.x, x.n)); m == x.n || number.Sound(x.x) {
			t.Errorf("P15.2: %+v are sound, or %s is read from its text", x.x, x.n)
		}
	}
}

// TestAccepted shows that exactly the texts of numbers are accepted, for all short texts.
func TestAccepted(t *testing.T) {
	for _, x := range sounds {
		pieces := slices.DeleteFunc([]string{"0", "1", "x", x.Decimal, x.Group, x.Minus}, func(s string) bool { return s == "" })
		texts := map[string]string{}
		for _, n := range someNumbers(6, 0) {
			texts[write(t, x, n)] = n
		}
		accepted := 0
		for _, s := range stringsOf(pieces, 6) {
			n, e := number.Parse(locale(x), s)
			if m, ok := texts[s]; ok != (e == api.OK) || n != m {
				t.Errorf("P15.3: with %+v, %q is read as %q, %d, and it is the text of %q", x, s, n, e, m)
			}
			if e == api.OK {
				accepted++
			}
		}
		if accepted < 50 {
			t.Errorf("P15.3: only %d texts are accepted with %+v", accepted, x)
		}
	}
}

// TestAcceptedOfUnsound shows that symbols need not be sound for what is accepted.
func TestAcceptedOfUnsound(t *testing.T) {
	for _, x := range unsounds {
		pieces := slices.DeleteFunc([]string{"0", "1", "-", ".", x.Decimal, x.Group, x.Minus}, func(s string) bool { return s == "" })
		for _, s := range stringsOf(pieces, 4) {
			n, e := number.Parse(locale(x), s)
			if e == api.OK && (!decimal.Valid(n) || write(t, x, n) != s) {
				t.Errorf("P15.3: with %+v, %q is read as %q", x, s, n)
			}
			if e != api.OK && (e != api.ErrSyntax || n != "") {
				t.Errorf("P15.3: with %+v, %q is read as %q, %d", x, s, n, e)
			}
		}
	}
}

func TestGroups(t *testing.T) {
	const some = "1234567890123456789012345"
	for length := range len(some) + 1 {
		for primary := -1; primary <= 27; primary++ {
			for secondary := -1; secondary <= 27; secondary++ {
				checkGroups(t, primary, secondary, some[:length])
			}
		}
	}
}

// checkGroups looks at the groups of digits.
func checkGroups(t *testing.T, primary, secondary int, s string) {
	t.Helper()
	if got := number.Group(symbols(".", "", "-", "%", primary, secondary), s); got != s {
		t.Errorf("P15.4: without Group, Group(%d, %d, %s) is %s", primary, secondary, s, got)
	}
	for _, separator := range []string{",", "::"} {
		grouped := number.Group(symbols(".", separator, "-", "%", primary, secondary), s)
		groups := strings.Split(grouped, separator)
		if strings.Join(groups, "") != s {
			t.Errorf("P15.4: without %q, %s is not %s", separator, grouped, s)
		}
		if len(groups) == 1 {
			if primary >= 1 && len(s) > primary {
				t.Errorf("P15.4: the digits %s are not grouped (%d, %d)", s, primary, secondary)
			}
			continue
		}
		rest := secondary
		if rest < 1 {
			rest = primary
		}
		for i, group := range groups {
			isLast, isFirst := i == len(groups)-1, i == 0
			if isLast && len(group) != primary || !isLast && !isFirst && len(group) != rest || isFirst && (len(group) < 1 || len(group) > rest) {
				t.Errorf("P15.4: %s is grouped as %s (%d, %d)", s, grouped, primary, secondary)
			}
		}
	}
}

func TestStyles(t *testing.T) {
	numbers := someNumbers(6, 2000)
	for _, x := range append(sounds, unsounds...) {
		for _, n := range numbers {
			rounded, e := decimal.Round(n, 0)
			checkStyle(t, x, n, "integer", rounded, "", e)
			shifted, e := decimal.Shift(n, 2)
			checkStyle(t, x, n, "percent", shifted, x.Percent, e)
		}
	}
}

// checkStyle shows that a number is written in a style as another one with an end, or has an error.
func checkStyle(t *testing.T, x api.Symbols, n, style, other, end string, e api.Errno) {
	t.Helper()
	want := ""
	if e == api.OK {
		want = write(t, x, other) + end
	}
	if s, f := number.Format(locale(x), n, style); s != want || f != e {
		t.Errorf("P15.5: with %+v, %s in the style %s is %q, %d, want %q, %d", x, n, style, s, f, want, e)
	}
}
