package validate_test

import (
	"math"
	"math/rand"
	"slices"
	"strings"
	"testing"

	"calque/api"
	"calque/validate"
)

// eachText calls a function with all texts of at most so many pieces.
func eachText(pieces []string, most int, f func(string)) {
	var extend func(s string, left int)
	extend = func(s string, left int) {
		f(s)
		if left == 0 {
			return
		}
		for _, p := range pieces {
			extend(s+p, left-1)
		}
	}
	extend("", most)
}

// eachPair calls a function with all bytes and all pairs of bytes.
func eachPair(f func(string)) {
	for a := range 256 {
		f(string([]byte{byte(a)}))
		for b := range 256 {
			f(string([]byte{byte(a), byte(b)}))
		}
	}
}

// skeletons returns all skeletons.
func skeletons() []string {
	var l []string
	for _, y := range []string{"", "y"} {
		for _, m := range []string{"", "M", "MM", "MMM"} {
			for _, e := range []string{"", "E"} {
				for _, d := range []string{"", "d", "dd"} {
					l = append(l, y+m+e+d)
				}
			}
		}
	}
	return l[1:]
}

func checkFields(t *testing.T, s string) {
	t.Helper()
	l, e := validate.Fields(s)
	want, wantError := fieldsOf(s)
	if !slices.Equal(l, want) || e != wantError {
		t.Errorf("P13.1: Fields(%.100q): %q with error %d, want %q with error %d", s, l, e, want, wantError)
	}
}

func checkDate(t *testing.T, skeleton, pattern string) {
	t.Helper()
	if got, want := validate.Date(skeleton, pattern), fits(skeleton, pattern); got != want {
		t.Errorf("P13.1: Date(%.100q, %.100q) is %v", skeleton, pattern, got)
	}
}

func checkPattern(t *testing.T, s string, n int) {
	t.Helper()
	if got, want := validate.Pattern(s, n), isPattern(s, n); got != want {
		t.Errorf("P13.1: Pattern(%.100q, %d) is %v", s, n, got)
	}
}

func TestFields(t *testing.T) {
	for _, c := range []struct {
		s, fields string
	}{
		{"yMMMEd", "y MMM E d"}, {"yMd", "y M d"}, {"yMMEdd", "y MM E dd"}, {"y", "y"}, {"M", "M"}, {"MM", "MM"}, {"MMM", "MMM"}, {"E", "E"}, {"d", "d"}, {"dd", "dd"}, {"yd", "y d"}, {"yE", "y E"}, {"MMMdd", "MMM dd"}, {"Ed", "E d"},
		{"", ""}, {"dMy", ""}, {"yy", ""}, {"MMMM", ""}, {"EE", ""}, {"ddd", ""}, {"yMy", ""}, {"dEd", ""}, {"My", ""}, {"EM", ""}, {"dE", ""}, {"yyMd", ""}, {"yMMMMd", ""}, {"y M", ""}, {" y", ""}, {"y ", ""}, {"yM\x00", ""},
		{"Y", ""}, {"m", ""}, {"e", ""}, {"D", ""}, {"yQ", ""}, {"Qy", ""}, {"yQd", ""}, {"x", ""}, {"ÿ", ""}, {"y\xff", ""}, {"М", ""}, {"yM\xd0\x9c", ""},
	} {
		l, e := validate.Fields(c.s)
		if strings.Join(l, " ") != c.fields || (e == api.OK) != (c.fields != "") || e != api.OK && (e != api.ErrSyntax || len(l) > 0) {
			t.Errorf("P13.1: Fields(%q): %q with error %d, want %s", c.s, l, e, c.fields)
		}
		checkFields(t, c.s)
	}
}

func TestFieldsOfAllTexts(t *testing.T) {
	count := 0
	eachText([]string{"y", "M", "E", "d", "x"}, 7, func(s string) {
		checkFields(t, s)
		if _, e := validate.Fields(s); e == api.OK {
			count++
		}
	})
	if all := skeletons(); len(all) != 47 || count != 47 {
		t.Errorf("P13.1: %d skeletons of %d", count, len(all))
	}
	eachPair(func(s string) { checkFields(t, s) })
	for _, s := range skeletons() {
		eachPair(func(part string) { checkFields(t, s+part[:1]) })
		for i := range len(s) + 1 {
			for b := range 256 {
				checkFields(t, s[:i]+string([]byte{byte(b)})+s[i:])
			}
		}
	}
	for _, letter := range []string{"y", "M", "E", "d", "x", "yMEd"} {
		checkFields(t, strings.Repeat(letter, 1000000))
	}
}

func TestFieldsAreNew(t *testing.T) {
	l, _ := validate.Fields("yMEd")
	again, _ := validate.Fields("yMEd")
	copy(l, []string{"a", "b", "c", "d"})
	third, _ := validate.Fields("yMEd")
	if !slices.Equal(again, third) || !slices.Equal(third, []string{"y", "M", "E", "d"}) {
		t.Errorf("P13.1: Fields returns %q and %q", again, third)
	}
}

func TestDate(t *testing.T) {
	for _, c := range []struct {
		skeleton, pattern string
		fits              bool
	}{
		{"yMMMEd", "E, MMM d, y", true}, {"yMMMEd", "d.MM.y", false}, {"yMd", "d.MM.y", true}, {"yMd", "y年M月d日", true}, {"yMd", "dd/MM/y", true}, {"yMMMd", "y M dd", true}, {"MMMd", "d 'MMM'", true},
		{"dd", "d", true}, {"d", "dd", true}, {"M", "MMM", true}, {"MMM", "-M-", true}, {"y", "{y}", true}, {"y", "y", true}, {"E", "\xffE\xff", true}, {"Ed", "d1E2", true},
		{"yMd", "d.M", false}, {"yM", "d.M.y", false}, {"yMd", "dMy", false}, {"yMd", "yMd", false}, {"d", "d d", false}, {"d", "d dd", false}, {"M", "M MM", false}, {"d", "", false}, {"d", "1. 2.", false}, {"d", "ddd", false}, {"y", "yy", false}, {"M", "MMMM", false}, {"E", "EE", false}, {"d", "D", false}, {"d", "d Q", false}, {"d", "d of", false}, {"yM", "y M M", false}, {"yM", "y y", false}, {"Md", "y d", false},
		{"", "", false}, {"", "d", false}, {"x", "d", false}, {"x", "x", false}, {"dMy", "d M y", false}, {"dd dd", "d", false}, {"dM", "d M", false}, {"MMMM", "M", false},
	} {
		if validate.Date(c.skeleton, c.pattern) != c.fits {
			t.Errorf("P13.1: Date(%q, %q) is not %v", c.skeleton, c.pattern, c.fits)
		}
		checkDate(t, c.skeleton, c.pattern)
	}
}

func TestDatesOfAllTexts(t *testing.T) {
	few := []string{"y", "MM", "E", "d", "yMMM", "Ed", "yMd", "MMMEdd", "yMEd"}
	eachText([]string{"y", "M", "E", "d", "-"}, 6, func(s string) {
		for _, skeleton := range few {
			checkDate(t, skeleton, s)
		}
	})
	eachText([]string{"y", "MM", "E", "dd", "Q", ".", "日"}, 4, func(s string) {
		for _, skeleton := range append(skeletons(), "", "x", "dM") {
			checkDate(t, skeleton, s)
		}
	})
}

// TestLetters puts each byte, and characters that look like letters, beside fields.
func TestLetters(t *testing.T) {
	eachPair(func(s string) {
		checkDate(t, "d", "d"+s)
		checkDate(t, "d", s+"d")
		checkDate(t, "yM", "M"+s+"y")
	})
	for _, s := range []string{"ä", "Ä", "ſ", "\u212a", "д", "日", "ª", "٣", "\u0301", "\ufeff", "\uff44", "𝐝"} {
		if !validate.Date("d", s+"d"+s) || validate.Date("d", s) {
			t.Errorf("P13.1: Date takes %q for a letter", s)
		}
	}
}

func TestPattern(t *testing.T) {
	nine := "{8}{1}{2}{3}{4}{5}{6}{7}{0}"
	for _, c := range []struct {
		s    string
		n    int
		good bool
	}{
		{"{0} km", 1, true}, {"{1}{0}", 2, true}, {"{0} and {1}", 2, true}, {"{0}", 1, true}, {"a{0}\x00\xff", 1, true}, {"{2}{0}{1}", 3, true}, {nine, 9, true}, {"0{0}0", 1, true}, {"[{0}]", 1, true}, {"｛{0}｝", 1, true},
		{"{0}", 2, false}, {"{1}", 1, false}, {"{1}", 2, false}, {"{0}{0}", 1, false}, {"{0}{0}", 2, false}, {"{0}{1}", 1, false}, {"{0}{1}{0}", 2, false}, {"{0}{2}", 2, false}, {"{0} {", 1, false}, {"{0} }", 1, false}, {"} {0}", 1, false}, {"{{0}", 1, false}, {"{0}}", 1, false}, {"{{0}}", 1, false}, {"{0}{}", 1, false}, {"{0}{a}", 1, false}, {"{0}{}", 2, false}, {"{0}}{", 2, false}, {"{ 0}", 1, false}, {"{0 }", 1, false}, {"{00}", 1, false}, {"{０}", 1, false}, {"{+0}", 1, false}, {"{-0}", 1, false}, {"", 1, false}, {"0", 1, false}, {"{", 1, false}, {"}", 1, false}, {"{}", 1, false}, {"}0{", 1, false}, {"{0", 1, false}, {"0}", 1, false},
		{nine, 8, false}, {nine + "{9}", 9, false}, {nine + "{9}", 10, false}, {nine + "{9}{10}", 11, false}, {nine, 10, false},
		{"", 0, false}, {"a", 0, false}, {"{0}", 0, false}, {"", -1, false}, {"{0}", -1, false}, {"{0}", math.MaxInt, false}, {"{0}", math.MinInt, false}, {"{0}", 1<<32 + 1, false},
	} {
		if validate.Pattern(c.s, c.n) != c.good {
			t.Errorf("P13.1: Pattern(%q, %d) is not %v", c.s, c.n, c.good)
		}
		checkPattern(t, c.s, c.n)
	}
}

func TestPatternsOfAllTexts(t *testing.T) {
	eachText([]string{"{0}", "{1}", "{2}", "{", "}", "0", "1", "x"}, 5, func(s string) {
		for n := range 5 {
			checkPattern(t, s, n-1)
		}
	})
	eachText([]string{"{", "}", "0", "1"}, 7, func(s string) {
		checkPattern(t, s, 1)
		checkPattern(t, s, 2)
	})
	eachPair(func(s string) {
		for n := range 3 {
			checkPattern(t, s, n)
			checkPattern(t, "{0}"+s, n)
			checkPattern(t, "{"+s+"}", n)
		}
	})
}

// TestManyPlaces looks at patterns with all numbers of places, and with one of them doubled, lost or replaced.
func TestManyPlaces(t *testing.T) {
	all := []string{"{0}", "{1}", "{2}", "{3}", "{4}", "{5}", "{6}", "{7}", "{8}", "{9}", "{10}", "{11}"}
	r := rand.New(rand.NewSource(1))
	for count := range len(all) + 1 {
		for range 50 {
			l := slices.Clone(all[:count])
			r.Shuffle(count, func(i, j int) { l[i], l[j] = l[j], l[i] })
			for n := -1; n <= len(all)+1; n++ {
				checkPattern(t, strings.Join(l, ""), n)
				for i := range l {
					checkPattern(t, strings.Join(l, " ")+l[i], n)
					checkPattern(t, strings.Join(slices.Delete(slices.Clone(l), i, i+1), "-"), n)
					other := slices.Clone(l)
					other[i] = all[r.Intn(len(all))]
					checkPattern(t, strings.Join(other, ", "), n)
				}
			}
		}
	}
	for _, s := range []string{"{0}", "{", "}", "a"} {
		checkPattern(t, strings.Repeat(s, 300000), 1)
	}
}
