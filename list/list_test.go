package list_test

import (
	"math/rand"
	"reflect"
	"slices"
	"strconv"
	"strings"
	"testing"

	"calque/api"
	"calque/list"
	"calque/table"
)

// TestJoinOfSample joins elements with the patterns of the sample table.
func TestJoinOfSample(t *testing.T) {
	locales := table.Sample().Locales
	for _, x := range []struct {
		locale             int
		style, items, want string
	}{
		{0, "and", "", ""}, {0, "and", "a", "a"}, {0, "and", "a b", "a, b"}, {0, "and", "a b c", "a, b, c"}, {0, "or", "a b", "a / b"}, {0, "or", "a b c d", "a / b / c / d"},
		{1, "and", "", ""}, {1, "and", "a", "a"}, {1, "and", "a b", "a and b"}, {1, "and", "a b c", "a, b, and c"}, {1, "and", "a b c d", "a, b, c, and d"}, {1, "and", "a b c d e", "a, b, c, d, and e"},
		{1, "or", "a b", "a or b"}, {1, "or", "a b c", "a, b, or c"}, {1, "or", "a b c d e f", "a, b, c, d, e, or f"}, {1, "and", "{1} {0}", "{1} and {0}"}, {1, "and", "{0} {0} {1}", "{0}, {0}, and {1}"},
		{2, "and", "a b c", "a, b and c"}, {3, "and", "a b", "a i b"}, {3, "and", "a b c d", "a, b, c i d"}, {4, "and", "a b", `a \ b`}, {4, "and", "a b c", `a \ b \ c`},
	} {
		checkText(t, locales[x.locale], x.style, strings.Fields(x.items), x.want, api.OK)
	}
	// What a locale inherits is no part of it here.
	for i, style := range []string{"x", "", "AND", "or", "or", "and"} {
		checkText(t, locales[i], style, []string{"a", "b"}, "", api.ErrData)
	}
}

func TestJoinExamples(t *testing.T) {
	each := patterns("2[{0}|{1}]", "s[{0}|{1}]", "m[{0}|{1}]", "e[{0}|{1}]")
	back := patterns("2[{1}|{0}]", "s[{1}|{0}]", "m[{1}|{0}]", "e[{1}|{0}]")
	for _, x := range []struct {
		p           api.ListPattern
		items, want string
	}{
		{each, "", ""}, {each, "a", "a"}, {each, "a b", "2[a|b]"}, {each, "a b c", "s[a|e[b|c]]"}, {each, "a b c d", "s[a|m[b|e[c|d]]]"}, {each, "a b c d e", "s[a|m[b|m[c|e[d|e]]]]"}, {each, "a b c d e f", "s[a|m[b|m[c|m[d|e[e|f]]]]]"},
		{back, "", ""}, {back, "a", "a"}, {back, "a b", "2[b|a]"}, {back, "a b c", "s[e[c|b]|a]"}, {back, "a b c d", "s[m[e[d|c]|b]|a]"}, {back, "a b c d e", "s[m[m[e[e|d]|c]|b]|a]"},
		{patterns("{1} {0}", "{0}{1}", "{0}{1}", "{0}{1}"), "a b", "b a"}, {patterns("{0}{1}", "{0},{1}", "{1}/{0}", "<{0}-{1}>"), "1 2 3 4 5", "1,<4-5>/3/2"},
	} {
		checkText(t, locale(x.p), "and", strings.Fields(x.items), x.want, api.OK)
	}
}

// TestJoin compares the texts of all short lists with the model, for all patterns of a few.
func TestJoin(t *testing.T) {
	few := []string{"{0}{1}", "({1}, {0})", "{0} and {1}", "{0}", "{0}{1}{"}
	items := []string{"", "x", "{1}", "{0}{1}"}
	short := listsOf(items, 4)
	for _, two := range few {
		for _, start := range few {
			for _, middle := range few {
				for _, end := range few {
					p := patterns(two, start, middle, end)
					for _, l := range short {
						checkJoin(t, p, l)
					}
				}
			}
		}
	}
	for _, l := range listsOf(items, 6) {
		checkJoin(t, patterns("{0}2{1}", "{0}s{1}", "{1}m{0}", "{1}e{0}"), l)
	}
}

func TestJoinOfRandom(t *testing.T) {
	r := rand.New(rand.NewSource(16))
	for range 20000 {
		checkJoin(t, randomPatterns(r), randomItems(r, r.Intn(12)))
	}
	for n := 0; n <= 1005; n += 5 {
		checkJoin(t, randomPatterns(r), randomItems(r, n))
	}
}

// TestStyles looks for the first list pattern among several, also among ones with the same style.
func TestStyles(t *testing.T) {
	styles := []string{"", "and", "or", "And", "and ", "an", "\xff"}
	for _, l := range listsOf(styles, 4) {
		var loc api.Locale
		for i, style := range l {
			joint := "{0}" + strconv.Itoa(i) + "{1}"
			loc.Lists = append(loc.Lists, api.ListPattern{Style: style, Two: joint, Start: joint, Middle: joint, End: joint})
		}
		for _, style := range append(styles, "x", strings.Repeat("and", 20000)) {
			want, found := patternOf(loc, style)
			if p, ok := list.Find(loc, style); p != want || ok != found {
				t.Errorf("P16.1: Find(%q, %.20q) is %q, %v, want %q, %v", l, style, p, ok, want, found)
			}
			s, e := joinOf(loc, style, []string{"a", "b", "c"})
			checkText(t, loc, style, []string{"a", "b", "c"}, s, e)
		}
	}
}

func TestFind(t *testing.T) {
	locales := table.Sample().Locales
	for _, x := range []struct {
		locale int
		style  string
		want   api.ListPattern
	}{
		{0, "or", api.ListPattern{Style: "or", Two: "{0} / {1}", Start: "{0} / {1}", Middle: "{0} / {1}", End: "{0} / {1}"}}, {1, "and", api.ListPattern{Style: "and", Two: "{0} and {1}", Start: "{0}, {1}", Middle: "{0}, {1}", End: "{0}, and {1}"}}, {1, "or", api.ListPattern{Style: "or", Two: "{0} or {1}", Start: "{0}, {1}", Middle: "{0}, {1}", End: "{0}, or {1}"}},
		{1, "", api.ListPattern{}}, {1, "Or", api.ListPattern{}}, {3, "or", api.ListPattern{}}, {5, "and", api.ListPattern{}},
	} {
		if p, ok := list.Find(locales[x.locale], x.style); p != x.want || ok != (x.want.Style != "") {
			t.Errorf("P16.1: Find(%s, %q) is %q, %v", locales[x.locale].Tag, x.style, p, ok)
		}
	}
	if p, ok := list.Find(api.Locale{}, ""); p != (api.ListPattern{}) || ok {
		t.Errorf("P16.1: without lists, Find returns %q, %v", p, ok)
	}
	// Find does not look at what the patterns mean.
	for _, p := range []api.ListPattern{{}, {Style: "x"}, {Style: "and", Two: "{", Start: "{0}", Middle: "}", End: "{2}"}} {
		if q, ok := list.Find(locale(p), p.Style); p != q || !ok {
			t.Errorf("P16.1: Find(%q) is %q, %v", p, q, ok)
		}
	}
}

func TestFillExamples(t *testing.T) {
	for _, x := range []struct{ pattern, a, b, want string }{
		{"{1} {0}", "a", "b", "b a"}, {"{0} and {1}", "a", "b", "a and b"}, {"{0}{1}", "", "", ""}, {"{0}{1}", "a", "b", "ab"}, {"{1}{0}", "a", "b", "ba"}, {"x{0}y{1}z", "a", "b", "xaybz"}, {"x{1}y{0}z", "a", "b", "xbyaz"}, {"{0}, {1}", "", "b", ", b"}, {"{0}, {1}", "a", "", "a, "},
		{"{0} and {1}", "{1}", "{0}", "{1} and {0}"}, {"{1} and {0}", "{1}", "{0}", "{0} and {1}"}, {"{0}{1}", "{0}", "{0}", "{0}{0}"}, {"{1}{0}", "{1}", "{1}", "{1}{1}"}, {"{0}|{1}", "{", "1}", "{|1}"}, {"{1}|{0}", "{0}{1}", "{1}{0}", "{1}{0}|{0}{1}"},
		{"0{0}0{1}1", "a", "b", "0a0b1"}, {"{0}\xff{1}", "\xe6", "\x97", "\xe6\xff\x97"}, {"\x00{0}日{1}", "a", "b", "\x00a日b"},
	} {
		if s, e := list.Fill(x.pattern, x.a, x.b); s != x.want || e != api.OK {
			t.Errorf("P16.1: Fill(%q, %q, %q) is %q, %d, want %q", x.pattern, x.a, x.b, s, e, x.want)
		}
	}
	for _, pattern := range bads {
		checkFill(t, pattern, "a", "b", api.ErrForm)
	}
	for _, pattern := range goods {
		checkFill(t, pattern, "a", "b", api.OK)
	}
}

// TestFill compares what Fill returns with the model, for all short patterns.
func TestFill(t *testing.T) {
	good := 0
	for _, pattern := range stringsOf([]string{"{0}", "{1}", "{2}", "{", "}", "0", "1", "x", "\xff"}, 5) {
		e := api.ErrForm
		if places.MatchString(pattern) {
			e = api.OK
			good++
		}
		checkFill(t, pattern, "a", "b", e)
		checkFill(t, pattern, "{1}", "{0}", e)
	}
	if good < 500 {
		t.Errorf("P16.1: only %d patterns have two places", good)
	}
	for _, pattern := range append(goods, bads...) {
		e := api.ErrForm
		if slices.Contains(goods, pattern) {
			e = api.OK
		}
		for _, a := range texts {
			for _, b := range texts {
				checkFill(t, pattern, a, b, e)
			}
		}
	}
}

// TestFillLong shows that Fill has no limit.
func TestFillLong(t *testing.T) {
	long := strings.Repeat("long ", 100000)
	checkFill(t, long+"{0}"+long+"{1}"+long, long, long+long, api.OK)
	checkFill(t, "{1}{0}"+long, "", "x", api.OK)
	checkFill(t, "{0}{1}", long+"{1}", "{0}"+long, api.OK)
	checkFill(t, "{0}"+long, long, long, api.ErrForm)
	checkFill(t, strings.Repeat("{0}", 100000), "a", "b", api.ErrForm)
}

// checkFill compares what Fill returns with the model.
func checkFill(t *testing.T, pattern, a, b string, e api.Errno) {
	t.Helper()
	want := ""
	if e == api.OK {
		want = fillOf(pattern, a, b)
	}
	if s, f := list.Fill(pattern, a, b); s != want || f != e {
		t.Errorf("P16.1: Fill(%.50q, %.50q, %.50q) is %.50q (%d bytes), %d, want %.50q (%d bytes), %d", pattern, a, b, s, len(s), f, want, len(want), e)
	}
}

// TestJoinErrors looks at each error for lists of all lengths, and at several errors at once.
func TestJoinErrors(t *testing.T) {
	long := strings.Repeat("x", 20001)
	lists := [][]string{nil, {"a"}, {"a", "b"}, {"a", "b", "c"}, {"a", "b", "c", "d"}, {long}, {long, long}, {long, long, long}, make([]string, 1000), make([]string, 1001), make([]string, 100000)}
	good := same("{0}{1}")
	for _, l := range lists {
		checkText(t, locale(), "and", l, "", api.ErrData)
		checkText(t, locale(good), "or", l, "", api.ErrData)
		checkText(t, locale(same("{0}")), "or", l, "", api.ErrData)
		checkText(t, locale(api.ListPattern{Style: "and"}), "and", l, "", api.ErrForm)
		for _, bad := range bads {
			for _, p := range []api.ListPattern{patterns(bad, "{0}{1}", "{0}{1}", "{0}{1}"), patterns("{0}{1}", bad, "{0}{1}", "{0}{1}"), patterns("{0}{1}", "{0}{1}", bad, "{0}{1}"), patterns("{0}{1}", "{0}{1}", "{0}{1}", bad), same(bad)} {
				checkText(t, locale(p), "and", l, "", api.ErrForm)
				checkText(t, locale(p, good), "and", l, "", api.ErrForm)
			}
		}
	}
	// The patterns of other styles, and those that are found later, may be wrong.
	other := same("{")
	checkText(t, locale(good, other), "and", []string{"a", "b"}, "ab", api.OK)
	other.Style = "or"
	checkText(t, locale(other, good), "and", []string{"a", "b"}, "ab", api.OK)
}

func TestNumberOfItems(t *testing.T) {
	p := same("{0}{1}")
	for _, n := range []int{998, 999, 1000} {
		checkText(t, locale(p), "and", make([]string, n), "", api.OK)
		checkText(t, locale(p), "and", slices.Repeat([]string{"ab"}, n), strings.Repeat("ab", n), api.OK)
	}
	for _, n := range []int{1001, 1002, 2000, 65536, 1000000} {
		checkText(t, locale(p), "and", make([]string, n), "", api.ErrLimit)
		checkText(t, locale(p), "and", slices.Repeat([]string{"ab"}, n), "", api.ErrLimit)
	}
}

// TestLongItems looks at lists whose texts have as many bytes as permitted, and one more.
func TestLongItems(t *testing.T) {
	kinds := []api.ListPattern{same("{0}{1}"), same("{1}{0}"), patterns("{0} and {1}", "{0}; {1}", "{0}, {1}", "{0}, and {1}"), patterns("<{1}日{0}>", "{1}{0}", "-{0}{1}", "{0}\xff{1}")}
	for _, p := range kinds {
		for _, n := range []int{1, 2, 3, 4, 5, 17, 999, 1000} {
			for _, at := range []int{0, 1, n / 2, n - 2, n - 1} {
				if at < 0 || at >= n {
					continue
				}
				items := slices.Repeat([]string{"x"}, n)
				room := 20000 - lengthOf(p, items)
				items[at] += strings.Repeat("y", room)
				checkJoin(t, p, items)
				if s := join(t, p, items); len(s) != 20000 {
					t.Errorf("P16.1: the text of %d elements has %d bytes", n, len(s))
				}
				items[at] += "z"
				checkText(t, locale(p), "and", items, "", api.ErrLimit)
				items[at] = strings.Repeat("z", 1000000)
				checkText(t, locale(p), "and", items, "", api.ErrLimit)
			}
		}
	}
	checkJoin(t, same("{0}{1}"), slices.Repeat([]string{strings.Repeat("x", 20)}, 1000))
	checkText(t, locale(same("{0}{1}")), "and", slices.Repeat([]string{strings.Repeat("x", 20000)}, 1000), "", api.ErrLimit)
}

// TestLongPatterns shows that exactly the patterns count that are used.
func TestLongPatterns(t *testing.T) {
	small := "{0}, {1}"
	for n := range 7 {
		items := slices.Repeat([]string{"x"}, n)
		for _, size := range []int{19980, 20001, 1000000} {
			long := strings.Repeat("y", size)
			for _, big := range []string{long + small, "{1}" + long + "{0}", small + long} {
				for _, p := range []api.ListPattern{patterns(big, small, small, small), patterns(small, big, small, small), patterns(small, small, big, small), patterns(small, small, small, big), same(big)} {
					checkJoin(t, p, items)
				}
			}
		}
	}
	for k, used := range []func(string) api.ListPattern{
		func(s string) api.ListPattern { return patterns(s, small, small, small) },
		func(s string) api.ListPattern { return patterns(small, s, small, small) },
		func(s string) api.ListPattern { return patterns(small, small, s, small) },
		func(s string) api.ListPattern { return patterns(small, small, small, s) },
	} {
		items := slices.Repeat([]string{"x"}, []int{2, 3, 4, 3}[k])
		room := 20000 - lengthOf(used(small), items)
		fits := used(small + strings.Repeat("y", room))
		checkText(t, locale(fits), "and", items, joinWithoutLimit(fits, items), api.OK)
		checkText(t, locale(used(small+strings.Repeat("y", room+1))), "and", items, "", api.ErrLimit)
	}
	checkText(t, locale(same(small+strings.Repeat("y", 20000))), "and", make([]string, 1000), "", api.ErrLimit)
}

// joinWithoutLimit returns the text of a list with two elements or more.
func joinWithoutLimit(p api.ListPattern, items []string) string {
	if len(items) == 2 {
		return fillOf(p.Two, items[0], items[1])
	}
	return fillOf(p.Start, items[0], restOf(p, items[1:]))
}

// TestArgumentsStay shows that nothing is changed, and that a call has no effect on another one.
func TestArgumentsStay(t *testing.T) {
	loc := table.Sample().Locales[1]
	room := []string{"a", "b", "c", "d", "e", "f"}
	items := room[:4]
	for range 3 {
		checkText(t, loc, "and", items, "a, b, c, and d", api.OK)
		list.Find(loc, "and")
		checkText(t, loc, "and", make([]string, 1001), "", api.ErrLimit)
	}
	if !slices.Equal(room, []string{"a", "b", "c", "d", "e", "f"}) || !reflect.DeepEqual(loc, table.Sample().Locales[1]) {
		t.Errorf("P16.1: Join changes %q or %+v", room, loc)
	}
	items[3] = "x"
	checkText(t, loc, "and", items, "a, b, c, and x", api.OK)
	p, _ := list.Find(loc, "and")
	loc.Lists[0].Two = "{1}{0}"
	if p.Two != "{0} and {1}" {
		t.Errorf("P16.1: what Find has returned is changed to %q", p)
	}
}
