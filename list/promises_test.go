package list_test

import (
	"math/rand"
	"slices"
	"strconv"
	"strings"
	"testing"

	"calque/api"
	"calque/list"
	"calque/table"
)

// somePatterns returns all list patterns of a few good patterns, those of the sample table, and random ones.
func somePatterns(r *rand.Rand) []api.ListPattern {
	var all []api.ListPattern
	for _, two := range goods[:4] {
		for _, start := range goods[:4] {
			for _, middle := range goods[:4] {
				for _, end := range goods[:4] {
					all = append(all, patterns(two, start, middle, end))
				}
			}
		}
	}
	for _, loc := range table.Sample().Locales {
		all = append(all, loc.Lists...)
	}
	for range 500 {
		all = append(all, randomPatterns(r))
	}
	return all
}

// TestElements looks at the elements of lists whose elements differ, and which are not in the patterns.
func TestElements(t *testing.T) {
	r := rand.New(rand.NewSource(161))
	for _, p := range somePatterns(r) {
		for _, n := range []int{0, 1, 2, 3, 4, 5, 6, 20} {
			items := make([]string, n)
			for i := range items {
				items[i] = "#" + strconv.Itoa(i) + []string{"", "{0}", "{1}", "{", "é"}[r.Intn(5)] + ";"
			}
			s := join(t, p, items)
			for _, item := range items {
				if strings.Count(s, item) != 1 {
					t.Errorf("P16.2: with %q, the text of %q is %q", p, items, s)
				}
			}
			if len(s) != lengthOf(p, items) {
				t.Errorf("P16.2: with %q, the text of %q is %q, which has %d bytes and not %d", p, items, s, len(s), lengthOf(p, items))
			}
		}
	}
}

// TestElementsOfAllKinds does the same for elements that are the same, empty, or like places.
func TestElementsOfAllKinds(t *testing.T) {
	r := rand.New(rand.NewSource(162))
	for _, p := range somePatterns(r) {
		for range 20 {
			items := randomItems(r, r.Intn(30))
			s := join(t, p, items)
			length := len(s)
			for _, item := range items {
				if !strings.Contains(s, item) {
					t.Errorf("P16.2: with %q, the text of %q is %q", p, items, s)
				}
				length -= len(item)
			}
			// The same number of empty elements leaves only what is in the patterns.
			if length != len(join(t, p, make([]string, len(items)))) {
				t.Errorf("P16.2: with %q, the text of %q is %q", p, items, s)
			}
		}
	}
}

// TestLastElements shows that the elements go into the patterns in their order, if the places do.
func TestLastElements(t *testing.T) {
	p := patterns("{0} and {1}", "{0}, {1}", "{0}, {1}", "{0}, and {1}")
	items := []string{"a", "b", "c", "d", "e", "f", "g"}
	for n := 3; n <= len(items); n++ {
		want := strings.Join(items[:n-1], ", ") + ", and " + items[n-1]
		if s := join(t, p, items[:n]); s != want {
			t.Errorf("P16.2: the text of %q is %q", items[:n], s)
		}
	}
}

func TestSteps(t *testing.T) {
	r := rand.New(rand.NewSource(163))
	for _, p := range somePatterns(r) {
		for _, n := range []int{4, 5, 6, 7, 30} {
			checkStep(t, p, randomItems(r, n))
		}
	}
	for _, l := range listsOf([]string{"", "x", "{1}"}, 6) {
		if len(l) > 3 {
			checkStep(t, patterns("2[{0}|{1}]", "s[{0}|{1}]", "m[{1}|{0}]", "e[{0}|{1}]"), l)
		}
	}
	checkStep(t, same("{0}{1}"), slices.Repeat([]string{"a"}, 1000))
}

// checkStep compares the text of a list with Start, filled with its first element and the text of the others.
func checkStep(t *testing.T, p api.ListPattern, items []string) {
	t.Helper()
	others := api.ListPattern{Style: p.Style, Two: p.End, Start: p.Middle, Middle: p.Middle, End: p.End}
	want, e := list.Fill(p.Start, items[0], join(t, others, items[1:]))
	if s := join(t, p, items); s != want || e != api.OK {
		t.Errorf("P16.3: with %q, the text of %q is %q, want %q, %d", p, items, s, want, e)
	}
}

func TestSamePatterns(t *testing.T) {
	r := rand.New(rand.NewSource(164))
	separators := []string{"", ", ", " / ", "x", "0", "1", "\xff", "\x00", "、", " and ", "\n", strings.Repeat("-", 100)}
	for _, separator := range separators {
		p := same("{0}" + separator + "{1}")
		for _, l := range listsOf([]string{"", "a", "{0}", "{1}"}, 5) {
			checkSeparator(t, p, separator, l)
		}
		for n := range 100 {
			checkSeparator(t, p, separator, randomItems(r, n))
		}
		most := 20000 / max(20, len(separator))
		checkSeparator(t, p, separator, make([]string, most))
	}
}

// checkSeparator compares the text of a list with its elements and a separator in between.
func checkSeparator(t *testing.T, p api.ListPattern, separator string, items []string) {
	t.Helper()
	if s := join(t, p, items); s != strings.Join(items, separator) {
		t.Errorf("P16.4: with the separator %q, the text of %q is %q", separator, items, s)
	}
}
