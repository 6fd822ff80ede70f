package list_test

import (
	"math/rand"
	"regexp"
	"strings"
	"testing"

	"calque/api"
	"calque/list"
)

// places is the definition of a pattern with two places, as a regular expression.
var places = regexp.MustCompile(`\A[^{}]*(?:\{0\}[^{}]*\{1\}|\{1\}[^{}]*\{0\})[^{}]*\z`)

// fillOf returns a filled pattern: all places are replaced at once.
func fillOf(pattern, a, b string) string {
	return strings.NewReplacer("{0}", a, "{1}", b).Replace(pattern)
}

// patternOf returns the patterns of a style, which is found from the end on.
func patternOf(loc api.Locale, style string) (api.ListPattern, bool) {
	first := -1
	for i := len(loc.Lists) - 1; i >= 0; i-- {
		if loc.Lists[i].Style == style {
			first = i
		}
	}
	if first < 0 {
		return api.ListPattern{}, false
	}
	return loc.Lists[first], true
}

// joinOf returns what Join returns; it goes through the elements from the first one on.
func joinOf(loc api.Locale, style string, items []string) (string, api.Errno) {
	p, found := patternOf(loc, style)
	if !found {
		return "", api.ErrData
	}
	for _, s := range []string{p.Two, p.Start, p.Middle, p.End} {
		if !places.MatchString(s) {
			return "", api.ErrForm
		}
	}
	if len(items) > 1000 || lengthOf(p, items) > 20000 {
		return "", api.ErrLimit
	}
	switch len(items) {
	case 0:
		return "", api.OK
	case 1:
		return items[0], api.OK
	case 2:
		return fillOf(p.Two, items[0], items[1]), api.OK
	}
	return fillOf(p.Start, items[0], restOf(p, items[1:])), api.OK
}

// restOf returns the text of all elements of a list but its first one.
func restOf(p api.ListPattern, items []string) string {
	if len(items) == 2 {
		return fillOf(p.End, items[0], items[1])
	}
	return fillOf(p.Middle, items[0], restOf(p, items[1:]))
}

// lengthOf returns how long the text of a list is.
func lengthOf(p api.ListPattern, items []string) int {
	length := 0
	for _, s := range items {
		length += len(s)
	}
	without := func(s string) int { return len(s) - 6 }
	switch n := len(items); n {
	case 0, 1:
		return length
	case 2:
		return length + without(p.Two)
	default:
		return length + without(p.Start) + without(p.End) + (n-3)*without(p.Middle)
	}
}

// checkJoin compares what Join returns with the model, for one list of patterns.
func checkJoin(t *testing.T, p api.ListPattern, items []string) {
	t.Helper()
	want, e := joinOf(locale(p), p.Style, items)
	checkText(t, locale(p), p.Style, items, want, e)
}

// checkText compares what Join returns.
func checkText(t *testing.T, loc api.Locale, style string, items []string, want string, e api.Errno) {
	t.Helper()
	if s, f := list.Join(loc, style, items); s != want || f != e {
		t.Errorf("P16.1: Join(%.200q, %.20q, %.100q) of %d elements is %.100q (%d bytes), %d, want %.100q (%d bytes), %d", loc.Lists, style, items, len(items), s, len(s), f, want, len(want), e)
	}
}

// join returns the text of a list that has one.
func join(t *testing.T, p api.ListPattern, items []string) string {
	t.Helper()
	s, e := list.Join(locale(p), p.Style, items)
	if e != api.OK {
		t.Fatalf("P16.1: Join(%q, %.100q) of %d elements has the error %d", p, items, len(items), e)
	}
	return s
}

// locale returns a locale with lists only.
func locale(lists ...api.ListPattern) api.Locale {
	return api.Locale{Lists: lists}
}

// patterns returns list patterns with the style and.
func patterns(two, start, middle, end string) api.ListPattern {
	return api.ListPattern{Style: "and", Two: two, Start: start, Middle: middle, End: end}
}

// same returns list patterns that are all the same.
func same(s string) api.ListPattern {
	return patterns(s, s, s, s)
}

// stringsOf returns all strings of at most so many of some pieces.
func stringsOf(pieces []string, most int) []string {
	all, last := []string{""}, []string{""}
	for range most {
		var next []string
		for _, s := range last {
			for _, piece := range pieces {
				next = append(next, s+piece)
			}
		}
		all, last = append(all, next...), next
	}
	return all
}

// listsOf returns all lists of at most so many of some elements.
func listsOf(items []string, most int) [][]string {
	all, last := [][]string{nil}, [][]string{nil}
	for range most {
		var next [][]string
		for _, l := range last {
			for _, item := range items {
				next = append(next, append(l[:len(l):len(l)], item))
			}
		}
		all, last = append(all, next...), next
	}
	return all
}

// goods are patterns with two places.
var goods = []string{"{0}{1}", "{1}{0}", "{0} and {1}", "<{1}|{0}>", "a{0}, {1}\xff", "0{1}1{0}", "日{0}\x00{1}"}

// bads are strings that are no patterns with two places.
var bads = []string{"", "a", "{0}", "{1}", "{0}{0}", "{1}{1}", "{0}{1}{0}", "{0}{1}{1}", "{0}{1}{2}", "{0}{2}", "{1}{2}", "{0}{1}{", "}{0}{1}", "{{0}{1}", "{0}{1}}", "{0}{{1}}", "{0}{}{1}", "{0}{01}", "{0}{ 1}", "{0}1}", "{01}", "0{1}", "{0}{1", "{0}\uff5b1\uff5d"}

// texts are elements of all kinds.
var texts = []string{"", "a", "b", "{0}", "{1}", "{0}{1}", "{", "}", "0}", "{1", ", ", " and ", "\xff", "\x00", "日本", "\u202eabc", "{0} and {1}"}

// randomPatterns returns patterns with two places each, chosen at random.
func randomPatterns(r *rand.Rand) api.ListPattern {
	some := func() string {
		pieces := []string{"{0}", "{1}"}
		if r.Intn(2) == 0 {
			pieces = []string{"{1}", "{0}"}
		}
		around := func() string { return []string{"", "a", ", ", " and ", "\xff0", "1日"}[r.Intn(6)] }
		return around() + pieces[0] + around() + pieces[1] + around()
	}
	return patterns(some(), some(), some(), some())
}

// randomItems returns elements that are chosen at random.
func randomItems(r *rand.Rand, n int) []string {
	l := make([]string, n)
	for i := range l {
		l[i] = texts[r.Intn(len(texts))]
	}
	return l
}
