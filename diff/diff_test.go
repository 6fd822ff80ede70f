package diff_test

import (
	"fmt"
	"slices"
	"strings"
	"testing"

	"calque/api"
	"calque/diff"
)

// letters returns the letters of a string as a list.
func letters(s string) []string {
	return strings.Split(s, "")
}

// lists returns all lists of at most so many elements of an alphabet.
func lists(alphabet []string, most int) [][]string {
	all := [][]string{nil}
	for begin, n := 0, 0; n < most; n++ {
		end := len(all)
		for _, l := range all[begin:end] {
			for _, s := range alphabet {
				all = append(all, append(slices.Clone(l), s))
			}
		}
		begin = end
	}
	return all
}

// random returns a function for numbers below n without a pattern, the same ones in every run.
func random() func(n int) int {
	h := uint64(1)
	return func(n int) int {
		h = h*6364136223846793005 + 1442695040888963407
		return int(h >> 33 % uint64(n))
	}
}

// subsequences calls a function for all common subsequences of two lists.
func subsequences(a, b []string, f func(l [][2]int)) {
	var extend func(l [][2]int, i, j int)
	extend = func(l [][2]int, i, j int) {
		f(l)
		for ; i < len(a); i++ {
			for k := j; k < len(b); k++ {
				if a[i] == b[k] {
					extend(append(l[:len(l):len(l)], [2]int{i, k}), i+1, k+1)
				}
			}
		}
	}
	extend(nil, 0, 0)
}

// compare compares lists of pairs lexicographically, the pairs by i and then by j.
func compare(l, m [][2]int) int {
	return slices.CompareFunc(l, m, func(p, q [2]int) int { return slices.Compare(p[:], q[:]) })
}

// commonPart is the common part by the definition.
func commonPart(a, b []string) [][2]int {
	var best [][2]int
	subsequences(a, b, func(l [][2]int) {
		if len(l) > len(best) || len(l) == len(best) && compare(l, best) < 0 {
			best = l
		}
	})
	return best
}

// longest is the greatest length of a common subsequence, found from the beginnings of the lists on.
func longest(a, b []string) int {
	above := make([]int, len(b)+1)
	for _, s := range a {
		row := make([]int, len(b)+1)
		for j := range b {
			row[j+1] = max(row[j], above[j+1])
			if b[j] == s {
				row[j+1] = max(row[j+1], above[j]+1)
			}
		}
		above = row
	}
	return above[len(b)]
}

// stepwise is the common part of lists that are too long for the definition: the least pair with which the longest
// length can still be reached, and so on with the rest.
func stepwise(a, b []string) [][2]int {
	var l [][2]int
	i, j := 0, 0
next:
	for left := longest(a, b); left > 0; left-- {
		for x := i; x < len(a); x++ {
			for y := j; y < len(b); y++ {
				if a[x] == b[y] && longest(a[x+1:], b[y+1:]) == left-1 {
					l = append(l, [2]int{x, y})
					i, j = x+1, y+1
					continue next
				}
			}
		}
	}
	return l
}

// follow is the script for a common part by the definition: what belongs to no pair is deleted or inserted in its gap.
func follow(a, b []string, pairs [][2]int) []diff.Edit {
	var script []diff.Edit
	i, j := -1, -1
	for _, p := range append(slices.Clone(pairs), [2]int{len(a), len(b)}) {
		for i++; i < p[0]; i++ {
			script = append(script, diff.Edit{Kind: diff.Delete, Text: a[i]})
		}
		for j++; j < p[1]; j++ {
			script = append(script, diff.Edit{Kind: diff.Insert, Text: b[j]})
		}
		if i < len(a) {
			script = append(script, diff.Edit{Kind: diff.Keep, Text: a[i]})
		}
	}
	return script
}

// show returns a script as text.
func show(script []diff.Edit) string {
	s := ""
	for _, x := range script {
		s += fmt.Sprintf(" %d%q", x.Kind, x.Text)
	}
	return s
}

// check compares the results for two lists with those that belong to a common part.
func check(t *testing.T, a, b []string, want [][2]int) {
	t.Helper()
	if got := diff.Common(a, b); !slices.Equal(got, want) {
		t.Errorf("P5.1: Common(%.50q, %.50q) = %.50v, not %.50v", a, b, got, want)
	}
	script := follow(a, b, want)
	if got := diff.Script(a, b); !slices.Equal(got, script) {
		t.Errorf("P5.1: Script(%.50q, %.50q) =%.200s, not%.200s", a, b, show(got), show(script))
	}
	changes := 0
	for _, x := range script {
		if x.Kind != diff.Keep {
			changes++
		}
	}
	if got := diff.Distance(a, b); got != changes {
		t.Errorf("P5.1: Distance(%.50q, %.50q) = %d, not %d", a, b, got, changes)
	}
}

// leads checks that a script leads from a to b, and reversed from b to a.
func leads(t *testing.T, a, b []string, script []diff.Edit) {
	t.Helper()
	if got, e := diff.Apply(a, script); e != api.OK || !slices.Equal(got, b) {
		t.Errorf("P5.4: the script%.200s leads from %.50q to %.50q with %v, not to %.50q", show(script), a, got, e, b)
	}
	if got, e := diff.Apply(b, diff.Reverse(script)); e != api.OK || !slices.Equal(got, a) {
		t.Errorf("P5.4: the script%.200s, reversed, leads from %.50q to %.50q with %v, not to %.50q", show(script), b, got, e, a)
	}
}

func TestKinds(t *testing.T) {
	if diff.Keep != 1 || diff.Delete != 2 || diff.Insert != 3 {
		t.Errorf("P5.1: the kinds are %d, %d and %d", diff.Keep, diff.Delete, diff.Insert)
	}
}

func TestKnown(t *testing.T) {
	for _, c := range []struct {
		a, b string
		want [][2]int
	}{
		{"", "", nil}, {"a", "", nil}, {"", "ab", nil}, {"ab", "cd", nil},
		{"xab", "axb", [][2]int{{0, 1}, {2, 2}}},
		{"ab", "ba", [][2]int{{0, 1}}},
		{"a", "aa", [][2]int{{0, 0}}},
		{"aa", "a", [][2]int{{0, 0}}},
		{"ab", "cab", [][2]int{{0, 1}, {1, 2}}},
		{"aab", "ab", [][2]int{{0, 0}, {2, 1}}},
		{"abb", "ab", [][2]int{{0, 0}, {1, 1}}},
		{"abab", "baba", [][2]int{{0, 1}, {1, 2}, {2, 3}}},
		{"xyxy", "yx", [][2]int{{1, 0}, {2, 1}}},
		{"abcd", "dacb", [][2]int{{0, 1}, {1, 3}}},
	} {
		check(t, letters(c.a), letters(c.b), c.want)
	}
	want := []diff.Edit{{Kind: diff.Insert, Text: "a"}, {Kind: diff.Keep, Text: "x"}, {Kind: diff.Delete, Text: "a"}, {Kind: diff.Keep, Text: "b"}}
	if got := diff.Script([]string{"x", "a", "b"}, []string{"a", "x", "b"}); !slices.Equal(got, want) {
		t.Errorf("P5.1: the script of the example is%s", show(got))
	}
	if got := diff.Distance([]string{"x", "a", "b"}, []string{"a", "x", "b"}); got != 2 {
		t.Errorf("P5.1: the distance of the example is %d", got)
	}
}

// All short lists of few different elements, among them those with many common subsequences of the same length.
func TestShort(t *testing.T) {
	for _, all := range [][][]string{lists([]string{"x", ""}, 6), lists([]string{"a", "b", "c"}, 4)} {
		for _, a := range all {
			for _, b := range all {
				check(t, a, b, commonPart(a, b))
				leads(t, a, b, diff.Script(a, b))
			}
		}
	}
}

// Longer lists, where some elements occur in one of the lists only, at their ends as well.
func TestMixed(t *testing.T) {
	next := random()
	list := func(alphabet []string) []string {
		l := make([]string, next(15))
		for i := range l {
			l[i] = alphabet[next(len(alphabet))]
		}
		return l
	}
	for range 3000 {
		all := strings.Fields("a aa b ab ba c d e f g h")
		kinds := 1 + next(8)
		a, b := list(all[:kinds]), list(all[next(kinds):])
		check(t, a, b, stepwise(a, b))
		leads(t, a, b, diff.Script(a, b))
	}
}

// A list with changes at some places, compared with what it was.
func TestChanged(t *testing.T) {
	next := random()
	for n := range 40 {
		a := make([]string, n)
		for i := range a {
			a[i] = fmt.Sprint("line ", next(1+n))
		}
		b := slices.Clone(a)
		for range next(6) {
			i := next(len(b) + 1)
			b = slices.Replace(b, i, min(i+next(3), len(b)), a[:min(next(3), n)]...)
		}
		check(t, a, b, stepwise(a, b))
		check(t, b, a, stepwise(b, a))
		leads(t, a, b, diff.Script(a, b))
	}
}

// Elements are equal if all of their bytes are.
func TestBytes(t *testing.T) {
	all := []string{"", "\x00", "a", "A", "a\x00", "a ", " a", "\xff", "\xfe", "\ufffd", "\xc3\xa4", "a\u0308", "\xc3", "\xa4", "a\n", "a\r\n", strings.Repeat("a", 1000), strings.Repeat("a", 1000) + "b"}
	for i, s := range all {
		for j, u := range all {
			want := [][2]int{{0, 0}, {1, 1}}
			if i != j {
				want = want[:1]
			}
			check(t, []string{"begin", s}, []string{"begin", u}, want)
		}
	}
	check(t, all, slices.Concat(all[9:], all[:9]), stepwise(all, slices.Concat(all[9:], all[:9])))
}

func TestLongest(t *testing.T) {
	all := lists([]string{"a", "b"}, 5)
	for _, a := range all {
		for _, b := range all {
			l := diff.Common(a, b)
			for k, p := range l {
				if a[p[0]] != b[p[1]] || k > 0 && (p[0] <= l[k-1][0] || p[1] <= l[k-1][1]) {
					t.Fatalf("P5.5: %v is no common subsequence of %q and %q", l, a, b)
				}
			}
			subsequences(a, b, func(m [][2]int) {
				if len(m) > len(l) {
					t.Fatalf("P5.5: for %q and %q, %v is longer than %v", a, b, m, l)
				}
			})
		}
	}
}

func TestApply(t *testing.T) {
	keep, remove, add := diff.Edit{Kind: diff.Keep, Text: "x"}, diff.Edit{Kind: diff.Delete, Text: "x"}, diff.Edit{Kind: diff.Insert, Text: "x"}
	for i, c := range []struct {
		a      []string
		script []diff.Edit
		want   []string
		e      api.Errno
	}{
		{nil, nil, nil, api.OK},
		{nil, []diff.Edit{add, add}, []string{"x", "x"}, api.OK},
		{[]string{"x"}, []diff.Edit{keep}, []string{"x"}, api.OK},
		{[]string{"x"}, []diff.Edit{remove}, nil, api.OK},
		{[]string{"x"}, []diff.Edit{remove, add}, []string{"x"}, api.OK},
		{[]string{"x"}, []diff.Edit{add, remove}, []string{"x"}, api.OK},
		{[]string{"x"}, []diff.Edit{add, keep, add}, []string{"x", "x", "x"}, api.OK},
		{[]string{"x", "x"}, []diff.Edit{keep, remove}, []string{"x"}, api.OK},
		{nil, []diff.Edit{keep}, nil, api.ErrConflict},
		{nil, []diff.Edit{remove}, nil, api.ErrConflict},
		{nil, []diff.Edit{add, keep}, nil, api.ErrConflict},
		{[]string{"x"}, nil, nil, api.ErrConflict},
		{[]string{"x"}, []diff.Edit{add}, nil, api.ErrConflict},
		{[]string{"x"}, []diff.Edit{keep, keep}, nil, api.ErrConflict},
		{[]string{"x"}, []diff.Edit{keep, remove}, nil, api.ErrConflict},
		{[]string{"x", "x"}, []diff.Edit{keep}, nil, api.ErrConflict},
		{[]string{"y"}, []diff.Edit{keep}, nil, api.ErrConflict},
		{[]string{"y"}, []diff.Edit{remove}, nil, api.ErrConflict},
		{[]string{"x "}, []diff.Edit{keep}, nil, api.ErrConflict},
		{[]string{"x"}, []diff.Edit{{Kind: diff.Keep}}, nil, api.ErrConflict},
		{[]string{"x"}, []diff.Edit{{Text: "x"}}, nil, api.ErrArg},
		{[]string{"x"}, []diff.Edit{{Kind: 4, Text: "x"}}, nil, api.ErrArg},
		{[]string{"x"}, []diff.Edit{{Kind: -1, Text: "x"}}, nil, api.ErrArg},
		{[]string{"x"}, []diff.Edit{{Kind: 257, Text: "x"}}, nil, api.ErrArg},
		{[]string{"x"}, []diff.Edit{keep, keep, {Kind: 4}}, nil, api.ErrArg},
		{[]string{"y"}, []diff.Edit{remove, {}}, nil, api.ErrArg},
		{nil, []diff.Edit{{Kind: -1 << 63}}, nil, api.ErrArg},
		{nil, []diff.Edit{{Kind: 1<<63 - 1}}, nil, api.ErrArg},
	} {
		if got, e := diff.Apply(c.a, c.script); e != c.e || !slices.Equal(got, c.want) {
			t.Errorf("P5.2: %d: %q with the script%s: %q, %v", i, c.a, show(c.script), got, e)
		}
	}
}

// scripts returns all scripts of at most so many edits of some kinds with two texts.
func scripts(kinds []int, most int) [][]diff.Edit {
	var edits []diff.Edit
	for _, k := range kinds {
		edits = append(edits, diff.Edit{Kind: k, Text: "x"}, diff.Edit{Kind: k})
	}
	all := [][]diff.Edit{nil}
	for begin, n := 0, 0; n < most; n++ {
		end := len(all)
		for _, l := range all[begin:end] {
			for _, x := range edits {
				all = append(all, append(slices.Clone(l), x))
			}
		}
		begin = end
	}
	return all
}

// texts returns the texts of the edits of two kinds.
func texts(script []diff.Edit, kind, other int) []string {
	var l []string
	for _, x := range script {
		if x.Kind == kind || x.Kind == other {
			l = append(l, x.Text)
		}
	}
	return l
}

// A script fits a single list: that of what it keeps and deletes. It leads to what it keeps and inserts.
func TestApplyShort(t *testing.T) {
	all := lists([]string{"x", ""}, 4)
	for _, script := range append(scripts([]int{-1, 0, 1, 2, 3, 4}, 3), scripts([]int{1, 2, 3}, 4)...) {
		unknown := slices.ContainsFunc(script, func(x diff.Edit) bool { return !slices.Contains([]int{1, 2, 3}, x.Kind) })
		before, after := texts(script, diff.Keep, diff.Delete), texts(script, diff.Keep, diff.Insert)
		if !unknown {
			leads(t, before, after, script)
		}
		for _, a := range all {
			var want []string
			wanted := api.ErrConflict
			if unknown {
				wanted = api.ErrArg
			} else if slices.Equal(a, before) {
				want, wanted = after, api.OK
			}
			if got, e := diff.Apply(a, script); e != wanted || !slices.Equal(got, want) {
				t.Fatalf("P5.2: %q with the script%s: %q, %v", a, show(script), got, e)
			}
		}
	}
}

// Long scripts that fit, which are not the shortest ones between their lists.
func TestApplyLong(t *testing.T) {
	next := random()
	for n := range 300 {
		script := make([]diff.Edit, n)
		for i := range script {
			script[i] = diff.Edit{Kind: 1 + next(3), Text: fmt.Sprint(next(5))}
		}
		a, b := texts(script, diff.Keep, diff.Delete), texts(script, diff.Keep, diff.Insert)
		leads(t, a, b, script)
		if d := diff.Distance(a, b); d > len(texts(script, diff.Insert, diff.Delete)) {
			t.Errorf("P5.5: the distance of %q and %q is %d, but the script%s leads from one to the other", a, b, d, show(script))
		}
	}
}

func TestReverse(t *testing.T) {
	for _, script := range scripts([]int{-2, -1, 0, 1, 2, 3, 4, 5}, 3) {
		got := diff.Reverse(script)
		if len(got) != len(script) {
			t.Fatalf("P5.3: Reverse of%s is%s", show(script), show(got))
		}
		for i, x := range script {
			switch x.Kind {
			case diff.Delete:
				x.Kind = diff.Insert
			case diff.Insert:
				x.Kind = diff.Delete
			}
			if got[i] != x {
				t.Fatalf("P5.3: Reverse of%s is%s", show(script), show(got))
			}
		}
	}
}

func TestMetric(t *testing.T) {
	all := lists([]string{"a", "b"}, 4)
	distances := make([][]int, len(all))
	for i, a := range all {
		for _, b := range all {
			distances[i] = append(distances[i], diff.Distance(a, b))
		}
	}
	for i, a := range all {
		for j, b := range all {
			d := distances[i][j]
			if (d == 0) != (i == j) || d < 0 {
				t.Errorf("P5.6: the distance of %q and %q is %d", a, b, d)
			}
			if d != distances[j][i] {
				t.Errorf("P5.6: the distance of %q and %q is %d, and %d in the other direction", a, b, d, distances[j][i])
			}
			for k, c := range all {
				if d > distances[i][k]+distances[k][j] {
					t.Errorf("P5.6: the distance of %q and %q is %d, and shorter over %q", a, b, d, c)
				}
			}
		}
	}
}

func TestMetricAdded(t *testing.T) {
	all, added := lists([]string{"a", "b"}, 4), append(lists([]string{"a", "b", "c"}, 2), letters("abababa"), letters("bbbbbbbbbb"))
	for _, a := range all {
		for _, b := range all {
			d := diff.Distance(a, b)
			for _, c := range added {
				if got := diff.Distance(slices.Concat(c, a), slices.Concat(c, b)); got != d {
					t.Errorf("P5.6: the distance of %q and %q is %d, and %d behind %q", a, b, d, got, c)
				}
				if got := diff.Distance(slices.Concat(a, c), slices.Concat(b, c)); got != d {
					t.Errorf("P5.6: the distance of %q and %q is %d, and %d ahead of %q", a, b, d, got, c)
				}
			}
		}
	}
}

// room returns a list in memory with room behind it, and a function that reports whether all of it is untouched.
func room[T comparable](l, more []T) ([]T, func() bool) {
	memory := slices.Concat(l, more)
	before := slices.Clone(memory)
	return memory[:len(l)], func() bool { return slices.Equal(memory, before) }
}

// Arguments are not changed, also behind their ends, and no result changes with an argument or with another result.
func TestMemory(t *testing.T) {
	some := letters("room")
	a, sameA := room(letters("abcabba"), some)
	b, sameB := room(letters("cbabac"), some)
	want := commonPart(a, b)
	script := follow(a, b, want)
	given, sameScript := room(script, []diff.Edit{{Kind: diff.Insert, Text: "room"}})
	l, s, d := diff.Common(a, b), diff.Script(a, b), diff.Distance(a, b)
	x, e := diff.Apply(a, given)
	kept, f := diff.Apply(a, diff.Script(a, a))
	r := diff.Reverse(given)
	if !sameA() || !sameB() || !sameScript() {
		t.Error("P5.1: an argument is changed")
	}
	after, back := slices.Clone(b), diff.Reverse(script)
	before := slices.Clone(a)
	clear(a[:cap(a)])
	clear(b[:cap(b)])
	clear(given[:cap(given)])
	if !slices.Equal(l, want) || !slices.Equal(s, script) || d != len(script)-len(want) {
		t.Errorf("P5.1: %v,%s and %d after the arguments were changed", l, show(s), d)
	}
	if e != api.OK || f != api.OK || !slices.Equal(x, after) || !slices.Equal(kept, before) {
		t.Errorf("P5.2: %q, %v, %q and %v after the arguments were changed", x, e, kept, f)
	}
	if !slices.Equal(r, back) {
		t.Errorf("P5.3:%s after the argument was changed", show(r))
	}
	clear(l)
	clear(s)
	if !slices.Equal(diff.Common(before, after), want) || !slices.Equal(diff.Script(before, after), script) {
		t.Error("P5.1: the results are other ones after earlier results were changed")
	}
}

// Long lists that are equal, that continue another one, or that have nothing in common take no longer than they are long.
func TestLong(t *testing.T) {
	a, b := make([]string, 1<<19), make([]string, 1<<19)
	for i := range a {
		a[i], b[i] = fmt.Sprint(i%1000), fmt.Sprint("b", i%1000)
	}
	for _, n := range []int{0, 1, 1000, len(a) - 1, len(a)} {
		if l := diff.Common(a, a[:n]); len(l) != n || n > 0 && l[n-1] != [2]int{n - 1, n - 1} {
			t.Errorf("P5.1: a list of %d and %d of its elements have %d in common", len(a), n, len(l))
		}
		if d := diff.Distance(a[:n], a); d != len(a)-n {
			t.Errorf("P5.6: the distance of a list of %d and %d of its elements is %d", len(a), n, d)
		}
	}
	if l := diff.Common(a, b); len(l) != 0 {
		t.Errorf("P5.1: %d pairs of lists without a common element", len(l))
	}
	if d := diff.Distance(a, b); d != len(a)+len(b) {
		t.Errorf("P5.6: the distance of lists without a common element is %d", d)
	}
	leads(t, a, b, diff.Script(a, b))
	l := diff.Common(slices.Concat(b, []string{"x"}, b), slices.Concat(a, a, []string{"x"}))
	if len(l) != 1 || l[0] != [2]int{len(b), 2 * len(a)} {
		t.Errorf("P5.1: the common part of long lists with one common element is %v", l)
	}
}

// Lists for which a full table of lengths would take gigabytes.
func TestWide(t *testing.T) {
	next := random()
	a, b := make([]string, 120000), make([]string, 3000)
	for i := range a {
		a[i] = fmt.Sprint(next(300))
	}
	for i := range b {
		b[i] = fmt.Sprint(next(400))
	}
	n := longest(b, a)
	for _, c := range [][2][]string{{a, b}, {b, a}} {
		script := diff.Script(c[0], c[1])
		if got := len(texts(script, diff.Keep, diff.Keep)); got != n {
			t.Errorf("P5.5: lists of %d and %d elements have %d in common, not %d", len(c[0]), len(c[1]), got, n)
		}
		leads(t, c[0], c[1], script)
	}
}
