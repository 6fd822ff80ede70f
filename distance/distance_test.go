package distance_test

import (
	"fmt"
	"math"
	"regexp"
	"slices"
	"strings"
	"testing"

	"calque/distance"
)

// letters returns the letters of a string as a list.
func letters(s string) []string {
	return strings.Split(s, "")
}

// lists returns all lists of at most so many elements of an alphabet.
func lists(alphabet []string, most int) [][]string {
	all := [][]string{nil}
	for begin, n := 0, 0; n < most; n++ {
		end := len(all)
		for _, l := range all[begin:end] {
			for _, s := range alphabet {
				all = append(all, append(slices.Clone(l), s))
			}
		}
		begin = end
	}
	return all
}

// random returns a function for numbers below n without a pattern, the same ones in every run.
func random() func(n int) int {
	h := uint64(1)
	return func(n int) int {
		h = h*6364136223846793005 + 1442695040888963407
		return int(h >> 33 % uint64(n))
	}
}

// randomList returns a list of n of so many different elements.
func randomList(next func(int) int, n, different int) []string {
	l := make([]string, n)
	for i := range l {
		l[i] = fmt.Sprint("w", next(different))
	}
	return l
}

// randomLists returns a list of at most most elements, and a second one that is another list or comes from the first one by some edits.
func randomLists(next func(int) int, most int) (a, b []string) {
	different := 1 + next(12)
	a = randomList(next, next(most+1), different)
	if next(2) == 0 {
		return a, randomList(next, next(most+1), different)
	}
	b = slices.Clone(a)
	for range next(6) {
		i, fresh := next(len(b)+1), randomList(next, next(3), different+1)
		b = slices.Replace(b, i, min(len(b), i+next(3)), fresh...)
	}
	return a, b[:min(len(b), most)]
}

// concat returns lists one behind the other, as a new list.
func concat(all ...[]string) []string {
	return slices.Concat(all...)
}

// wordsOf returns the words of a text by the definition in other words: a pattern, whose elements are bytes.
var wordsOf = func() func(s string) []string {
	pattern := regexp.MustCompile(`[a-zA-Z0-9\x{80}-\x{ff}]+|[^ \t\n]`)
	return func(s string) []string {
		wide := make([]rune, len(s))
		for i := range len(s) {
			wide[i] = rune(s[i])
		}
		var words []string
		for _, w := range pattern.FindAllString(string(wide), -1) {
			var narrow []byte
			for _, r := range w {
				narrow = append(narrow, byte(r))
			}
			words = append(words, string(narrow))
		}
		return words
	}
}()

// checkWords compares the words of a text with the definition.
func checkWords(t *testing.T, s string) {
	t.Helper()
	if got, want := distance.Words(s), wordsOf(s); !slices.Equal(got, want) {
		t.Fatalf("P6.1: Words(%q) is %q, must be %q", s, got, want)
	}
}

func TestWordsOfKnownTexts(t *testing.T) {
	for _, c := range []struct {
		s    string
		want []string
	}{
		{"", nil},
		{" ", nil},
		{" \t\n\n\t ", nil},
		{"save {n} files!", []string{"save", "{", "n", "}", "files", "!"}},
		{"open the file", []string{"open", "the", "file"}},
		{"  a  b  ", []string{"a", "b"}},
		{"\ta\nb\t", []string{"a", "b"}},
		{"aZ09zA", []string{"aZ09zA"}},
		{"3.14", []string{"3", ".", "14"}},
		{"a_b", []string{"a", "_", "b"}},
		{"...", []string{".", ".", "."}},
		{"a\r\nb", []string{"a", "\r", "b"}},
		{"a\x00b\v\f\x7f", []string{"a", "\x00", "b", "\v", "\f", "\x7f"}},
		{"na\xc3\xafve d'\xc3\xa9t\xc3\xa9", []string{"na\xc3\xafve", "d", "'", "\xc3\xa9t\xc3\xa9"}},
		{"\x80\xffa\xff", []string{"\x80\xffa\xff"}},
		{"a\u00a0b\u2003c", []string{"a\u00a0b\u2003c"}},
		{"\u201ea\u201c", []string{"\u201ea\u201c"}},
		{"@AZ[`az{/09:", []string{"@", "AZ", "[", "`", "az", "{", "/", "09", ":"}},
	} {
		if got := distance.Words(c.s); !slices.Equal(got, c.want) {
			t.Errorf("P6.1: Words(%q) is %q, must be %q", c.s, got, c.want)
		}
	}
}

func TestWordsOfShortTexts(t *testing.T) {
	for i := range 256 {
		checkWords(t, string([]byte{byte(i)}))
		for k := range 256 {
			checkWords(t, string([]byte{byte(i), byte(k)}))
			checkWords(t, string([]byte{'x', byte(i), byte(k), 'x'}))
		}
	}
	for _, l := range lists([]string{"a", "Z", "5", "\x80", " ", "\t", "\n", "\r", "-"}, 5) {
		checkWords(t, strings.Join(l, ""))
	}
}

// randomText returns a text of at most most bytes, in which spaces, signs and parts of words are frequent.
func randomText(next func(int) int, most int) string {
	s := make([]byte, next(most+1))
	for i := range s {
		const frequent = "abcXYZ019 \t\n\r{}.,_-\x80\xc3\xa4\xff"
		s[i] = frequent[next(len(frequent))]
		if next(8) == 0 {
			s[i] = byte(next(256))
		}
	}
	return string(s)
}

func TestWordsOfLongTexts(t *testing.T) {
	next := random()
	for range 3000 {
		checkWords(t, randomText(next, 100))
	}
	checkWords(t, strings.Repeat("a", 300000)+strings.Repeat("-", 300000)+strings.Repeat(" \n", 100000))
	// The limit of lists is none for words.
	if n := len(distance.Words(strings.Repeat("a ", 1000))); n != 1000 {
		t.Errorf("P6.1: a text of 1000 words has %d", n)
	}
}

func TestWordsBesideASpace(t *testing.T) {
	next := random()
	for range 3000 {
		x, y := randomText(next, 30), randomText(next, 30)
		want := concat(distance.Words(x), distance.Words(y))
		if got := distance.Words(x + " " + y); !slices.Equal(got, want) {
			t.Fatalf("P6.5: Words(%q) is %q, must be %q", x+" "+y, got, want)
		}
		if got := distance.Words(strings.Join(want, " ")); !slices.Equal(got, want) {
			t.Fatalf("P6.5: the words of %q with spaces between are %q", want, got)
		}
	}
}

// edited returns all lists that one edit makes of a list, with elements of an alphabet.
func edited(l, alphabet []string) [][]string {
	var all [][]string
	for i := range len(l) + 1 {
		for _, s := range alphabet {
			all = append(all, slices.Insert(slices.Clone(l), i, s))
		}
	}
	for i := range l {
		all = append(all, slices.Delete(slices.Clone(l), i, i+1))
		for _, s := range alphabet {
			all = append(all, slices.Replace(slices.Clone(l), i, i+1, s))
		}
	}
	return all
}

// edits returns how many edits lead from a list to each list of at most most elements, by trying all of them.
func edits(from, alphabet []string, most int) map[string]int {
	counts := map[string]int{strings.Join(from, ""): 0}
	for reached := [][]string{from}; len(reached) > 0; reached = reached[1:] {
		l := reached[0]
		for _, m := range edited(l, alphabet) {
			key := strings.Join(m, "")
			if _, ok := counts[key]; !ok && len(m) <= most {
				counts[key] = counts[strings.Join(l, "")] + 1
				reached = append(reached, m)
			}
		}
	}
	return counts
}

func TestDistanceOfShortLists(t *testing.T) {
	alphabet := letters("abc")
	all := lists(alphabet, 4)
	for _, a := range all {
		counts := edits(a, alphabet, 5)
		for _, b := range all {
			if got, want := distance.Distance(a, b), counts[strings.Join(b, "")]; got != want {
				t.Fatalf("P6.1: Distance(%q, %q) is %d, must be %d", a, b, got, want)
			}
		}
	}
}

// distanceOf returns the distance by the definition in other words: by what is left of both lists.
func distanceOf(a, b []string) int {
	type place struct{ i, j int }
	known := map[place]int{}
	var left func(i, j int) int
	left = func(i, j int) int {
		if i == len(a) || j == len(b) {
			return len(a) - i + len(b) - j
		}
		if n, ok := known[place{i, j}]; ok {
			return n
		}
		n := min(left(i+1, j), left(i, j+1), left(i+1, j+1)) + 1
		if a[i] == b[j] {
			n = left(i+1, j+1)
		}
		known[place{i, j}] = n
		return n
	}
	return left(0, 0)
}

func TestDistanceOfLongerLists(t *testing.T) {
	next := random()
	for range 1000 {
		a, b := randomLists(next, 30)
		if got, want := distance.Distance(a, b), distanceOf(a, b); got != want {
			t.Fatalf("P6.1: Distance(%q, %q) is %d, must be %d", a, b, got, want)
		}
	}
	for range 3 {
		a, b := randomList(next, 350+next(51), 90), randomList(next, 350+next(51), 90)
		if got, want := distance.Distance(a, b), distanceOf(a, b); got != want {
			t.Fatalf("P6.1: the distance of two long lists is %d, must be %d", got, want)
		}
	}
}

func TestElementsAreAnyStrings(t *testing.T) {
	// Elements are compared by bytes, whatever stands in them.
	for _, c := range []struct {
		a, b []string
		want int
	}{
		{[]string{""}, nil, 1},
		{[]string{"", ""}, []string{""}, 1},
		{[]string{"a b"}, []string{"a", "b"}, 2},
		{[]string{"ab", "c"}, []string{"a", "bc"}, 2},
		{[]string{"A"}, []string{"a"}, 1},
		{[]string{"\xff"}, []string{"\xfe"}, 1},
		{[]string{"\xff"}, []string{"\ufffd"}, 1},
		{[]string{"a\x00"}, []string{"a"}, 1},
		{[]string{"\u00e4"}, []string{"a\u0308"}, 1},
		{[]string{strings.Repeat("x", 5000) + "y"}, []string{strings.Repeat("x", 5000) + "z"}, 1},
		{[]string{strings.Repeat("x", 5000)}, []string{strings.Repeat("x", 5000)}, 0},
	} {
		if got := distance.Distance(c.a, c.b); got != c.want {
			t.Errorf("P6.1: Distance(%.20q, %.20q) is %d, must be %d", c.a, c.b, got, c.want)
		}
	}
}

func TestMetric(t *testing.T) {
	check := func(a, b, c []string) {
		t.Helper()
		ab, bc, ac := distance.Distance(a, b), distance.Distance(b, c), distance.Distance(a, c)
		if (ab == 0) != slices.Equal(a, b) {
			t.Fatalf("P6.2: the distance of %q and %q is %d", a, b, ab)
		}
		if ba := distance.Distance(b, a); ab != ba {
			t.Fatalf("P6.2: the distance of %q and %q is %d, and %d the other way round", a, b, ab, ba)
		}
		if ac > ab+bc {
			t.Fatalf("P6.2: the distance of %q and %q is %d, more than %d and %d by way of %q", a, c, ac, ab, bc, b)
		}
	}
	all := lists(letters("ab"), 4)
	for _, a := range all {
		for _, b := range all {
			for _, c := range all {
				check(a, b, c)
			}
		}
	}
	next := random()
	for range 1000 {
		a, b := randomLists(next, 40)
		c, _ := randomLists(next, 40)
		check(a, b, c)
		check(a, c, b)
		check(a, slices.Clone(a), c)
	}
}

func TestBounds(t *testing.T) {
	next := random()
	for range 1000 {
		a, b := randomLists(next, 30)
		d := distance.Distance(a, b)
		if d < len(a)-len(b) || d < len(b)-len(a) || d > max(len(a), len(b)) {
			t.Fatalf("P6.4: the distance of %q and %q is %d", a, b, d)
		}
		more := slices.Insert(slices.Clone(a), next(len(a)+1), fmt.Sprint("w", next(14)))
		if n := distance.Distance(more, b); n < d-1 || n > d+1 {
			t.Fatalf("P6.4: the distance of %q and %q is %d, but that of %q is %d", a, b, d, more, n)
		}
		if n := distance.Distance(b, more); n < d-1 || n > d+1 {
			t.Fatalf("P6.4: the distance of %q and %q is %d, but that of %q is %d", b, a, d, more, n)
		}
		same := randomList(next, next(9), 14)
		if n := distance.Distance(concat(same, a), concat(same, b)); n != d {
			t.Fatalf("P6.4: %q at the beginnings of %q and %q change the distance from %d to %d", same, a, b, d, n)
		}
		if n := distance.Distance(concat(a, same), concat(b, same)); n != d {
			t.Fatalf("P6.4: %q at the ends of %q and %q change the distance from %d to %d", same, a, b, d, n)
		}
	}
}

// alignments calls a function for all alignments of two lists, each with its cost.
// They come in such an order that the alignment of the chapter is the first one with the least cost.
func alignments(a, b []string, f func(l []distance.Step, cost int)) {
	var extend func(i, j int, behind []distance.Step, cost int)
	extend = func(i, j int, behind []distance.Step, cost int) {
		if i == 0 && j == 0 {
			l := slices.Clone(behind)
			slices.Reverse(l)
			f(l, cost)
		}
		behind = behind[:len(behind):len(behind)]
		if i > 0 && j > 0 {
			same := 1
			if a[i-1] == b[j-1] {
				same = 0
			}
			extend(i-1, j-1, append(behind, distance.Step{A: i - 1, B: j - 1}), cost+same)
		}
		if i > 0 {
			extend(i-1, j, append(behind, distance.Step{A: i - 1, B: -1}), cost+1)
		}
		if j > 0 {
			extend(i, j-1, append(behind, distance.Step{A: -1, B: j - 1}), cost+1)
		}
	}
	extend(len(a), len(b), nil, 0)
}

func TestAlignShortLists(t *testing.T) {
	all := lists(letters("abc"), 4)
	for _, a := range all {
		for _, b := range all {
			var want []distance.Step
			least := math.MaxInt
			alignments(a, b, func(l []distance.Step, cost int) {
				if cost < least {
					want, least = l, cost
				}
			})
			got := distance.Align(a, b)
			if !slices.Equal(got, want) {
				t.Fatalf("P6.1: Align(%q, %q) is %v, must be %v", a, b, got, want)
			}
			if d := distance.Distance(a, b); d != least {
				t.Fatalf("P6.3: the distance of %q and %q is %d, but an alignment costs %d", a, b, d, least)
			}
			if cost, ok := distance.Cost(a, b, got); cost != least || !ok {
				t.Fatalf("P6.3: the cost of the alignment of %q and %q is %d, %v, must be %d", a, b, cost, ok, least)
			}
		}
	}
}

// alignmentOf returns the alignment by the words of the chapter, from the distances of all beginnings.
func alignmentOf(a, b []string) []distance.Step {
	var l []distance.Step
	i, j := len(a), len(b)
	for i > 0 || j > 0 {
		d := distanceOf(a[:i], b[:j])
		if i > 0 && j > 0 {
			less, same := distanceOf(a[:i-1], b[:j-1]), a[i-1] == b[j-1]
			if d == less && same || d == less+1 && !same {
				i, j = i-1, j-1
				l = append(l, distance.Step{A: i, B: j})
				continue
			}
		}
		if i > 0 && d == distanceOf(a[:i-1], b[:j])+1 {
			i--
			l = append(l, distance.Step{A: i, B: -1})
		} else {
			j--
			l = append(l, distance.Step{A: -1, B: j})
		}
	}
	slices.Reverse(l)
	return l
}

func TestAlignLongerLists(t *testing.T) {
	next := random()
	for range 150 {
		a, b := randomLists(next, 18)
		if got, want := distance.Align(a, b), alignmentOf(a, b); !slices.Equal(got, want) {
			t.Fatalf("P6.1: Align(%q, %q) is %v, must be %v", a, b, got, want)
		}
	}
	for range 200 {
		a, b := randomLists(next, distance.MaxWords)
		d := distance.Distance(a, b)
		if cost, ok := distance.Cost(a, b, distance.Align(a, b)); cost != d || !ok {
			t.Fatalf("P6.3: the cost of the alignment of %d and %d elements is %d, %v, but the distance %d", len(a), len(b), cost, ok, d)
		}
	}
}

func TestAlignKnownLists(t *testing.T) {
	for _, c := range []struct {
		a, b string
		want []distance.Step
	}{
		{"", "", nil},
		{"ab", "", []distance.Step{{0, -1}, {1, -1}}},
		{"", "ab", []distance.Step{{-1, 0}, {-1, 1}}},
		{"abc", "abc", []distance.Step{{0, 0}, {1, 1}, {2, 2}}},
		{"abc", "bcd", []distance.Step{{0, -1}, {1, 0}, {2, 1}, {-1, 2}}},
		{"bcd", "abc", []distance.Step{{-1, 0}, {0, 1}, {1, 2}, {2, -1}}},
		{"ab", "xy", []distance.Step{{0, 0}, {1, 1}}},
		{"abc", "x", []distance.Step{{0, -1}, {1, -1}, {2, 0}}},
		{"x", "abc", []distance.Step{{-1, 0}, {-1, 1}, {0, 2}}},
		{"aaa", "a", []distance.Step{{0, -1}, {1, -1}, {2, 0}}},
		{"ab", "ba", []distance.Step{{0, 0}, {1, 1}}},
		{"acb", "bca", []distance.Step{{0, 0}, {1, 1}, {2, 2}}},
	} {
		if got := distance.Align(letters(c.a), letters(c.b)); !slices.Equal(got, c.want) {
			t.Errorf("P6.1: Align(%q, %q) is %v, must be %v", c.a, c.b, got, c.want)
		}
	}
}

func TestCostOfShortSteps(t *testing.T) {
	a, b := letters("abx"), letters("bax")
	indices := []int{-2, -1, 0, 1, 2, 3}
	var steps []distance.Step
	for _, i := range indices {
		for _, j := range indices {
			steps = append(steps, distance.Step{A: i, B: j})
		}
	}
	for n := range 3 {
		for m := range 4 {
			costs := map[string]int{}
			alignments(a[:n], b[:m], func(l []distance.Step, cost int) { costs[fmt.Sprint(l)] = cost })
			var extend func(l []distance.Step)
			extend = func(l []distance.Step) {
				want, right := costs[fmt.Sprint(l)]
				if cost, ok := distance.Cost(a[:n], b[:m], l); cost != want || ok != right {
					t.Fatalf("P6.1: Cost(%q, %q, %v) is %d, %v, must be %d, %v", a[:n], b[:m], l, cost, ok, want, right)
				}
				if len(l) < 3 {
					for _, x := range steps {
						extend(append(l[:len(l):len(l)], x))
					}
				}
			}
			extend(nil)
		}
	}
}

func TestCostOfAllAlignments(t *testing.T) {
	next := random()
	for range 30 {
		a, b := randomLists(next, 5)
		least, d := math.MaxInt, distance.Distance(a, b)
		alignments(a, b, func(l []distance.Step, want int) {
			cost, ok := distance.Cost(a, b, l)
			if cost != want || !ok {
				t.Fatalf("P6.1: Cost(%q, %q, %v) is %d, %v, must be %d", a, b, l, cost, ok, want)
			}
			least = min(least, cost)
			checkWrongSteps(t, a, b, l, next)
		})
		if least != d {
			t.Fatalf("P6.3: the distance of %q and %q is %d, the least cost %d", a, b, d, least)
		}
	}
}

// checkWrongSteps changes an alignment so that it is none any more, and checks that Cost refuses it.
func checkWrongSteps(t *testing.T, a, b []string, l []distance.Step, next func(int) int) {
	t.Helper()
	refuse := func(wrong []distance.Step) {
		t.Helper()
		if cost, ok := distance.Cost(a, b, wrong); cost != 0 || ok {
			t.Fatalf("P6.1: Cost(%q, %q, %v) is %d, %v, but this is no alignment", a, b, wrong, cost, ok)
		}
	}
	for _, x := range []distance.Step{
		{-1, -1}, {len(a), -1}, {-1, len(b)}, {len(a), len(b)}, {-2, -1}, {-1, -2}, {-2, -2},
		{math.MinInt, -1}, {-1, math.MinInt}, {math.MaxInt, -1}, {-1, math.MaxInt}, {math.MaxInt, math.MinInt},
	} {
		refuse(slices.Insert(slices.Clone(l), next(len(l)+1), x))
		refuse(append(slices.Clone(l), x))
	}
	for i, x := range l {
		refuse(slices.Delete(slices.Clone(l), i, i+1))
		refuse(slices.Insert(slices.Clone(l), i, x))
		if x.A >= 0 {
			refuse(slices.Replace(slices.Clone(l), i, i+1, distance.Step{A: x.A + 1, B: x.B}))
			refuse(slices.Replace(slices.Clone(l), i, i+1, distance.Step{A: -1 - x.A - 1, B: x.B}))
		}
		if x.B >= 0 {
			refuse(slices.Replace(slices.Clone(l), i, i+1, distance.Step{A: x.A, B: x.B + 1}))
			refuse(slices.Replace(slices.Clone(l), i, i+1, distance.Step{A: x.A, B: -1 - x.B - 1}))
		}
	}
}

func TestCostOfLongLists(t *testing.T) {
	// The limit of lists is none for Cost.
	long := randomList(random(), 1000, 5)
	var apart, paired []distance.Step
	for i := range long {
		paired = append(paired, distance.Step{A: i, B: i})
		apart = append(apart, distance.Step{A: i, B: -1}, distance.Step{A: -1, B: i})
	}
	if cost, ok := distance.Cost(long, long, paired); cost != 0 || !ok {
		t.Errorf("P6.1: the cost of 1000 pairs of equal elements is %d, %v", cost, ok)
	}
	if cost, ok := distance.Cost(long, long, apart); cost != 2000 || !ok {
		t.Errorf("P6.1: the cost of 2000 steps without pairs is %d, %v", cost, ok)
	}
	if cost, ok := distance.Cost(long, make([]string, 1000), paired); cost != 1000 || !ok {
		t.Errorf("P6.1: the cost of 1000 pairs of different elements is %d, %v", cost, ok)
	}
	if cost, ok := distance.Cost(long, long, paired[:999]); cost != 0 || ok {
		t.Errorf("P6.1: the cost of too few steps is %d, %v", cost, ok)
	}
}

func TestSimilarity(t *testing.T) {
	for _, c := range []struct {
		a, b string
		want int
	}{
		{"", "", 1000},
		{"x", "", 0},
		{"", "x y", 0},
		{"x", "x", 1000},
		{"x", "y", 0},
		{"open the file", "open a file", 666},
		{"a b c", "b c d", 333},
		{"a b c d e f g", "a b c d e f h", 857},
		{"a b c d e f g", "a", 142},
	} {
		if got := distance.Similar(strings.Fields(c.a), strings.Fields(c.b)); got != c.want {
			t.Errorf("P6.1: Similar(%q, %q) is %d, must be %d", c.a, c.b, got, c.want)
		}
	}
	next := random()
	for range 1000 {
		a, b := randomLists(next, 40)
		if len(a)+len(b) == 0 {
			continue
		}
		longest := max(len(a), len(b))
		same := 1000 * (longest - distanceOf(a, b))
		if got := distance.Similar(a, b); got*longest > same || (got+1)*longest <= same {
			t.Fatalf("P6.1: Similar(%q, %q) is %d", a, b, got)
		}
	}
}

func TestLimit(t *testing.T) {
	if distance.MaxWords != 400 {
		t.Fatalf("P6.1: MaxWords is %d", distance.MaxWords)
	}
	full := randomList(random(), 400, 30)
	long := append(slices.Clone(full), "w0")
	for _, c := range []struct{ a, b []string }{{long, nil}, {nil, long}, {long, full}, {full, long}, {long, long}, {make([]string, 100000), nil}} {
		if n := distance.Distance(c.a, c.b); n != -1 {
			t.Errorf("P6.1: the distance of %d and %d elements is %d, must be -1", len(c.a), len(c.b), n)
		}
		if n := distance.Similar(c.a, c.b); n != -1 {
			t.Errorf("P6.1: the similarity of %d and %d elements is %d, must be -1", len(c.a), len(c.b), n)
		}
		if l := distance.Align(c.a, c.b); len(l) != 0 {
			t.Errorf("P6.1: the alignment of %d and %d elements has %d steps, must have none", len(c.a), len(c.b), len(l))
		}
	}
	for _, c := range []struct {
		a, b                   []string
		distance, alike, steps int
	}{
		{full, nil, 400, 0, 400}, {nil, full, 400, 0, 400}, {full, full, 0, 1000, 400}, {full, make([]string, 400), 400, 0, 400}, {full, full[1:], 1, 997, 400},
	} {
		if n := distance.Distance(c.a, c.b); n != c.distance {
			t.Errorf("P6.1: the distance of %d and %d elements is %d, must be %d", len(c.a), len(c.b), n, c.distance)
		}
		if n := distance.Similar(c.a, c.b); n != c.alike {
			t.Errorf("P6.1: the similarity of %d and %d elements is %d, must be %d", len(c.a), len(c.b), n, c.alike)
		}
		if l := distance.Align(c.a, c.b); len(l) != c.steps {
			t.Errorf("P6.1: the alignment of %d and %d elements has %d steps, must have %d", len(c.a), len(c.b), len(l), c.steps)
		}
	}
}

func TestMemory(t *testing.T) {
	next := random()
	for range 200 {
		a, b := randomLists(next, 20)
		// What lies behind a list, in the memory that its capacity has, is not part of it.
		x, y := append(slices.Clone(a), "behind"), append(slices.Clone(b), "behind")
		l := append(distance.Align(a, b), distance.Step{A: 7, B: 7})
		steps := slices.Clone(l)
		d, s, first := distance.Distance(x[:len(a)], y[:len(b)]), distance.Similar(x[:len(a)], y[:len(b)]), distance.Align(x[:len(a)], y[:len(b)])
		distance.Cost(x[:len(a)], y[:len(b)], l[:len(l)-1])
		if !slices.Equal(x[:len(a)], a) || !slices.Equal(y[:len(b)], b) || x[len(a)] != "behind" || y[len(b)] != "behind" || !slices.Equal(l, steps) {
			t.Fatalf("P6.1: the arguments %q and %q are changed", a, b)
		}
		second := distance.Align(a, b)
		for i := range first {
			first[i] = distance.Step{A: 9, B: 9}
		}
		if !slices.Equal(second, steps[:len(steps)-1]) || distance.Distance(a, b) != d || distance.Similar(a, b) != s {
			t.Fatalf("P6.1: two calls for %q and %q depend on each other", a, b)
		}
	}
	first, second := distance.Words("a b"), distance.Words("a b")
	first[0] = "x"
	if second[0] != "a" {
		t.Error("P6.1: two results of Words share memory")
	}
}
