package automaton_test

import (
	"fmt"
	"math"
	"slices"
	"strings"
	"testing"

	"calque/api"
	"calque/automaton"
)

type dfa = automaton.DFA

// characters are the symbols in their order.
const characters = "0123456789."

// isAutomaton reports whether an automaton is valid.
func isAutomaton(d dfa) bool {
	k := len(d.Next)
	isState := func(s int) bool { return 0 <= s && s < k }
	ok := 1 <= k && k <= 2000 && isState(d.Start) && len(d.Accept) == k
	for _, row := range d.Next {
		ok = ok && len(row) == 11
		for _, s := range row {
			ok = ok && isState(s)
		}
	}
	return ok
}

// accepts reports whether a valid automaton accepts a string.
func accepts(d dfa, s string) bool {
	if strings.Trim(s, characters) != "" {
		return false
	}
	state := d.Start
	for _, c := range s {
		state = d.Next[state][strings.IndexRune(characters, c)]
	}
	return d.Accept[state]
}

// words returns all words of at most so many symbols, in their order.
func words(most int) []string {
	all, begin := []string{""}, 0
	for range most {
		end := len(all)
		for _, w := range all[begin:end] {
			for _, c := range characters {
				all = append(all, w+string(c))
			}
		}
		begin = end
	}
	return all
}

// longWords returns words of many lengths without a pattern.
func longWords(count, most int) []string {
	next := random()
	all := make([]string, count)
	for i := range all {
		few := 1 + next(11)
		for range next(most + 1) {
			all[i] += string(characters[next(few)])
		}
	}
	return all
}

// random returns a function for numbers below n without a pattern, the same ones in every run.
func random() func(n int) int {
	h := uint64(1)
	return func(n int) int {
		h = h*6364136223846793005 + 1442695040888963407
		return int(h >> 33 % uint64(n))
	}
}

// merged returns the automaton in which each state is replaced by the first one that is equivalent.
func merged(d dfa) dfa {
	differ := make([][]bool, len(d.Next))
	for s := range differ {
		differ[s] = make([]bool, len(d.Next))
	}
	for changed := true; changed; {
		changed = false
		for s := range differ {
			for t := range differ {
				now := d.Accept[s] != d.Accept[t]
				for c := range 11 {
					now = now || differ[d.Next[s][c]][d.Next[t][c]]
				}
				changed = changed || now != differ[s][t]
				differ[s][t] = now
			}
		}
	}
	first := func(s int) int { return slices.Index(differ[s], false) }
	m := dfa{Start: first(d.Start), Accept: d.Accept}
	for s := range d.Next {
		row := slices.Clone(d.Next[s])
		for c := range row {
			row[c] = first(row[c])
		}
		m.Next = append(m.Next, row)
	}
	return m
}

// numbered returns an automaton with the states that the search of the definition finds, in its order.
func numbered(d dfa) dfa {
	found := []int{d.Start}
	var m dfa
	for i := 0; i < len(found); i++ {
		var row []int
		for c := range 11 {
			s := d.Next[found[i]][c]
			if !slices.Contains(found, s) {
				found = append(found, s)
			}
			row = append(row, slices.Index(found, s))
		}
		m.Next, m.Accept = append(m.Next, row), append(m.Accept, d.Accept[found[i]])
	}
	return m
}

// minimalOf returns the minimal automaton of a valid one.
func minimalOf(d dfa) dfa {
	return numbered(merged(numbered(d)))
}

// pairsOf returns an automaton with all pairs of states of two automata.
func pairsOf(a, b dfa, accepts func(x, y bool) bool) dfa {
	k := len(b.Next)
	d := dfa{Start: a.Start*k + b.Start}
	for s := range a.Next {
		for t := range b.Next {
			var row []int
			for c := range 11 {
				row = append(row, a.Next[s][c]*k+b.Next[t][c])
			}
			d.Next, d.Accept = append(d.Next, row), append(d.Accept, accepts(a.Accept[s], b.Accept[t]))
		}
	}
	return d
}

func both(x, y bool) bool   { return x && y }
func either(x, y bool) bool { return x || y }

// firstOf returns the first word that a valid automaton accepts: from the least number of symbols that
// are missing in each state, it goes one symbol nearer each time.
func firstOf(d dfa) (string, bool) {
	missing := make([]int, len(d.Next))
	for s := range missing {
		missing[s] = 1 << 30
		if d.Accept[s] {
			missing[s] = 0
		}
	}
	for changed := true; changed; {
		changed = false
		for s := range missing {
			for _, t := range d.Next[s] {
				if missing[t]+1 < missing[s] {
					missing[s], changed = missing[t]+1, true
				}
			}
		}
	}
	if missing[d.Start] == 1<<30 {
		return "", false
	}
	word := ""
	for s := d.Start; missing[s] > 0; {
		c := slices.IndexFunc(d.Next[s], func(t int) bool { return missing[t] == missing[s]-1 })
		s, word = d.Next[s][c], word+string(characters[c])
	}
	return word, true
}

// countOf returns how many words of a length a valid automaton accepts, from all states and for all lengths.
func countOf(d dfa, n int) int {
	known := map[[2]int]int{}
	var count func(s, n int) int
	count = func(s, n int) int {
		sum, ok := known[[2]int{s, n}]
		switch {
		case ok:
			return sum
		case n == 0 && d.Accept[s]:
			return 1
		case n == 0:
			return 0
		}
		for _, t := range d.Next[s] {
			sum += count(t, n-1)
		}
		known[[2]int{s, n}] = sum
		return sum
	}
	return count(d.Start, n)
}

// power returns a power of 11.
func power(n int) int {
	return int(math.Round(math.Pow(11, float64(n))))
}

// same reports whether two automata are equal.
func same(a, b dfa) bool {
	return a.Start == b.Start && slices.EqualFunc(a.Next, b.Next, slices.Equal) && slices.Equal(a.Accept, b.Accept)
}

// cloned returns a copy of an automaton that shares no memory with it.
func cloned(d dfa) dfa {
	c := dfa{Start: d.Start, Accept: slices.Clone(d.Accept)}
	for _, row := range d.Next {
		c.Next = append(c.Next, slices.Clone(row))
	}
	return c
}

// show returns the text of an automaton, if it is short enough to be read.
func show(d dfa) string {
	if len(d.Next) > 20 {
		return fmt.Sprintf("an automaton with %d states", len(d.Next))
	}
	return fmt.Sprint(d)
}

// counter returns the automaton that counts the symbols in a string modulo n, and accepts some remainders.
func counter(n int, symbols string, accepts func(i int) bool) dfa {
	var d dfa
	for i := range n {
		var row []int
		for _, c := range characters {
			row = append(row, (i+strings.Count(symbols, string(c)))%n)
		}
		d.Next, d.Accept = append(d.Next, row), append(d.Accept, accepts(i))
	}
	return d
}

// is returns the function that says whether a number is a given one.
func is(n int) func(i int) bool {
	return func(i int) bool { return i == n }
}

// line returns an automaton that goes from state to state, and stays in the last one, which it accepts.
func line(k int, symbols string) dfa {
	d := counter(k, symbols, is(k-1))
	for c := range 11 {
		d.Next[k-1][c] = k - 1
	}
	return d
}

// randomAutomaton returns a valid automaton with so many states, of many different kinds.
func randomAutomaton(next func(int) int, k int) dfa {
	d := dfa{Start: next(k), Next: make([][]int, k), Accept: make([]bool, k)}
	columns, reach, accepting := 1+next(11), 1+next(k), 1+next(4)
	for s := range d.Next {
		few := make([]int, columns)
		for c := range few {
			few[c] = (s + next(reach)) % k
		}
		for c := range 11 {
			d.Next[s] = append(d.Next[s], few[c%columns])
		}
		d.Accept[s] = next(accepting) == 0
	}
	return d
}

// randoms returns valid automata without a pattern, of at most so many states.
func randoms(count, most int) []dfa {
	next := random()
	var all []dfa
	for range count {
		all = append(all, randomAutomaton(next, 1+next(most)))
	}
	return all
}

// small returns all automata with k states in which the symbols of one string are alike, and all others.
func small(k int, symbols string) []dfa {
	n := 1 << k * k
	for range 2 * k {
		n *= k
	}
	var all []dfa
	for i := range n {
		d := dfa{Start: i % k}
		i /= k
		for range k {
			d.Accept = append(d.Accept, i%2 == 1)
			i /= 2
		}
		for range k {
			var row []int
			for _, c := range characters {
				s := i % k
				if strings.ContainsRune(symbols, c) {
					s = i / k % k
				}
				row = append(row, s)
			}
			d.Next = append(d.Next, row)
			i /= k * k
		}
		all = append(all, d)
	}
	return all
}

// copied returns an automaton that accepts the same words, with so many states: each state has several
// copies, some states are not reached, and all of them have other numbers.
func copied(next func(int) int, d dfa, k int) dfa {
	original := make([]int, k)
	copies := make([][]int, len(d.Next))
	for i, s := range shuffled(next, k) {
		original[s] = i % len(d.Next)
		copies[i%len(d.Next)] = append(copies[i%len(d.Next)], s)
	}
	m := dfa{Start: copies[d.Start][0]}
	for s := range k {
		var row []int
		for c := range 11 {
			l := copies[d.Next[original[s]][c]]
			row = append(row, l[next(len(l))])
		}
		m.Next, m.Accept = append(m.Next, row), append(m.Accept, d.Accept[original[s]])
	}
	return m
}

// shuffled returns the numbers below n in some order.
func shuffled(next func(int) int, n int) []int {
	l := make([]int, n)
	for i := range l {
		j := next(i + 1)
		l[i], l[j] = l[j], i
	}
	return l
}

// minimal returns the minimal automaton of a valid one.
func minimal(t *testing.T, d dfa) dfa {
	t.Helper()
	m, e := automaton.Minimal(d)
	if e != api.OK || !automaton.Valid(m) {
		t.Fatalf("P9.3: Minimal(%s) has the error %d, or is not valid", show(d), e)
	}
	return m
}

// complement returns the complement of a valid automaton.
func complement(t *testing.T, d dfa) dfa {
	t.Helper()
	m, e := automaton.Complement(d)
	if e != api.OK || !automaton.Valid(m) {
		t.Fatalf("P9.2: Complement(%s) has the error %d, or is not valid", show(d), e)
	}
	return m
}

// and returns the And of two valid automata, which must not exceed the limit.
func and(t *testing.T, a, b dfa) dfa {
	t.Helper()
	m, e := automaton.And(a, b)
	if e != api.OK || !automaton.Valid(m) {
		t.Fatalf("P9.2: And(%s, %s) has the error %d, or is not valid", show(a), show(b), e)
	}
	return m
}

// or returns the Or of two valid automata, which must not exceed the limit.
func or(t *testing.T, a, b dfa) dfa {
	t.Helper()
	m, e := automaton.Or(a, b)
	if e != api.OK || !automaton.Valid(m) {
		t.Fatalf("P9.2: Or(%s, %s) has the error %d, or is not valid", show(a), show(b), e)
	}
	return m
}

// isSame reports whether two valid automata accept the same words.
func isSame(t *testing.T, a, b dfa) bool {
	t.Helper()
	ok, e := automaton.Same(a, b)
	if e != api.OK {
		t.Fatalf("P9.3: Same(%s, %s) has the error %d", show(a), show(b), e)
	}
	return ok
}

// shortest returns the first word of a valid automaton.
func shortest(t *testing.T, d dfa) (string, bool) {
	t.Helper()
	w, ok, e := automaton.Shortest(d)
	if e != api.OK || !ok && w != "" {
		t.Fatalf("P9.4: Shortest(%s) is %q, %v, %d", show(d), w, ok, e)
	}
	return w, ok
}

// count returns how many words of a permitted length a valid automaton accepts.
func count(t *testing.T, d dfa, n int) int {
	t.Helper()
	m, e := automaton.Count(d, n)
	if e != api.OK {
		t.Fatalf("P9.5: Count(%s, %d) has the error %d", show(d), n, e)
	}
	return m
}

// checkSame compares a result with the automaton that it must be.
func checkSame(t *testing.T, what string, got, want dfa, of ...dfa) {
	t.Helper()
	if same(got, want) {
		return
	}
	text := what
	for _, d := range of {
		text += " " + show(d)
	}
	t.Fatalf("%s is\n%s, must be\n%s", text, show(got), show(want))
}

// checkValidity compares the answers of all functions with the definition of validity.
func checkValidity(t *testing.T, d dfa) {
	t.Helper()
	good, before := counter(1, "", is(0)), cloned(d)
	want := api.ErrArg
	if isAutomaton(d) {
		want = api.OK
	}
	if ok := automaton.Valid(d); ok != (want == api.OK) {
		t.Fatalf("P9.1: Valid(%s) is %v", show(d), ok)
	}
	for name, f := range map[string]func() (dfa, api.Errno){
		"Minimal": func() (dfa, api.Errno) { return automaton.Minimal(d) }, "Complement": func() (dfa, api.Errno) { return automaton.Complement(d) },
		"And": func() (dfa, api.Errno) { return automaton.And(d, good) }, "And behind": func() (dfa, api.Errno) { return automaton.And(good, d) },
		"Or": func() (dfa, api.Errno) { return automaton.Or(d, good) }, "Or behind": func() (dfa, api.Errno) { return automaton.Or(good, d) },
	} {
		if m, e := f(); e != want || e != api.OK && !same(m, dfa{}) || e == api.OK && !isAutomaton(m) {
			t.Fatalf("P9.1: %s of %s is %s, %d, must have %d", name, show(d), show(m), e, want)
		}
	}
	ok, e := automaton.Same(d, d)
	ahead, f := automaton.Same(d, good)
	behind, g := automaton.Same(good, d)
	if ok != (want == api.OK) || e != want || f != want || g != want || want != api.OK && (ahead || behind) {
		t.Fatalf("P9.1: Same of %s is %v, %d, %v, %d, %v, %d", show(d), ok, e, ahead, f, behind, g)
	}
	if w, ok, e := automaton.Shortest(d); e != want || e != api.OK && (ok || w != "") {
		t.Fatalf("P9.1: Shortest(%s) is %q, %v, %d", show(d), w, ok, e)
	}
	// An automaton that is not valid is found ahead of a length out of range.
	for _, n := range []int{0, 1, 15, 16, -1} {
		wantHere := want
		if want == api.OK && (n < 0 || n > 15) {
			wantHere = api.ErrRange
		}
		if m, e := automaton.Count(d, n); e != wantHere || e != api.OK && m != 0 {
			t.Fatalf("P9.1: Count(%s, %d) is %d, %d", show(d), n, m, e)
		}
	}
	for _, w := range []string{"", "1", "0.5", ".", "x", "22"} {
		if ok := automaton.Run(d, w); ok != (want == api.OK && accepts(d, w)) {
			t.Fatalf("P9.1: Run(%s, %q) is %v", show(d), w, ok)
		}
	}
	if !same(d, before) {
		t.Fatalf("P9.1: the argument %s is changed to %s", show(before), show(d))
	}
}

func TestValidSizes(t *testing.T) {
	for k := range 6 {
		for rows := range 6 {
			for accept := range 6 {
				for start := -2; start < 7; start++ {
					d := dfa{Start: start, Accept: make([]bool, accept)}
					for range rows {
						d.Next = append(d.Next, slices.Repeat([]int{k}, 11))
					}
					checkValidity(t, d)
				}
			}
		}
	}
	for _, k := range []int{1, 2, 999, 1999, 2000, 2001, 2002, 4000, 65536 + 1} {
		d := counter(k, "1", is(0))
		checkValidity(t, d)
		d.Start = k - 1
		checkValidity(t, d)
		d.Start = k
		checkValidity(t, d)
	}
}

// far are integers that are never states.
var far = []int{math.MinInt, math.MinInt + 1, -1 << 32, -1<<16 + 1, -256, -1, 1 << 16, 1<<32 + 1, math.MaxInt - 1, math.MaxInt}

func TestValidRows(t *testing.T) {
	for _, k := range []int{1, 2, 5} {
		good := counter(k, "12", is(0))
		checkValidity(t, good)
		for s := range k {
			for n := range 25 {
				// A row of another length is wrong also in a state that is not reached.
				d := cloned(good)
				d.Next[s] = make([]int, n)
				checkValidity(t, d)
			}
			for c := range 11 {
				for _, x := range append([]int{0, k - 1, k, k + 1, 11}, far...) {
					d := cloned(good)
					d.Next[s][c] = x
					checkValidity(t, d)
				}
			}
		}
		for _, x := range far {
			d := cloned(good)
			d.Start = x
			checkValidity(t, d)
		}
	}
	checkValidity(t, dfa{})
	checkValidity(t, dfa{Accept: []bool{true}})
	checkValidity(t, dfa{Next: [][]int{nil}, Accept: []bool{true}})
}

func TestConstants(t *testing.T) {
	if automaton.Symbols != 11 || automaton.MaxStates != 2000 {
		t.Error("P9.1: a constant has another value")
	}
}

func TestRun(t *testing.T) {
	tests := append(words(2), longWords(200, 40)...)
	for b := range 256 {
		// No other character is a symbol, whatever is in front of it or behind it.
		c := string([]byte{byte(b)})
		tests = append(tests, c, "1"+c, c+"1", "1."+c+"5", c+c)
	}
	tests = append(tests, "٣", "１", "1,5", "-1", "+1", "1 ", " 1", "1\x00", "\x00", "1e5", "0x1")
	all := append(randoms(200, 12), counter(1, "", is(0)), counter(1, "", is(1)))
	for _, d := range all {
		for _, w := range tests {
			if got := automaton.Run(d, w); got != accepts(d, w) {
				t.Fatalf("P9.1: Run(%s, %q) is %v", show(d), w, got)
			}
		}
	}
}

func TestExamples(t *testing.T) {
	odd := dfa{Next: [][]int{nil, nil}, Accept: []bool{false, true}}
	for s := range odd.Next {
		for _, c := range characters {
			odd.Next[s] = append(odd.Next[s], strings.Count("13579", string(c)))
		}
	}
	if w, ok := shortest(t, odd); w != "1" || !ok {
		t.Errorf("P9.4: the first word with an odd digit at the end is %q, %v", w, ok)
	}
	for n, want := range []int{0, 5, 55, 605} {
		if got := count(t, odd, n); got != want {
			t.Errorf("P9.5: %d words of the length %d end with an odd digit", got, n)
		}
	}
	for w, want := range map[string]bool{"1": true, "10": false, "1.9": true, "1.": false, "": false, ".7": true, "7x": false} {
		if automaton.Run(odd, w) != want {
			t.Errorf("P9.1: whether %q ends with an odd digit is not %v", w, want)
		}
	}
	checkSame(t, "P9.3: the minimal automaton of the odd digits", minimal(t, odd), odd)
}

func TestNumbering(t *testing.T) {
	// From the state 4, which has the number 0, the point leads to 3, all else to 4 again; from 3, the digit 0
	// leads to 1, and 9 to 0; so 3, 1 and 0 have the numbers 1, 2 and 3. The state 2 is not reached.
	d := dfa{Start: 4, Accept: []bool{true, false, true, false, false}}
	for s := range 5 {
		d.Next = append(d.Next, slices.Repeat([]int{s}, 11))
	}
	d.Next[4][10], d.Next[3][0], d.Next[3][9], d.Next[1][5] = 3, 1, 0, 0
	want := dfa{Accept: []bool{false, false, false, true}}
	for s := range 4 {
		want.Next = append(want.Next, slices.Repeat([]int{s}, 11))
	}
	want.Next[0][10], want.Next[1][0], want.Next[1][9], want.Next[2][5] = 1, 2, 3, 3
	checkSame(t, "P9.1: the minimal automaton", minimal(t, d), want)
	// The digits are found in front of the point.
	d = dfa{Next: [][]int{{2, 2, 2, 2, 2, 2, 2, 2, 2, 2, 1}, slices.Repeat([]int{1}, 11), {3, 3, 3, 3, 3, 3, 3, 3, 3, 3, 3}, slices.Repeat([]int{3}, 11)}, Accept: []bool{false, true, true, false}}
	want = dfa{Next: [][]int{{1, 1, 1, 1, 1, 1, 1, 1, 1, 1, 2}, {3, 3, 3, 3, 3, 3, 3, 3, 3, 3, 3}, slices.Repeat([]int{2}, 11), slices.Repeat([]int{3}, 11)}, Accept: []bool{false, true, true, false}}
	checkSame(t, "P9.1: the minimal automaton", minimal(t, d), want)
}

// checkOne compares the results of all functions of one automaton with the definitions.
func checkOne(t *testing.T, d dfa) {
	t.Helper()
	want := minimalOf(d)
	m := minimal(t, d)
	checkSame(t, "P9.1: Minimal of", m, want, d)
	checkSame(t, "P9.3: Minimal of", minimal(t, m), m, m)
	if len(m.Next) > len(d.Next) {
		t.Fatalf("P9.3: Minimal of %s has %d states", show(d), len(m.Next))
	}
	other := cloned(want)
	for s := range other.Accept {
		other.Accept[s] = !other.Accept[s]
	}
	n := complement(t, d)
	checkSame(t, "P9.1: Complement of", n, other, d)
	checkSame(t, "P9.3: Complement of", minimal(t, n), n, d)
	checkSame(t, "P9.2: twice the Complement of", complement(t, n), m, d)
	if !isSame(t, d, m) || !isSame(t, m, d) || isSame(t, d, n) {
		t.Fatalf("P9.3: %s does not accept the same words as its minimal automaton, or as its complement", show(d))
	}
	wantWord, wantSome := firstOf(d)
	if w, some := shortest(t, d); w != wantWord || some != wantSome {
		t.Fatalf("P9.4: Shortest(%s) is %q, %v, must be %q, %v", show(d), w, some, wantWord, wantSome)
	}
	for length := range 16 {
		got := count(t, d, length)
		if got != countOf(d, length) {
			t.Fatalf("P9.5: Count(%s, %d) is %d, must be %d", show(d), length, got, countOf(d, length))
		}
		if got+count(t, n, length) != power(length) {
			t.Fatalf("P9.5: Count(%s, %d) and that of the complement are not all words", show(d), length)
		}
	}
	// An automaton accepts no word exactly if it is the same as its And with its complement.
	nothing := and(t, d, n)
	if len(nothing.Next) != 1 || nothing.Accept[0] || isSame(t, d, nothing) == wantSome {
		t.Fatalf("P9.4: the And of %s with its complement is %s", show(d), show(nothing))
	}
}

func TestSmall(t *testing.T) {
	for k := 1; k <= 2; k++ {
		for _, symbols := range []string{"", ".", "0", "13579", "9.", "0123456789"} {
			for _, d := range small(k, symbols) {
				checkOne(t, d)
			}
		}
	}
	for i, d := range small(3, ".") {
		if i%3 == 0 || len(minimalOf(d).Next) == 3 {
			checkOne(t, d)
		}
	}
}

func TestRandom(t *testing.T) {
	for _, d := range randoms(1500, 9) {
		checkOne(t, d)
	}
	for _, d := range randoms(100, 40) {
		checkOne(t, d)
	}
}

// checkTwo compares the results of all functions of two automata with the definitions.
func checkTwo(t *testing.T, a, b dfa) {
	t.Helper()
	before := []dfa{cloned(a), cloned(b)}
	wantAnd, wantOr := minimalOf(pairsOf(a, b, both)), minimalOf(pairsOf(a, b, either))
	m, n := and(t, a, b), or(t, a, b)
	checkSame(t, "P9.1: And of", m, wantAnd, a, b)
	checkSame(t, "P9.1: Or of", n, wantOr, a, b)
	checkSame(t, "P9.2: And in the other order of", and(t, b, a), m, a, b)
	checkSame(t, "P9.2: Or in the other order of", or(t, b, a), n, a, b)
	// The rules of De Morgan.
	notA, notB := complement(t, a), complement(t, b)
	checkSame(t, "P9.2: the complement of And of", complement(t, m), or(t, notA, notB), a, b)
	checkSame(t, "P9.2: the complement of Or of", complement(t, n), and(t, notA, notB), a, b)
	// They accept the same words exactly if no word is accepted by one of them only.
	_, differ := firstOf(pairsOf(a, b, func(x, y bool) bool { return x != y }))
	equal := same(minimal(t, a), minimal(t, b))
	if got := isSame(t, a, b); got == differ || got != equal {
		t.Fatalf("P9.3: Same(%s, %s) is %v", show(a), show(b), got)
	}
	if !same(a, before[0]) || !same(b, before[1]) {
		t.Fatalf("P9.1: the arguments %s and %s are changed", show(before[0]), show(before[1]))
	}
}

func TestSmallPairs(t *testing.T) {
	var all []dfa
	for k := 1; k <= 2; k++ {
		all = append(all, small(k, "02468.")...)
	}
	for _, a := range all {
		for _, b := range all {
			checkTwo(t, a, b)
		}
	}
}

func TestRandomPairs(t *testing.T) {
	all := randoms(1000, 7)
	for i, a := range all[1:] {
		checkTwo(t, a, all[i])
	}
	all = randoms(60, 14)
	for i, a := range all[1:] {
		checkTwo(t, a, all[i])
	}
}

func TestCopiedPairs(t *testing.T) {
	// These accept the same words, or nearly, although they look different.
	next := random()
	for _, d := range randoms(200, 6) {
		a, b := copied(next, d, len(d.Next)+next(9)), copied(next, d, len(d.Next)+next(9))
		checkTwo(t, a, b)
		if !isSame(t, a, b) || !isSame(t, a, d) {
			t.Fatalf("P9.3: %s and %s do not accept the same words", show(a), show(b))
		}
		s := next(len(b.Next))
		b.Accept[s] = !b.Accept[s]
		checkTwo(t, a, b)
	}
}

// checkWords compares the answers for words with those of the arguments.
func checkWords(t *testing.T, a, b dfa, tests []string) {
	t.Helper()
	m, n, c, d := and(t, a, b), or(t, a, b), complement(t, a), minimal(t, a)
	for _, w := range tests {
		x, y := automaton.Run(a, w), automaton.Run(b, w)
		if automaton.Run(m, w) != (x && y) || automaton.Run(n, w) != (x || y) {
			t.Fatalf("P9.2: And or Or of %s and %s are wrong for %q", show(a), show(b), w)
		}
		isWord := strings.Trim(w, characters) == ""
		if automaton.Run(c, w) != (isWord && !x) {
			t.Fatalf("P9.2: Complement of %s is wrong for %q", show(a), w)
		}
		if automaton.Run(d, w) != x {
			t.Fatalf("P9.3: Minimal of %s is wrong for %q", show(a), w)
		}
	}
}

func TestWords(t *testing.T) {
	all := randoms(120, 10)
	tests := slices.Concat(words(3), longWords(100, 60), []string{"x", "1x", "x1", "1,5", "é"})
	for i, a := range all[1:] {
		checkWords(t, a, all[i], tests)
	}
}

func TestFirstWordsAndCountsByTrial(t *testing.T) {
	inOrder := words(4)
	for _, d := range slices.Concat(randoms(150, 6), []dfa{line(3, "."), line(4, "9."), line(5, "8"), line(6, "0"), line(2, "")}) {
		i := slices.IndexFunc(inOrder, func(w string) bool { return accepts(d, w) })
		w, some := shortest(t, d)
		if i >= 0 && (w != inOrder[i] || !some) || i < 0 && len(w) <= 4 && some || some && !accepts(d, w) {
			t.Fatalf("P9.4: Shortest(%s) is %q, %v", show(d), w, some)
		}
		var counts [5]int
		for _, w := range inOrder {
			if accepts(d, w) {
				counts[len(w)]++
			}
		}
		for n, want := range counts {
			if got := count(t, d, n); got != want {
				t.Fatalf("P9.5: Count(%s, %d) is %d, must be %d", show(d), n, got, want)
			}
		}
	}
}

func TestKnownFirstWords(t *testing.T) {
	next := random()
	for _, x := range []struct {
		d    dfa
		want string
		some bool
	}{
		{counter(1, "", is(0)), "", true},
		{counter(1, "", is(1)), "", false},
		{counter(5, "", is(3)), "", false},
		{line(2, characters), "0", true},
		{line(2, "9."), "9", true},
		{line(2, "."), ".", true},
		{line(4, "7."), "777", true},
		{line(2000, "."), strings.Repeat(".", 1999), true},
		{line(2000, "3."), strings.Repeat("3", 1999), true},
		{copied(next, line(800, "56"), 2000), strings.Repeat("5", 799), true},
		{and(t, line(2, "."), line(3, "5")), "55.", true},
		{and(t, line(3, "."), and(t, line(2, "0"), line(2, "9"))), "09..", true},
		{or(t, line(3, "0"), line(2, ".")), ".", true},
		{or(t, line(3, "0"), line(3, "1")), "00", true},
		{and(t, counter(2, "0", is(1)), counter(3, "12", is(2))), "011", true},
	} {
		if w, some := shortest(t, x.d); w != x.want || some != x.some {
			t.Errorf("P9.4: Shortest(%s) is %q, %v, must be %q, %v", show(x.d), w, some, x.want, x.some)
		}
	}
}

func TestKnownCounts(t *testing.T) {
	binomial := func(n, k int) int {
		b := 1
		for i := range k {
			b = b * (n - i) / (i + 1)
		}
		return b
	}
	everything, nothing := counter(1, "", is(0)), counter(1, "", is(1))
	for n := range 16 {
		if count(t, everything, n) != power(n) || count(t, nothing, n) != 0 {
			t.Errorf("P9.5: %d of all words, and %d of none, have the length %d", count(t, everything, n), count(t, nothing, n), n)
		}
		for k := range n + 1 {
			// Each of k places has one of three symbols, and all others have one of eight.
			want := binomial(n, k) * int(math.Pow(3, float64(k))*math.Pow(8, float64(n-k)))
			if got := count(t, counter(16, "58.", is(k)), n); got != want {
				t.Errorf("P9.5: %d words of the length %d have %d of three symbols, must be %d", got, n, k, want)
			}
		}
	}
	if got := count(t, everything, 15); got != 4177248169415651 {
		t.Errorf("P9.5: there are %d words of the length 15", got)
	}
}

func TestCountRange(t *testing.T) {
	for _, n := range append([]int{16, 17, 100, -2}, far...) {
		if got, e := automaton.Count(line(2, "1"), n); got != 0 || e != api.ErrRange {
			t.Errorf("P9.1: Count for the length %d is %d, %d", n, got, e)
		}
		if got, e := automaton.Count(dfa{}, n); got != 0 || e != api.ErrArg {
			t.Errorf("P9.1: Count for the length %d, of no automaton, is %d, %d", n, got, e)
		}
	}
}

func TestManyStates(t *testing.T) {
	next := random()
	even := func(i int) bool { return i%2 == 0 }
	for _, d := range []dfa{line(1000, "5"), line(700, characters), counter(1000, "1", is(7)), counter(999, characters, is(0)), counter(2, ".", is(0)), counter(1, "", is(0))} {
		// A counter or a line has no equivalent states.
		want := numbered(d)
		checkSame(t, "P9.3: Minimal of", minimal(t, d), want, d)
		c := copied(next, d, 2000)
		checkSame(t, "P9.3: Minimal of copies of", minimal(t, c), want, d)
		if !isSame(t, c, d) || !isSame(t, d, c) {
			t.Errorf("P9.3: %s does not accept the same words as its copies", show(d))
		}
		if w, ok := firstOf(d); true {
			if v, some := shortest(t, c); v != w || some != ok {
				t.Errorf("P9.4: the first word of copies of %s is %q", show(d), v)
			}
		}
	}
	for _, d := range []dfa{line(2000, "5"), line(2000, characters), counter(2000, ".", is(0)), counter(2000, "13", is(1999))} {
		want := numbered(d)
		checkSame(t, "P9.3: Minimal of", minimal(t, d), want, d)
		checkSame(t, "P9.3: Minimal of another order of", minimal(t, copied(next, d, 2000)), want, d)
		checkSame(t, "P9.2: twice the Complement of", complement(t, complement(t, d)), want, d)
		checkSame(t, "P9.2: And with itself of", and(t, d, d), want, d)
		checkSame(t, "P9.2: Or with itself of", or(t, d, d), want, d)
	}
	if m := minimal(t, counter(2000, "4", even)); len(m.Next) != 2 {
		t.Errorf("P9.3: %d states tell even numbers from odd ones", len(m.Next))
	}
	if !isSame(t, counter(2000, "4", even), counter(2, "4", is(0))) || isSame(t, counter(2000, "4", even), counter(2, "4", is(1))) {
		t.Error("P9.3: even numbers are not even numbers, or are odd ones")
	}
}

func TestDifferenceOfLongWords(t *testing.T) {
	// The first word that only one of them accepts has 1999 symbols.
	a := line(2000, "2")
	b := cloned(a)
	b.Accept[1999] = false
	if isSame(t, a, b) || !isSame(t, b, counter(1, "", is(1))) {
		t.Error("P9.3: a difference of long words is not found")
	}
	// These lengths differ first at 1997 * 1998.
	a, b = counter(1997, characters, is(0)), counter(1998, characters, is(0))
	a.Accept[0], b.Accept[0], a.Accept[1996], b.Accept[1997] = false, false, true, true
	if isSame(t, a, b) || !isSame(t, a, a) {
		t.Error("P9.3: lengths modulo 1997 and 1998 are not told apart")
	}
}

func TestLimit(t *testing.T) {
	for _, x := range []struct {
		a, b dfa
		want int // states, or 0 for ErrLimit
	}{
		{counter(40, "1", is(0)), counter(50, "2", is(0)), 2000},
		{counter(1000, "1", is(0)), counter(2, "2", is(0)), 2000},
		{counter(40, "1", is(0)), counter(25, "2", is(0)), 1000},
		{counter(3, "1", is(0)), counter(667, "2", is(0)), 0},
		{counter(29, "1", is(0)), counter(69, "2.", is(0)), 0},
		{counter(2000, "1", is(0)), counter(2, "2", is(0)), 0},
		{counter(40, "1", is(0)), counter(50, "1", is(0)), 200},
		{counter(16, "1", is(0)), counter(125, "1", is(0)), 2000},
		{counter(3, "1", is(0)), counter(667, "1", is(0)), 0},
		{counter(2000, "1", is(0)), counter(3, "1", is(0)), 0},
		{counter(199, characters, is(0)), counter(200, characters, is(0)), 0},
		{counter(999, characters, is(0)), counter(1000, characters, is(0)), 0},
		{counter(200, "1234", is(0)), counter(300, "4567", is(0)), 0},
	} {
		for name, f := range map[string]func(a, b dfa) (dfa, api.Errno){"And": automaton.And, "Or": automaton.Or} {
			accepts := both
			if name == "Or" {
				accepts = either
			}
			switch m, e := f(x.a, x.b); {
			case x.want == 0:
				if e != api.ErrLimit || !same(m, dfa{}) {
					t.Errorf("P9.1: %s of %s and %s has %d states and the error %d", name, show(x.a), show(x.b), len(m.Next), e)
				}
			case e != api.OK || len(m.Next) != x.want || !same(m, numbered(pairsOf(x.a, x.b, accepts))) && x.want == len(x.a.Next)*len(x.b.Next):
				t.Errorf("P9.1: %s of %s and %s has %d states and the error %d", name, show(x.a), show(x.b), len(m.Next), e)
			}
		}
	}
}

// parity returns the automaton that counts a symbol modulo n, and all symbols modulo 2.
func parity(n int, symbol string, accepts func(i, length int) bool) dfa {
	d := pairsOf(counter(n, symbol, is(0)), counter(2, characters, is(0)), both)
	for s := range d.Accept {
		d.Accept[s] = accepts(s/2, s%2)
	}
	return d
}

func TestManyPairsFewStates(t *testing.T) {
	// There are far more pairs than states are permitted, but most of them are equivalent.
	a := parity(300, "1", func(i, length int) bool { return i == 0 && length == 0 })
	b := parity(300, "2", func(i, length int) bool { return i == 0 && length == 1 })
	if m := and(t, a, b); len(m.Next) != 1 || m.Accept[0] {
		t.Errorf("P9.2: And of words of an even and an odd length is %s", show(m))
	}
	if m := or(t, complement(t, a), complement(t, b)); len(m.Next) != 1 || !m.Accept[0] {
		t.Errorf("P9.2: Or of what is not even and not odd is %s", show(m))
	}
	if _, e := automaton.Or(a, b); e != api.ErrLimit {
		t.Errorf("P9.1: Or of words of an even and an odd length has the error %d", e)
	}
	wide := parity(300, "2", func(i, length int) bool { return i == 0 || length == 0 })
	checkSame(t, "P9.2: And of a set and a wider one", and(t, a, wide), numbered(a), a, wide)
	checkSame(t, "P9.2: And of a wider set and a set", and(t, wide, a), numbered(a), a, wide)
	narrow := complement(t, wide)
	checkSame(t, "P9.2: Or of a set and a narrower one", or(t, complement(t, a), narrow), complement(t, a), a, narrow)
	// Words that are not reached, or copies of states, do not count.
	next := random()
	m := and(t, copied(next, counter(30, "1", is(0)), 2000), copied(next, counter(40, "2", is(0)), 2000))
	checkSame(t, "P9.2: And of copies", m, and(t, counter(30, "1", is(0)), counter(40, "2", is(0))))
}

// overwrite changes all that belongs to an automaton, and what is behind its rows.
func overwrite(d dfa) {
	for s := range d.Next {
		for c := range d.Next[s] {
			d.Next[s][c] = -7
		}
		d.Next[s] = append(d.Next[s], -8, -9)
		d.Accept[s] = !d.Accept[s]
	}
}

func TestMemory(t *testing.T) {
	for _, d := range []dfa{line(5, "1"), counter(4, "23", is(1)), counter(1, "", is(0)), {Next: slices.Repeat([][]int{make([]int, 11)}, 3), Accept: make([]bool, 3, 9)}} {
		before, m := cloned(d), minimal(t, d)
		results := map[string]dfa{"Minimal": minimal(t, m), "Complement": complement(t, m), "And": and(t, m, m), "Or": or(t, m, m), "And with others": and(t, d, m), "Or with others": or(t, m, d)}
		for name, r := range results {
			twin := cloned(r)
			for s := range r.Next {
				// What is appended to a row, or written into it, is not in the next one.
				_ = append(r.Next[s], -1, -2, -3)
				r.Next[s][10] = -5
				for i := range r.Next {
					if i != s && !slices.Equal(r.Next[i], twin.Next[i]) {
						t.Errorf("P9.1: rows of the result of %s share memory", name)
					}
				}
				r.Next[s][10] = twin.Next[s][10]
			}
			overwrite(r)
			if !same(d, before) || !same(m, minimalOf(before)) {
				t.Fatalf("P9.1: the result of %s shares memory with its argument", name)
			}
		}
	}
}
