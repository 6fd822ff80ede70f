package decide_test

import (
	"slices"
	"strconv"
	"strings"
	"testing"

	"calque/api"
	"calque/decide"
)

// state is a state of the automaton of a condition: what each relation has counted, one by one.
type state struct {
	place  string // "start", "whole", "point", "fraction" or "wrong"
	values [6]value
}

// value is what a relation has counted: the operand, and for w and t the same with the zeros at the end.
type value struct {
	operand, withZeros int
	missing            bool // the operand n
}

// folded returns what a relation has to know of an integer.
func folded(r api.Relation, n int) int {
	if r.Mod > 0 {
		return n % r.Mod
	}
	most := 0
	for _, s := range r.Spans {
		most = max(most, s.To)
	}
	return min(n, most+1)
}

// after returns a value behind one more digit.
func (v value) after(r api.Relation, place string, digit int) value {
	inFraction := place == "fraction"
	switch letter := letters[r.Operand]; {
	case letter == "n" && inFraction:
		v.missing = v.missing || digit > 0
	case letter == "n" || letter == "i":
		if !inFraction {
			v.operand = folded(r, 10*v.operand+digit)
		}
	case !inFraction:
	case letter == "v":
		v.operand = min(v.operand+1, 7)
	case letter == "f":
		v.operand = folded(r, 10*v.operand+digit)
	case letter == "w":
		v.withZeros = min(v.withZeros+1, 7)
	case letter == "t":
		v.withZeros = folded(r, 10*v.withZeros+digit)
	}
	if (letters[r.Operand] == "w" || letters[r.Operand] == "t") && inFraction && digit > 0 {
		v.operand = v.withZeros
	}
	return v
}

// after returns the state behind one more symbol.
func (s state) after(relations []api.Relation, symbol int) state {
	switch {
	case symbol == 10 && s.place == "whole":
		s.place = "point"
		return s
	case symbol == 10 || s.place == "wrong":
		return state{place: "wrong"}
	case s.place == "start":
		s.place = "whole"
	case s.place == "point":
		s.place = "fraction"
	}
	for i, r := range relations {
		s.values[i] = s.values[i].after(r, s.place, symbol)
	}
	return s
}

// accepted reports whether a condition holds for the words of a state.
func (s state) accepted(c api.Cond) bool {
	var truths []bool
	for i, r := range slices.Concat(c...) {
		v := s.values[i]
		n := v.operand
		if r.Mod > 0 {
			n %= r.Mod
		}
		lies := slices.ContainsFunc(r.Spans, func(s api.Span) bool { return s.From <= n && n <= s.To })
		truths = append(truths, (lies && !v.missing) != r.Not)
	}
	return (s.place == "whole" || s.place == "fraction") && evaluate(c, truths)
}

// automatonOf returns the minimal automaton of a condition: the classes of all states are divided until
// each symbol leads from all states of a class to one class.
func automatonOf(c api.Cond) dfa {
	relations := slices.Concat(c...)
	found, numbers := []state{{place: "start"}}, map[state]int{{place: "start"}: 0}
	var next [][11]int
	var classes []int
	for i := 0; i < len(found); i++ {
		var row [11]int
		for symbol := range row {
			s := found[i].after(relations, symbol)
			n, ok := numbers[s]
			if !ok {
				n = len(found)
				numbers[s] = n
				found = append(found, s)
			}
			row[symbol] = n
		}
		next = append(next, row)
		class := 0
		if found[i].accepted(c) {
			class = 1
		}
		classes = append(classes, class)
	}
	accept := slices.Clone(classes)
	for count := 0; ; {
		divided, n := divide(next, classes)
		if n == count {
			return quotient(next, classes, accept)
		}
		classes, count = divided, n
	}
}

// divide divides classes of states by the classes to which the symbols lead, and returns how many there are now.
func divide(next [][11]int, classes []int) (divided []int, count int) {
	numbers := map[[12]int]int{}
	for s, row := range next {
		signature := [12]int{11: classes[s]}
		for symbol, t := range row {
			signature[symbol] = classes[t]
		}
		n, ok := numbers[signature]
		if !ok {
			n = len(numbers)
			numbers[signature] = n
		}
		divided = append(divided, n)
	}
	return divided, len(numbers)
}

// quotient returns the automaton of classes of states, in the order in which the search of layer 9 finds them.
func quotient(next [][11]int, classes, accept []int) dfa {
	found := []int{classes[0]}
	var d dfa
	for i := 0; i < len(found); i++ {
		s := slices.Index(classes, found[i])
		var row []int
		for _, t := range next[s] {
			if !slices.Contains(found, classes[t]) {
				found = append(found, classes[t])
			}
			row = append(row, slices.Index(found, classes[t]))
		}
		d.Next, d.Accept = append(d.Next, row), append(d.Accept, accept[s] == 1)
	}
	return d
}

// checkAutomaton compares the automaton of a valid condition with its definition.
func checkAutomaton(t *testing.T, c api.Cond) dfa {
	t.Helper()
	before := show(c)
	d, e := decide.Automaton(c)
	if show(c) != before {
		t.Fatalf("P10.1: %s is changed to %s", before, show(c))
	}
	if weightOf(c) > 4000 {
		if e != api.ErrLimit || !same(d, dfa{}) {
			t.Fatalf("P10.1: Automaton(%s) has the weight %d, and the error %d", before, weightOf(c), e)
		}
		return dfa{}
	}
	want := automatonOf(c)
	if e != api.OK || !same(d, want) {
		t.Fatalf("P10.2: Automaton(%s) has %d states and the error %d, must have %d states", before, len(d.Next), e, len(want.Next))
	}
	return d
}

// checkWords compares an automaton of a condition with the definition, word by word.
func checkWords(t *testing.T, c api.Cond, d dfa, all []string) {
	t.Helper()
	for _, w := range all {
		want := isWord(w) && holdsFor(c, w)
		if accepts(d, w) != want {
			t.Fatalf("P10.2: Automaton(%s) accepts %q: %v", show(c), w, !want)
		}
		if isWord(w) && accepts(d, "0"+w) != want || isWord(w) && accepts(d, "000"+w) != want {
			t.Fatalf("P10.2: Automaton(%s) accepts %q: %v, but not with zeros in front", show(c), w, want)
		}
	}
}

// someTexts are conditions of all kinds that have automata.
var someTexts = []string{
	"i = 1 and v = 0", "n = 0", "n != 0", "n = 1", "i = 0", "i != 0", "n % 2 = 1", "n % 3 != 1", "i % 4 = 2", "n % 5 = 0", "i % 6 = 5", "n % 10 = 2..4 and n % 100 != 12..14",
	"n % 20 = 0,19", "i % 25 = 24", "n % 50 = 1", "i % 100 = 11..19", "n = 0..100", "i = 100", "n = 10", "n = 11", "i = 9..11", "n = 99", "v = 0", "v = 1", "v = 6", "v != 6", "v != 0..6",
	"w = 0", "w = 1", "w = 6", "w != 0..6", "w = 2..4 and v = 3..5", "f = 0", "f = 1", "f = 5..15", "f = 100", "f != 0..100", "f % 10 = 1", "f % 100 = 1..11", "t = 0", "t = 1", "t = 3..12", "t = 61",
	"t % 10 = 5", "t % 10 = 0", "t != 0", "n % 2 = 5", "n % 2 != 5", "f % 10 = 11", "n = 1 and n = 2", "n = 1 or n != 1", "i % 2 = 0 or n % 3 = 0 or v = 2", "n != 1 and i = 1", "n = 1 and f = 0 and v = 2",
	"f % 100 = 7 and f = 0..30", "f = 3 and t = 3", "t = 3 and w = 2", "i % 100 = 1 and f % 10 = 1", "v = 0 and i % 10 = 1 and i % 100 != 11", "v = 0 and i % 10 = 1 or f % 10 = 1",
}

func TestAutomata(t *testing.T) {
	next := random()
	all := words(4)
	for range 3000 {
		all = append(all, randomWord(next, 14))
	}
	for _, w := range strings.Fields("10000000 1000000.0 0.0000000 1.0000001 1.00000010 1.1000000000 7.000000 123456789012345678901234567890 9.99999999999999999999 1.0000006100000 100.100 100.01000 61.061 300.300") {
		all = append(all, w)
	}
	for _, c := range read(t, someTexts...) {
		checkWords(t, c, checkAutomaton(t, c), all)
	}
}

func TestAutomataOfRelations(t *testing.T) {
	for operand, letter := range letters {
		for _, mod := range mods[letter] {
			for to := 0; to <= greatest[letter]; to += 1 + to/12 {
				for _, from := range []int{0, to / 2, to} {
					r := api.Relation{Operand: operand, Mod: mod, Not: (to+from)%2 == 1, Spans: []api.Span{{From: from, To: to}}}
					checkAutomaton(t, api.Cond{{r}})
				}
			}
		}
	}
}

func TestAutomataOfConditions(t *testing.T) {
	next := random()
	var all []string
	for range 300 {
		all = append(all, randomWord(next, 14))
	}
	automata, limits := 0, 0
	for range 800 {
		c := randomCondition(next, 1+next(6), []int{1, 2, 3, 5, 12, 100}[next(6)])
		d := checkAutomaton(t, c)
		if len(d.Next) == 0 {
			limits++
			continue
		}
		automata++
		checkWords(t, c, d, all)
	}
	if automata < 300 || limits < 100 {
		t.Errorf("only %d automata and %d limits were tested", automata, limits)
	}
}

func TestLimits(t *testing.T) {
	for _, s := range []string{
		"i % 100 = 1 and f % 10 = 1 and i % 4 = 1", "i = 1 and f = 29 and n = 41", "f = 98 and v = 2 or n % 10 = 1", "n % 2 = 1 and i % 3 = 1 or f = 21 or n = 27",
		"f % 100 = 1 and i % 100 = 1", "t % 100 = 1", "t = 61", "t = 62", "t = 61 and v = 0", "t % 10 = 1 and t % 10 = 2", "t % 10 = 1 and t = 4", "t % 10 = 1 and t = 5",
		"n % 20 = 1 and n % 20 = 2 and i % 10 = 1", "n % 20 = 1 and n % 20 = 2 and i = 9", "v = 6 or v = 6 or v = 6 or v = 6",
	} {
		checkAutomaton(t, read(t, s)[0])
	}
	// These are the weights at the limit.
	for n, s := range map[int]string{3999: "i = 1 and f = 29 and n = 41", 4000: "i % 100 = 1 and f % 10 = 1 and i % 4 = 1", 4002: "n % 2 = 1 and i % 3 = 1 or f = 21 or n = 27"} {
		c := read(t, s)[0]
		weight, _ := decide.Weight(c)
		if _, e := decide.Automaton(c); weight != n || (e == api.ErrLimit) != (n > 4000) {
			t.Errorf("P10.1: Automaton(%s) has the weight %d and the error %d", s, weight, e)
		}
	}
	if decide.MaxWeight != 4000 {
		t.Errorf("P10.1: MaxWeight is %d", decide.MaxWeight)
	}
}

// TestLargeAutomata looks at conditions for which many words have to be distinguished: no automaton may be refused
// because of what is done on the way to it.
func TestLargeAutomata(t *testing.T) {
	largest := 0
	for _, s := range []string{
		"n % 2 != 1..6,6..10 and i % 4 = 0,0..1,0..1 or i % 25 != 15..67,40..49,13..94 and w = 0,0..1 and w = 0 or n % 3 = 0",
		"n % 25 = 7..17 or i % 3 = 4..9,2..91,20..77,47..89 or f = 1 and i % 4 = 0,0,0,0 and w != 0 and w != 0",
		"i % 3 = 2..6,3..6,2..12 and i % 2 = 44..96,1..52 or i % 4 = 3..8 or f = 0..1 or w != 2..5,4..6,2..6 or i % 5 != 0..1,0,0",
		"w = 6 and f = 3,11,44,80 and i % 2 = 1 or i % 3 = 1 and w = 2,4", "w = 1,3,5 and f = 7,12,63,82 or i = 1 and i % 2 = 0", "v = 1,3,5 and w = 2,4 and f = 2,8,31,54",
		"f % 100 = 3,17,58,91 and w = 1,3,5 or i % 2 = 1 and i = 0", "f % 100 = 3,17,58,91 and w = 1,3,5 or w = 6", "t = 3,5,9,61", "t = 2,4 and f % 100 = 3,17,58,91", "t % 10 = 3,5 and f = 2,13,30,38",
		"f = 2,13,60,98 and v = 1,3,6 and i % 3 = 1", "i % 25 = 3,7,11..13 and i % 4 = 1..2 and i % 3 = 1 and i = 0..1", "i % 25 = 3,7,11..13 or i % 4 = 1..2 and n % 3 = 1",
	} {
		d := checkAutomaton(t, read(t, s)[0])
		largest = max(largest, len(d.Next))
	}
	if largest < 80 {
		t.Errorf("the largest automaton has %d states only", largest)
	}
}

func TestResultsAreNew(t *testing.T) {
	c := read(t, "i = 1 and v = 0")[0]
	d, _ := decide.Automaton(c)
	for s, row := range d.Next {
		for symbol := range row {
			row[symbol] = 0
		}
		d.Accept[s] = true
	}
	checkAutomaton(t, c)
}

// TestIntegers checks P10.6 with the automata, which accept the integers for which the conditions hold.
func TestIntegers(t *testing.T) {
	next := random()
	for range 300 {
		c := randomCondition(next, 1+next(3), 100)
		d, e := decide.Automaton(c)
		if e != api.OK {
			continue
		}
		for n := 101; n <= 400; n++ {
			want := accepts(d, strconv.Itoa(n))
			for _, more := range []int{300, 600, 300 * (1 + next(1000)), 300000000, 300 * 3333333333330} {
				if w := strconv.Itoa(n + more); accepts(d, w) != want || holdsFor(c, w) != want {
					t.Fatalf("P10.6: %s holds for %d or for %s only", show(c), n, w)
				}
			}
		}
	}
}
