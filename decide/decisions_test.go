package decide_test

import (
	"fmt"
	"slices"
	"strconv"
	"strings"
	"sync"
	"testing"

	"calque/api"
	"calque/automaton"
	"calque/condition"
	"calque/decide"
)

// sample has numbers of all kinds in their order: a condition that holds for some number holds for one of them, and
// the first one is among them. Integers above 100 that differ by a multiple of 300 are of one kind; so are the
// fractions of the same length, with as many zeros at the end, which differ by a multiple of 100 without these.
type sample struct {
	wholes, fractions []operands // the operands of whole parts, and of fractions behind a 0
	numbers           []sampled
}

// sampled is a number of a sample, with the indices of its parts.
type sampled struct {
	text            string
	whole, fraction int
}

// fractionsOfAllKinds returns the fractions of a sample.
func fractionsOfAllKinds() []string {
	all := []string{""}
	for v := 1; v <= 6; v++ {
		all = append(all, strings.Repeat("0", v))
		for w := 1; w <= v; w++ {
			for n := 1; n <= 210 && len(strconv.Itoa(n)) <= w; n++ {
				if n%10 > 0 {
					all = append(all, fmt.Sprintf("%0*d", w, n)+strings.Repeat("0", v-w))
				}
			}
		}
	}
	return all
}

// theSample returns the sample, which takes some time to sort.
var theSample = sync.OnceValue(func() sample {
	var s sample
	fractions := fractionsOfAllKinds()
	for _, f := range fractions {
		s.fractions = append(s.fractions, operandsOf("0."+f))
	}
	for n := range 410 {
		whole := strconv.Itoa(n)
		s.wholes = append(s.wholes, operandsOf(whole))
		for i, f := range fractions {
			s.numbers = append(s.numbers, sampled{strings.TrimSuffix(whole+"."+f, "."), n, i})
		}
	}
	slices.SortFunc(s.numbers, func(a, b sampled) int {
		switch {
		case isBefore(a.text, b.text):
			return -1
		case isBefore(b.text, a.text):
			return 1
		}
		return 0
	})
	return s
})

// kinds returns for each of some parts the index of its kind, and for each kind the truths of relations.
func kinds(parts []operands, truths func(o operands) []bool) (of []int, all [][]bool) {
	known := map[string]int{}
	for _, o := range parts {
		l := truths(o)
		key := keyOf(l)
		if _, ok := known[key]; !ok {
			known[key] = len(all)
			all = append(all, l)
		}
		of = append(of, known[key])
	}
	return of, all
}

// keyOf returns a text for some truths.
func keyOf(truths []bool) string {
	var b strings.Builder
	for _, holds := range truths {
		b.WriteString(strconv.FormatBool(holds)[:1])
	}
	return b.String()
}

// first is the first number for which exactly some conditions hold.
type first struct {
	holds  []bool
	number string
}

// firsts returns the first numbers for all sets of conditions that occur, in their order.
func (s sample) firsts(l []api.Cond) []first {
	var all []api.Relation
	for _, c := range l {
		all = append(all, slices.Concat(c...)...)
	}
	wholes, truthsOfWholes := kinds(s.wholes, func(o operands) []bool { return truthsOf(all, o) })
	fractions, truthsOfFractions := kinds(s.fractions, func(o operands) []bool {
		isInteger := o["t"].Sign() == 0
		return append(truthsOf(all, o), isInteger)
	})
	seen := make([][]bool, len(truthsOfWholes))
	for i := range seen {
		seen[i] = make([]bool, len(truthsOfFractions))
	}
	known := map[string]bool{}
	var found []first
	for _, x := range s.numbers {
		whole, fraction := wholes[x.whole], fractions[x.fraction]
		if seen[whole][fraction] {
			continue
		}
		seen[whole][fraction] = true
		holds := conditionsOf(l, all, truthsOfWholes[whole], truthsOfFractions[fraction])
		if key := keyOf(holds); !known[key] {
			known[key] = true
			found = append(found, first{holds, x.text})
		}
	}
	return found
}

// conditionsOf returns which conditions hold for a number, from what its parts say of all relations.
func conditionsOf(l []api.Cond, all []api.Relation, whole, fraction []bool) []bool {
	isInteger := fraction[len(all)]
	var truths, holds []bool
	for i, r := range all {
		isOfWhole := letters[r.Operand] == "i" || letters[r.Operand] == "n" && isInteger
		truths = append(truths, isOfWhole && whole[i] || !isOfWhole && fraction[i])
	}
	for _, c := range l {
		holds = append(holds, evaluate(c, truths))
		truths = truths[len(slices.Concat(c...)):]
	}
	return holds
}

// find returns the first one of numbers for which something is true, or an empty string.
func find(l []first, is func(holds []bool) bool) string {
	for _, x := range l {
		if is(x.holds) {
			return x.number
		}
	}
	return ""
}

// checkDecisions compares all decisions about some conditions with those for the numbers of the sample.
func checkDecisions(t *testing.T, s sample, l []api.Cond) []first {
	t.Helper()
	before, firsts := show(l...), s.firsts(l)
	want := find(firsts, func(holds []bool) bool { return !slices.Contains(holds, true) })
	if w, ok, e := decide.Total(l); w != want || ok != (want == "") || e != api.OK {
		t.Fatalf("P10.3, P10.4: Total(%s) is %q, %v, %d, must be %q", before, w, ok, e, want)
	}
	for i, c := range l {
		want := find(firsts, func(holds []bool) bool { return holds[i] })
		if w, ok, e := decide.Satisfiable(c); w != want || ok != (want != "") || e != api.OK {
			t.Fatalf("P10.3, P10.4: Satisfiable(%s) is %q, %v, %d, must be %q", show(c), w, ok, e, want)
		}
		j := (i*7 + 1) % len(l)
		want = find(firsts, func(holds []bool) bool { return holds[i] != holds[j] })
		if w, ok, e := decide.Equivalent(c, l[j]); w != want || ok != (want == "") || e != api.OK {
			t.Fatalf("P10.3, P10.4: Equivalent(%s | %s) is %q, %v, %d, must be %q", show(c), show(l[j]), w, ok, e, want)
		}
	}
	checkDisjoint(t, l, firsts)
	if show(l...) != before {
		t.Fatalf("P10.1: %s is changed to %s", before, show(l...))
	}
	return firsts
}

// checkDisjoint compares what Disjoint finds with the first pair of conditions that hold both for some number.
func checkDisjoint(t *testing.T, l []api.Cond, firsts []first) {
	t.Helper()
	wantI, wantJ, want, wantError := 0, 0, "", api.OK
	for i := len(l) - 1; i >= 0; i-- {
		for j := len(l) - 1; j > i; j-- {
			if w := find(firsts, func(holds []bool) bool { return holds[i] && holds[j] }); w != "" {
				wantI, wantJ, want, wantError = i, j, w, api.ErrOverlap
			}
		}
	}
	if i, j, w, e := decide.Disjoint(rules(l)); i != wantI || j != wantJ || w != want || e != wantError {
		t.Fatalf("P10.3, P10.4: Disjoint(%s) is %d, %d, %q, %d, must be %d, %d, %q, %d", show(l...), i, j, w, e, wantI, wantJ, want, wantError)
	}
}

func TestSatisfiable(t *testing.T) {
	for text, want := range map[string]string{
		"n = 0": "0", "n = 1": "1", "i = 1 and v != 0": "1.0", "n = 1 and n = 2": "", "n % 100 = 11": "11", "i = 100": "100", "i != 0..99": "100", "n != 0..100": "0.1", "i != 0..100": "101",
		"v = 0": "0", "v != 0": "0.0", "v = 6": "0.000000", "v != 0..6": "", "v != 0..5": "0.000000", "w = 6": "0.000001", "w != 0..5": "0.000001", "w != 0..6": "", "w = 1 and v = 6": "0.100000",
		"f = 100": "0.100", "f = 100 and v = 6": "0.000100", "f != 0..100": "0.101", "f != 0..100 and f % 100 = 0": "0.200", "f = 0 and v = 6": "0.000000", "f % 100 = 0 and w != 0": "0.100",
		"f % 10 = 0 and w != 0": "0.10", "f = 100 and w != 1": "0.0100", "f = 100 and w != 1..2": "0.00100", "f = 100 and w != 1..3": "0.000100", "f = 100 and w != 1..4": "",
		"t = 99": "0.99", "t = 99 and v = 6": "0.000099", "t = 99 and v = 6 and w = 2": "0.990000", "t = 100": "", "t = 10": "", "t % 10 = 0 and t != 0": "", "t % 100 = 0 and w != 0": "", "t != 0..100": "0.101",
		"t % 100 = 1 and t != 1": "0.101", "t = 5 and v = 2": "0.05", "w = 0 and v = 3": "0.000", "w = 2 and t = 1": "0.01", "t != 0..100 and w = 6 and t % 100 = 99": "0.000199",
		"n % 2 != 0,1": "0.1", "n % 2 = 2": "", "i % 2 = 2": "", "n != 0..100 and i = 1": "1.1", "i = 10..20 and w != 0": "10.1", "n % 10 = 5 and v = 1": "5.0", "n = 3 and w != 0": "",
		// The largest integers that are ever needed.
		"n != 0..100 and n % 10 = 0": "110", "i != 0..100 and i % 4 = 0 and i % 25 = 0 and i % 3 = 0": "300", "i != 0..100 and i % 100 = 0 and i % 3 = 2": "200", "i % 100 = 0 and i % 3 = 1 and n != 0..100 and w = 0": "400",
		"i % 100 = 99 and i % 6 = 3 and i != 99": "399", "i % 100 = 99 and i % 3 = 0 and i != 99 and v = 6 and t != 0": "399.000001",
		// The point is behind the digits.
		"i = 100 or i = 9 and v = 1": "100", "i = 100 or i = 1 and v = 1": "100", "i % 100 = 99 and i != 99 or i = 1 and v = 1": "199", "i % 100 = 0 and i % 3 = 2 or i = 1 and v = 1": "1.0",
		"i = 10 and v = 1 or i = 1 and v = 2": "10.0", "i = 20 and v = 1 or i = 1 and v = 2": "1.00", "i = 9 and v = 2 or i = 12 and v = 1": "12.0", "i = 99 and v = 0 or i = 1 and v = 1": "99", "i != 0..100 or n = 0 and v = 1": "0.0", "i = 100 or n = 0 and v = 1": "0.0",
	} {
		if w, ok, e := decide.Satisfiable(read(t, text)[0]); w != want || ok != (want != "") || e != api.OK {
			t.Errorf("P10.3: Satisfiable(%s) is %q, %v, %d, must be %q", text, w, ok, e, want)
		}
	}
}

func TestTotal(t *testing.T) {
	for _, x := range []struct {
		texts []string
		want  string
	}{
		{nil, "0"}, {[]string{"i = 0,1", "i != 0,1"}, ""}, {[]string{"i != 0,1"}, "0"}, {[]string{"n = 0..100", "n % 2 = 0", "i % 2 = 1"}, "0.1"}, {[]string{"n != 5 or n = 5"}, ""},
		{[]string{"i = 0..100", "i % 3 = 0", "i % 3 = 1"}, "101"}, {[]string{"v = 0..5"}, "0.000000"}, {[]string{"v = 0..6"}, ""}, {[]string{"w = 0..6"}, ""}, {[]string{"w = 0..5"}, "0.000001"},
		{[]string{"n % 2 = 0", "n % 2 = 1"}, "0.1"}, {[]string{"n % 2 = 0", "n % 2 != 0"}, ""}, {[]string{"n = 0", "v != 0", "i = 1..100", "i % 3 = 0,2"}, "103"}, {[]string{"f = 0..100", "f % 100 != 7"}, "0.107"},
		{[]string{"t = 0..99", "t % 10 = 1..9"}, ""}, {[]string{"t = 0..99", "t % 10 = 1..8"}, "0.109"}, {[]string{"i = 0..100", "i % 100 != 0", "i % 3 != 1"}, "400"},
		{[]string{"i % 10 = 0", "i % 10 = 1", "i % 10 = 2", "i % 10 = 3", "i % 10 = 4", "i % 10 = 5", "i % 10 = 6", "i % 10 = 7", "i % 10 = 8", "i % 10 = 9"}, ""},
		{[]string{"i % 10 = 0", "i % 10 = 1", "i % 10 = 2", "i % 10 = 3", "i % 10 = 4", "i % 10 = 5", "i % 10 = 6", "i % 10 = 7", "i % 10 = 8", "i % 10 = 9 and v != 4"}, "9.0000"},
	} {
		if w, ok, e := decide.Total(read(t, x.texts...)); w != x.want || ok != (x.want == "") || e != api.OK {
			t.Errorf("P10.3: Total(%q) is %q, %v, %d, must be %q", x.texts, w, ok, e, x.want)
		}
	}
}

func TestEquivalent(t *testing.T) {
	for _, x := range [][3]string{
		{"n = 1", "i = 1 and w = 0", ""}, {"n = 1", "i = 1 and t = 0", ""}, {"i = 1", "n = 1", "1.1"}, {"n = 1", "i = 1 and v = 0", "1.0"}, {"n = 1", "n = 2", "1"}, {"n != 1", "i != 1 or w != 0", ""},
		{"n % 10 = 1", "n % 5 = 1 and n % 2 = 1", ""}, {"n % 10 = 1", "n % 5 = 1", "6"}, {"i % 100 = 0", "i % 4 = 0 and i % 25 = 0", ""}, {"v = 0", "v != 1..6", ""}, {"w = 0", "t = 0", ""}, {"v = 0", "f = 0", "0.0"},
		{"n = 1 and n = 2", "t = 100", ""}, {"n = 1 or n != 1", "v = 0..6", ""}, {"t = 10,20..100", "t = 20..99 or t = 100", ""}, {"i % 2 = 0", "i % 2 != 1", ""}, {"n % 2 = 0", "n % 2 != 1", "0.1"},
		{"i = 0..100 or i % 3 = 1", "i = 0..100 or i % 3 = 1 and i % 100 != 99", "199"}, {"f = 1", "f = 1 and w != 6", "0.000001"}, {"w = 1 and f = 100", "v = 3 and f = 100", ""},
	} {
		c := read(t, x[0], x[1])
		for range 2 {
			if w, ok, e := decide.Equivalent(c[0], c[1]); w != x[2] || ok != (x[2] == "") || e != api.OK {
				t.Errorf("P10.3: Equivalent(%s) is %q, %v, %d, must be %q", show(c...), w, ok, e, x[2])
			}
			c[0], c[1] = c[1], c[0]
		}
	}
}

func TestDisjoint(t *testing.T) {
	for _, x := range []struct {
		texts []string
		i, j  int
		want  string
	}{
		{nil, 0, 0, ""}, {[]string{"n = 1"}, 0, 0, ""}, {[]string{"n % 10 = 1", "n % 100 = 11"}, 0, 1, "11"}, {[]string{"n = 1", "n = 2", "n = 3"}, 0, 0, ""}, {[]string{"n = 1", "i = 1 and w != 0"}, 0, 0, ""},
		{[]string{"n = 0", "n % 10 = 1", "n = 2", "n % 100 = 11"}, 1, 3, "11"}, {[]string{"n = 50..60", "n = 1", "n = 1", "n = 55"}, 0, 3, "55"}, {[]string{"n = 5..6", "n = 7", "n = 6", "n = 5"}, 0, 2, "6"},
		{[]string{"i = 3", "v = 3", "w = 3", "t = 3"}, 0, 1, "3.000"}, {[]string{"n = 3", "w = 3", "t = 3 and w = 3 and i != 3"}, 1, 2, "0.003"}, {[]string{"i != 0..100 and i % 3 = 1", "i % 100 = 0"}, 0, 1, "400"},
		{[]string{"n = 1 and n = 2", "n = 1 and n = 2"}, 0, 0, ""}, {[]string{"n = 0", "n = 1", "n = 2", "n = 3", "n = 4", "n = 5", "n = 6", "n = 7", "n = 8", "n = 9"}, 0, 0, ""},
		{[]string{"n = 0", "n = 1", "n = 2", "n = 3", "n = 4", "n = 5", "n = 6", "n = 7", "i = 8", "n % 100 = 8"}, 8, 9, "8"},
		{[]string{"i = 1 and v = 0", "v = 0 and i % 10 = 2..4 and i % 100 != 12..14", "v = 0 and i != 1 and i % 10 = 0,1,5..9 or v = 0 and i % 100 = 12..14"}, 0, 0, ""},
	} {
		wantError := api.OK
		if x.want != "" {
			wantError = api.ErrOverlap
		}
		if i, j, w, e := decide.Disjoint(rules(read(t, x.texts...))); i != x.i || j != x.j || w != x.want || e != wantError {
			t.Errorf("P10.3: Disjoint(%q) is %d, %d, %q, %d, must be %d, %d, %q", x.texts, i, j, w, e, x.i, x.j, x.want)
		}
	}
}

// TestDecisions compares decisions about conditions without a pattern with the sample.
func TestDecisions(t *testing.T) {
	s, next := theSample(), random()
	for n := range 11 {
		for range 25 {
			checkDecisions(t, s, conditions(next, n))
		}
	}
	for range 150 {
		l := conditions(next, 2+next(3))
		// Conditions that together hold for many numbers, and that differ in one relation only.
		d := slices.Clone(l[0])
		d[0] = slices.Clone(d[0])
		d[0][0].Not = !d[0][0].Not
		checkDecisions(t, s, append(l, d))
	}
	for range 10 {
		var l []api.Cond
		for range 10 {
			l = append(l, randomCondition(next, 6, 100))
		}
		checkDecisions(t, s, l)
	}
	for _, text := range someTexts {
		checkDecisions(t, s, read(t, text, someTexts[next(len(someTexts))], someTexts[next(len(someTexts))]))
	}
}

// TestDecisionsOfRelations compares decisions about single relations with the sample.
func TestDecisionsOfRelations(t *testing.T) {
	s := theSample()
	for operand, letter := range letters {
		for _, mod := range mods[letter] {
			var l []api.Cond
			for _, to := range []int{greatest[letter], mod, mod - 1, greatest[letter] - 1, 0, 1} {
				if 0 <= to && to <= greatest[letter] {
					l = append(l, api.Cond{{{Operand: operand, Mod: mod, Spans: []api.Span{{From: to / 2, To: to}}}}}, api.Cond{{{Operand: operand, Mod: mod, Not: true, Spans: []api.Span{{From: 0, To: to}}}}})
				}
			}
			checkDecisions(t, s, l[:min(len(l), 10)])
			checkDecisions(t, s, l[max(len(l)-10, 0):])
		}
	}
}

// TestFirstNumbers checks P10.3 and P10.4 with layer 8 only: nothing is shown by a short number in front of a witness,
// nor by any number, if there is no witness.
func TestFirstNumbers(t *testing.T) {
	short := slices.Clip(slices.DeleteFunc(words(4), func(w string) bool { return !isNumber(w) }))
	next := random()
	for range 120 {
		l := conditions(next, 1+next(3))
		numbers := short
		for range 3000 {
			numbers = append(numbers, randomNumber(next))
		}
		w, total, _ := decide.Total(l)
		checkFirst(t, fmt.Sprintf("Total(%s)", show(l...)), numbers, w, !total, func(n string) bool {
			return !slices.ContainsFunc(l, func(c api.Cond) bool { return holds(t, c, n) })
		})
		a, b := l[0], l[len(l)-1]
		w, ok, _ := decide.Satisfiable(a)
		checkFirst(t, fmt.Sprintf("Satisfiable(%s)", show(a)), numbers, w, ok, func(n string) bool { return holds(t, a, n) })
		w, equivalent, _ := decide.Equivalent(a, b)
		checkFirst(t, fmt.Sprintf("Equivalent(%s)", show(a, b)), numbers, w, !equivalent, func(n string) bool { return holds(t, a, n) != holds(t, b, n) })
		_, _, w, e := decide.Disjoint(rules([]api.Cond{a, b}))
		checkFirst(t, fmt.Sprintf("Disjoint(%s)", show(a, b)), numbers, w, e == api.ErrOverlap, func(n string) bool { return holds(t, a, n) && holds(t, b, n) })
	}
}

// holds reports whether a valid condition holds for a number.
func holds(t *testing.T, c api.Cond, number string) bool {
	t.Helper()
	ok, e := condition.Holds(c, number)
	if e != api.OK {
		t.Fatalf("Holds(%s, %q) has the error %d", show(c), number, e)
	}
	return ok
}

// checkFirst checks that a witness shows something, and that none of the numbers in front of it does.
func checkFirst(t *testing.T, what string, numbers []string, witness string, found bool, shows func(n string) bool) {
	t.Helper()
	if found && (!isNumber(witness) || !shows(witness)) {
		t.Fatalf("P10.3: %s is %q, which does not show it", what, witness)
	}
	for _, n := range numbers {
		if (!found || isBefore(n, witness)) && shows(n) {
			t.Fatalf("P10.3, P10.4: %s is %q, %v, but %q shows it, too", what, witness, found, n)
		}
	}
}

// automata returns the automata of conditions, and false if one exceeds the limit.
func automata(l []api.Cond) ([]dfa, bool) {
	var all []dfa
	for _, c := range l {
		d, e := decide.Automaton(c)
		if e != api.OK {
			return nil, false
		}
		all = append(all, d)
	}
	return all, true
}

// must returns an automaton that must exist.
func must(t *testing.T) func(d dfa, e api.Errno) dfa {
	return func(d dfa, e api.Errno) dfa {
		t.Helper()
		if e != api.OK {
			t.Fatalf("an operation of layer 9 has the error %d", e)
		}
		return d
	}
}

// TestWitnessesOfAutomata compares the decisions with the first words of the automata.
func TestWitnessesOfAutomata(t *testing.T) {
	next, check := random(), must(t)
	tested := 0
	for range 1500 {
		l := []api.Cond{randomCondition(next, 1+next(3), 12), randomCondition(next, 1+next(3), 12)}
		d, ok := automata(l)
		if !ok {
			continue
		}
		tested++
		numbers := decide.Numbers()
		a, b := check(automaton.And(d[0], numbers)), check(automaton.And(d[1], numbers))
		first := func(d dfa) string {
			w, _, e := automaton.Shortest(d)
			if e != api.OK {
				t.Fatalf("Shortest has the error %d", e)
			}
			return w
		}
		notA, notB := check(automaton.Complement(a)), check(automaton.Complement(b))
		rest := check(automaton.And(numbers, check(automaton.And(notA, notB))))
		differ := check(automaton.Or(check(automaton.And(a, notB)), check(automaton.And(b, notA))))
		v, _, _ := decide.Satisfiable(l[0])
		w, _, _ := decide.Total(l)
		x, equivalent, _ := decide.Equivalent(l[0], l[1])
		_, _, y, _ := decide.Disjoint(rules(l))
		if v != first(a) || w != first(rest) || x != first(differ) || y != first(check(automaton.And(a, b))) {
			t.Fatalf("P10.4: the decisions about %s have the witnesses %q, %q, %q and %q, but not those of the automata", show(l...), v, w, x, y)
		}
		if same(a, b) != equivalent {
			t.Fatalf("P10.5: the automata of %s are equal: %v", show(l...), same(a, b))
		}
	}
	if tested < 700 {
		t.Errorf("only %d pairs of conditions were tested", tested)
	}
}

// changed returns a condition that holds for the same numbers.
func changed(next func(int) int, c api.Cond) api.Cond {
	d := api.Cond{}
	for _, i := range shuffled(next, len(c)) {
		var l []api.Relation
		for _, j := range shuffled(next, len(c[i])) {
			l = append(l, changedRelation(next, c[i][j]))
		}
		d = append(d, l)
	}
	return d
}

// changedRelation returns a relation that holds for the same numbers.
func changedRelation(next func(int) int, r api.Relation) api.Relation {
	spans := slices.Clone(r.Spans)
	if s := spans[0]; len(spans) < 4 && s.From < s.To {
		middle := s.From + next(s.To-s.From)
		spans = append(spans[1:], api.Span{From: s.From, To: middle}, api.Span{From: middle + 1, To: s.To})
	}
	slices.Reverse(spans)
	r.Spans = spans
	if letters[r.Operand] == "i" && r.Mod == 2 {
		evens, odds := relationHolds(r, operandsOf("0")), relationHolds(r, operandsOf("1"))
		r.Not, r.Spans = !r.Not, nil
		for n, holds := range []bool{evens, odds} {
			if holds != r.Not {
				r.Spans = append(r.Spans, api.Span{From: n, To: n})
			}
		}
		if r.Spans == nil {
			r.Spans = []api.Span{{From: 2, To: 2}}
		}
	}
	return r
}

// shuffled returns the numbers below n in some order.
func shuffled(next func(int) int, n int) []int {
	l := make([]int, n)
	for i := range l {
		j := next(i + 1)
		l[i], l[j] = l[j], i
	}
	return l
}

// checkEqual checks that two conditions are equivalent, and have equal automata for numbers, if they have automata.
func checkEqual(t *testing.T, a, b api.Cond) {
	t.Helper()
	if w, ok, e := decide.Equivalent(a, b); w != "" || !ok || e != api.OK {
		t.Fatalf("P10.5: Equivalent(%s) is %q, %v, %d", show(a, b), w, ok, e)
	}
	d, ok := automata([]api.Cond{a, b})
	if !ok {
		return
	}
	check := must(t)
	x, y := check(automaton.And(d[0], decide.Numbers())), check(automaton.And(d[1], decide.Numbers()))
	if !same(x, y) {
		t.Fatalf("P10.5: the automata of %s differ", show(a, b))
	}
}

func TestSets(t *testing.T) {
	next := random()
	for range 600 {
		c := randomCondition(next, 1+next(4), []int{2, 5, 12, 100}[next(4)])
		checkEqual(t, c, changed(next, c))
	}
	// Some of these differ for decimal words that are no numbers.
	for _, x := range [][2]string{
		{"n = 1", "i = 1 and w = 0"}, {"v = 0..6", "v != 0..6 or v = 0..6"}, {"v != 6", "v = 0..5"}, {"w = 0", "t = 0"}, {"n = 1 and n = 2", "v != 0..6"}, {"w = 6", "w != 0..5"}, {"n % 10 = 1", "n % 5 = 1 and n % 2 = 1"},
		{"v = 3..6 and i = 7", "v != 0..2 and i = 7"}, {"f = 100 and w = 4", "f = 100 and v = 6"}, {"t % 10 = 0", "w = 0"}, {"i = 5 and n != 5", "i = 5 and t != 0"}, {"n % 6 = 5", "n % 2 = 1 and n % 3 = 2"},
	} {
		c := read(t, x[0], x[1])
		checkEqual(t, c[0], c[1])
	}
}

// TestIntegersAreAlike checks P10.6 for the decisions: what is so for an integer is so for those of its kind.
func TestIntegersAreAlike(t *testing.T) {
	next := random()
	for range 300 {
		c := randomCondition(next, 1+next(6), 100)
		n := 101 + next(300)
		for _, more := range []int{300, 600, 300 * (1 + next(1000)), 300 * 3333333333330} {
			a, b := strconv.Itoa(n), strconv.Itoa(n+more)
			if holds(t, c, a) != holds(t, c, b) {
				t.Fatalf("P10.6: %s holds for %s or for %s only", show(c), a, b)
			}
		}
	}
}
