package plural_test

import (
	"math/rand"
	"slices"
	"strings"
	"testing"

	"calque/api"
	"calque/automaton"
	"calque/decide"
	"calque/plural"
	"calque/table"
)

// disjoint returns rules of which at most one holds for a number: known ones, and some made at random.
func disjoint(r *rand.Rand, count int) [][]api.Rule {
	var all [][]api.Rule
	for _, locale := range table.Sample().Locales {
		all = append(all, locale.Cardinal, locale.Ordinal)
	}
	for _, texts := range families {
		all = append(all, numbered(someClasses(r), texts))
	}
	for range count {
		all = append(all, randomRules(r))
	}
	return all
}

// classOf returns the class of a number.
func classOf(t *testing.T, l []api.Rule, number string) string {
	t.Helper()
	class, e := plural.Class(l, number)
	if e != api.OK || !slices.Contains(order, class) {
		t.Fatalf("P14.2: Class(%s, %q) is %q, %d", show(l), number, class, e)
	}
	return class
}

// classesOf returns the classes that occur.
func classesOf(t *testing.T, l []api.Rule) []string {
	t.Helper()
	classes, e := plural.Classes(l)
	if e != api.OK {
		t.Fatalf("P14.2: Classes(%s) has the error %d", show(l), e)
	}
	return classes
}

// examplesOf returns the examples of all classes, which are empty for those that do not occur.
func examplesOf(t *testing.T, l []api.Rule) []string {
	t.Helper()
	var all []string
	for _, class := range order {
		s, e := plural.Example(l, class)
		if (e != api.OK || s == "") && (e != api.ErrNone || s != "") {
			t.Fatalf("P14.4: Example(%s, %s) is %q, %d", show(l), class, s, e)
		}
		all = append(all, s)
	}
	return all
}

// TestOneClass looks for the classes of numbers among those that occur.
func TestOneClass(t *testing.T) {
	r := rand.New(rand.NewSource(1))
	for _, l := range disjoint(r, 1000) {
		classes := classesOf(t, l)
		if !slices.IsSortedFunc(classes, func(a, b string) int { return slices.Index(order, a) - slices.Index(order, b) }) || len(slices.Compact(slices.Clone(classes))) < len(classes) {
			t.Fatalf("P14.1: Classes(%s) is %q", show(l), classes)
		}
		for _, n := range randomNumbers(r, 50) {
			class := classOf(t, l, n)
			if !slices.Contains(classes, class) {
				t.Fatalf("P14.2: %s has the class %s by %s, and only %q occur", n, class, show(l), classes)
			}
			opposite := "-" + n
			if n[0] == '-' {
				opposite = n[1:]
			}
			if isNumber(opposite) && classOf(t, l, opposite) != class {
				t.Fatalf("P14.2: %s and %s have different classes by %s", n, opposite, show(l))
			}
		}
	}
}

// TestAnyRules compares the class of numbers with the first rule that holds, and looks at rules that overlap.
func TestAnyRules(t *testing.T) {
	r := rand.New(rand.NewSource(2))
	overlaps, count := 0, 300
	for range count {
		l := anyRules(r)
		before := show(l)
		seen := false
		for _, n := range randomNumbers(r, 40) {
			want, hold := "other", 0
			for i := len(l) - 1; i >= 0; i-- {
				if holds(l[i].Cond, n) {
					want, hold = l[i].Class, hold+1
				}
			}
			checkClass(t, "P14.1", l, n, want, api.OK)
			seen = seen || hold > 1
		}
		_, _, witness, want := decide.Disjoint(l)
		got, e := plural.Classes(l)
		if e != want || (len(got) == 0) != (e != api.OK) || seen && e != api.ErrOverlap {
			t.Fatalf("P14.1: Classes(%s) is %q, %d, and the first number for which two rules hold is %q", before, got, e, witness)
		}
		for _, class := range order {
			if s, e := plural.Example(l, class); (s == "") != (e != api.OK) || (e == api.ErrOverlap) != (want == api.ErrOverlap) {
				t.Fatalf("P14.1: Example(%s, %s) is %q, %d", before, class, s, e)
			}
		}
		if e == api.ErrOverlap {
			overlaps++
		}
		if show(l) != before {
			t.Fatalf("P14.1: the rules %s are changed to %s", before, show(l))
		}
	}
	if overlaps < 60 || overlaps > count-60 {
		t.Errorf("%d of %d lists overlap", overlaps, count)
	}
}

// TestOrder changes the order of rules that do not overlap.
func TestOrder(t *testing.T) {
	r := rand.New(rand.NewSource(3))
	for _, l := range disjoint(r, 200) {
		classes, examples := classesOf(t, l), examplesOf(t, l)
		some := randomNumbers(r, 15)
		all := orders(l)
		if len(all) > 6 {
			all = shuffled(r, all)[:5]
		}
		for _, o := range all {
			if got := classesOf(t, o); !slices.Equal(got, classes) {
				t.Fatalf("P14.3: Classes(%s) is %q, but %q in another order", show(l), classes, got)
			}
			if got := examplesOf(t, o); !slices.Equal(got, examples) {
				t.Fatalf("P14.3: the examples of %s are %q, but %q in another order", show(l), examples, got)
			}
			for _, n := range some {
				if a, b := classOf(t, l, n), classOf(t, o, n); a != b {
					t.Fatalf("P14.3: Class(%s, %s) is %s, but %s in another order", show(l), n, a, b)
				}
			}
		}
	}
}

// TestFirstNumbers looks at the numbers in front of examples.
func TestFirstNumbers(t *testing.T) {
	r := rand.New(rand.NewSource(4))
	none := 0
	for _, l := range disjoint(r, 700) {
		classes, examples := classesOf(t, l), examplesOf(t, l)
		some := randomNumbers(r, 100)
		for i, class := range order {
			if slices.Contains(classes, class) != (examples[i] != "") {
				t.Fatalf("P14.4: the examples of %s are %q, and %q occur", show(l), examples, classes)
			}
			if examples[i] == "" {
				none++
			} else if classOf(t, l, examples[i]) != class || strings.HasPrefix(examples[i], "-") {
				t.Fatalf("P14.4: %s is no example of %s with %s", examples[i], class, show(l))
			}
		}
		for _, n := range slices.Concat(some, numbers[:300]) {
			n = strings.TrimPrefix(n, "-")
			class := classOf(t, l, n)
			if example := examples[slices.Index(order, class)]; example == "" || compare(n, example) < 0 {
				t.Fatalf("P14.4: %s is the example of %s with %s, but %s is in front of it", example, class, show(l), n)
			}
		}
	}
	if none < 500 {
		t.Errorf("only %d classes do not occur", none)
	}
}

// TestFewerRules takes away each rule.
func TestFewerRules(t *testing.T) {
	r := rand.New(rand.NewSource(5))
	changes := 0
	for _, l := range disjoint(r, 700) {
		some := randomNumbers(r, 30)
		for i := range l {
			rest := slices.Delete(slices.Clone(l), i, i+1)
			for _, n := range some {
				want := classOf(t, l, n)
				if want == l[i].Class {
					want = "other"
					changes++
				}
				checkClass(t, "P14.5", rest, n, want, api.OK)
			}
			want, e := plural.Example(l, l[i].Class)
			if other, f := plural.Example(rest, "other"); e == api.OK && (f != api.OK || compare(other, want) > 0) {
				t.Fatalf("P14.5: without the rule for %s of %s, the example of other is %q, and must not be behind %q", l[i].Class, show(l), other, want)
			}
			if s, e := plural.Example(rest, l[i].Class); s != "" || e != api.ErrNone {
				t.Fatalf("P14.5: Example(%s, %s) is %q, %d", show(rest), l[i].Class, s, e)
			}
		}
	}
	if changes < 1500 {
		t.Errorf("only %d numbers change their class", changes)
	}
}

// automata returns the automata of conditions, and false if one is too large.
func automata(l []api.Rule) ([]automaton.DFA, bool) {
	var all []automaton.DFA
	for _, r := range l {
		d, e := decide.Automaton(r.Cond)
		if e != api.OK {
			return nil, false
		}
		all = append(all, d)
	}
	return all, true
}

// others returns the automaton of the numbers that no automaton accepts.
func others(l []automaton.DFA) automaton.DFA {
	rest := decide.Numbers()
	for _, d := range l {
		d, _ = automaton.Complement(d)
		rest, _ = automaton.And(rest, d)
	}
	return rest
}

// TestAutomata compares classes of numbers with what the automata of the conditions accept.
func TestAutomata(t *testing.T) {
	r := rand.New(rand.NewSource(6))
	compared, total := 0, 0
	for _, l := range disjoint(r, 3000) {
		all, ok := automata(l)
		if !ok {
			continue
		}
		compared++
		for _, n := range slices.Concat(randomNumbers(r, 40), numbers[:100]) {
			n = strings.TrimPrefix(n, "-")
			class := classOf(t, l, n)
			for i, d := range all {
				if automaton.Run(d, n) != (class == l[i].Class) {
					t.Fatalf("W1: Class(%s, %s) is %s, and the automaton of %s accepts it: %v", show(l), n, class, l[i].Class, automaton.Run(d, n))
				}
			}
		}
		firsts := map[string]automaton.DFA{"other": others(all)}
		for i, d := range all {
			firsts[l[i].Class], _ = automaton.And(d, decide.Numbers())
		}
		for i, example := range examplesOf(t, l) {
			want, ok := "", false
			if d, exists := firsts[order[i]]; exists {
				want, ok, _ = automaton.Shortest(d)
			}
			if example != want || (example != "") != ok {
				t.Fatalf("W1, P14.4: the example of %s with %s is %q, must be %q", order[i], show(l), example, want)
			}
			if order[i] == "other" && !ok {
				total++
			}
		}
	}
	if compared < 500 || total < 20 {
		t.Errorf("%d lists are compared, of which %d are total", compared, total)
	}
}

// TestTotal looks at rules of which one holds for every number, made from others by a rule for the rest.
func TestTotal(t *testing.T) {
	r := rand.New(rand.NewSource(7))
	total := 0
	for _, l := range disjoint(r, 1500) {
		var conditions []api.Cond
		for _, rule := range l {
			conditions = append(conditions, rule.Cond)
		}
		witness, isTotal, _ := decide.Total(conditions)
		if slices.Contains(classesOf(t, l), "other") == isTotal {
			t.Fatalf("W1: other occurs with %s, which are total: %v", show(l), isTotal)
		}
		if s, e := plural.Example(l, "other"); s != witness || (e == api.ErrNone) != isTotal {
			t.Fatalf("W1: Example(%s, other) is %q, %d, must be %q", show(l), s, e, witness)
		}
		if !isTotal {
			checkClass(t, "W1", l, witness, "other", api.OK)
			continue
		}
		total++
		for _, n := range slices.Concat(randomNumbers(r, 40), numbers[:200]) {
			if classOf(t, l, n) == "other" {
				t.Fatalf("W1: %s has the class other with the total rules %s", n, show(l))
			}
		}
	}
	if total < 50 {
		t.Errorf("only %d lists are total", total)
	}
}
