package plural_test

import (
	"fmt"
	"reflect"
	"regexp"
	"slices"
	"strings"
	"testing"

	"calque/api"
	"calque/condition"
	"calque/plural"
)

// order has the classes in their order.
var order = []string{"zero", "one", "two", "few", "many", "other"}

// The definition of numbers, as regular expressions.
var (
	digits    = regexp.MustCompile(`^-?(?:0|[1-9][0-9]{0,14})(?:\.[0-9]{1,6})?$`)
	minusZero = regexp.MustCompile(`^-[0.]*$`)
)

// isNumber reports whether a string is a number.
func isNumber(s string) bool {
	return digits.MatchString(s) && !minusZero.MatchString(s)
}

// compare compares numbers without a sign by their order.
func compare(a, b string) int {
	if len(a) != len(b) {
		return len(a) - len(b)
	}
	// A colon is behind the digits, as the point must be.
	return strings.Compare(strings.ReplaceAll(a, ".", ":"), strings.ReplaceAll(b, ".", ":"))
}

// someFractions returns fractions of all lengths, with zeros in front or behind.
func someFractions() []string {
	l := []string{""}
	for places := 1; places <= 6; places++ {
		for n := range 100 {
			if s := fmt.Sprintf("%0*d", places, n); len(s) == places && (n < 10 || places == 2) {
				l = append(l, s)
			}
		}
		for n := 1; n <= 9 && places > 2; n++ {
			l = append(l, fmt.Sprint(n)+strings.Repeat("0", places-1))
		}
	}
	return l
}

// someNumbers returns numbers of all kinds in their order.
func someNumbers() []string {
	var l []string
	for n := range 220 {
		for _, fraction := range someFractions() {
			l = append(l, strings.TrimSuffix(fmt.Sprint(n)+"."+fraction, "."))
		}
	}
	slices.SortFunc(l, compare)
	return l
}

// numbers has, for each combination of conditions of texts in these tests, the first number for which it holds.
var numbers = someNumbers()

// remember returns a function that calls another one only once for each argument.
func remember[K comparable, V any](f func(K) V) func(K) V {
	known := map[K]V{}
	return func(k K) V {
		if _, ok := known[k]; !ok {
			known[k] = f(k)
		}
		return known[k]
	}
}

// holding returns for which of the numbers the condition with a text holds.
var holding = remember(func(text string) []bool {
	c := read(text)
	var l []bool
	for _, n := range numbers {
		l = append(l, holds(c, n))
	}
	return l
})

// model is what the definitions say about valid rules.
type model struct {
	classes []string          // of the numbers
	firsts  map[string]string // by classes
	overlap bool
}

// modelOf looks at all numbers one by one.
func modelOf(l []api.Rule) model {
	m := model{firsts: map[string]string{}}
	var all [][]bool
	for _, r := range l {
		text, _ := condition.Print(r.Cond)
		all = append(all, holding(text))
	}
	for i, n := range numbers {
		class, count := "other", 0
		for j := len(l) - 1; j >= 0; j-- {
			if all[j][i] {
				class, count = l[j].Class, count+1
			}
		}
		m.classes = append(m.classes, class)
		m.overlap = m.overlap || count > 1
		if isNew := i == 0 || class != m.classes[i-1]; isNew && m.firsts[class] == "" {
			m.firsts[class] = n
		}
	}
	return m
}

// occurring returns what Classes returns by its definition.
func (m model) occurring() ([]string, api.Errno) {
	if m.overlap {
		return nil, api.ErrOverlap
	}
	var l []string
	for _, class := range order {
		if m.firsts[class] != "" {
			l = append(l, class)
		}
	}
	return l, api.OK
}

// example returns what Example returns by its definition.
func (m model) example(class string) (string, api.Errno) {
	switch {
	case !slices.Contains(order, class):
		return "", api.ErrUnknown
	case m.overlap:
		return "", api.ErrOverlap
	case m.firsts[class] == "":
		return "", api.ErrNone
	}
	return m.firsts[class], api.OK
}

// check compares what all functions but Class return for valid rules with the definitions.
func check(t *testing.T, l []api.Rule) model {
	t.Helper()
	before := show(l)
	if !plural.Valid(l) {
		t.Fatalf("P14.1: the rules %s are not valid", before)
	}
	m := modelOf(l)
	want, wantError := m.occurring()
	if got, e := plural.Classes(l); !slices.Equal(got, want) || e != wantError {
		t.Fatalf("P14.1, P14.4: Classes(%s) is %q, %d, want %q, %d", before, got, e, want, wantError)
	}
	for _, class := range append(slices.Clone(order), "Other", "x", "") {
		want, wantError := m.example(class)
		if got, e := plural.Example(l, class); got != want || e != wantError {
			t.Fatalf("P14.1, P14.4: Example(%s, %q) is %q, %d, want %q, %d", before, class, got, e, want, wantError)
		}
	}
	if after := show(l); after != before {
		t.Fatalf("P14.1: the rules %s are changed to %s", before, after)
	}
	return m
}

// checkClass compares what Class returns with what is expected.
func checkClass(t *testing.T, promise string, l []api.Rule, number, want string, wantError api.Errno) {
	t.Helper()
	if got, e := plural.Class(l, number); got != want || e != wantError {
		t.Fatalf("%s: Class(%s, %q) is %q, %d, want %q, %d", promise, show(l), number, got, e, want, wantError)
	}
}

// checkBad compares what all functions return for rules that are not valid with what they must return.
func checkBad(t *testing.T, l []api.Rule) {
	t.Helper()
	before := show(l)
	if plural.Valid(l) {
		t.Errorf("P14.1: the rules %s are valid", before)
	}
	for _, number := range []string{"1", "0.5", "01", ""} {
		checkClass(t, "P14.1", l, number, "", api.ErrArg)
	}
	if got, e := plural.Classes(l); len(got) > 0 || e != api.ErrArg {
		t.Errorf("P14.1: Classes(%s) is %q, %d", before, got, e)
	}
	for _, class := range append(slices.Clone(order), "x", "") {
		if got, e := plural.Example(l, class); got != "" || e != api.ErrArg {
			t.Errorf("P14.1: Example(%s, %q) is %q, %d", before, class, got, e)
		}
	}
	if after := show(l); after != before {
		t.Errorf("P14.1: the rules %s are changed to %s", before, after)
	}
}

// show returns the beginning of the text of rules.
func show(l []api.Rule) string {
	var b strings.Builder
	for _, r := range l[:min(len(l), 8)] {
		s, e := condition.Print(r.Cond)
		if e != api.OK {
			s = fmt.Sprintf("%.300s", fmt.Sprint(reflect.ValueOf(r.Cond)))
		}
		fmt.Fprintf(&b, "[%s: %s]", r.Class, s)
	}
	return b.String()
}

// read returns the condition with a text.
func read(s string) api.Cond {
	c, _, e := condition.Parse(s)
	if e != api.OK {
		panic(s)
	}
	return c
}

// rules returns rules from classes and texts of conditions, which alternate.
func rules(l ...string) []api.Rule {
	var all []api.Rule
	for pair := range slices.Chunk(l, 2) {
		all = append(all, api.Rule{Class: pair[0], Cond: read(pair[1])})
	}
	return all
}

// numbered returns rules with conditions, which have some classes in their order.
func numbered(classes []string, texts []string) []api.Rule {
	var all []api.Rule
	for i, s := range texts {
		all = append(all, api.Rule{Class: classes[i], Cond: read(s)})
	}
	return all
}

// orders returns all orders of a list.
func orders[T any](l []T) [][]T {
	if len(l) == 0 {
		return [][]T{nil}
	}
	var all [][]T
	for i := range l {
		rest := slices.Concat(l[:i], l[i+1:])
		for _, o := range orders(rest) {
			all = append(all, append([]T{l[i]}, o...))
		}
	}
	return all
}
