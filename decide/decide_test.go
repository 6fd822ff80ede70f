package decide_test

import (
	"fmt"
	"math"
	"math/big"
	"regexp"
	"slices"
	"strconv"
	"strings"
	"testing"

	"calque/api"
	"calque/automaton"
	"calque/condition"
	"calque/decide"
)

type dfa = automaton.DFA

// characters are the symbols in their order.
const characters = "0123456789."

// What a number and a decimal word are.
var (
	isNumber = regexp.MustCompile(`^(0|[1-9][0-9]{0,14})(\.[0-9]{1,6})?$`).MatchString
	isWord   = regexp.MustCompile(`^[0-9]+(\.[0-9]+)?$`).MatchString
)

// letters are the operands by their constants.
var letters = map[int]string{api.OperandN: "n", api.OperandI: "i", api.OperandV: "v", api.OperandW: "w", api.OperandF: "f", api.OperandT: "t"}

// mods are the numbers permitted as Mod, and greatest the greatest ends of spans.
var (
	mods = map[string][]int{
		"n": {0, 2, 3, 4, 5, 6, 10, 20, 25, 50, 100}, "i": {0, 2, 3, 4, 5, 6, 10, 20, 25, 50, 100},
		"v": {0}, "w": {0}, "f": {0, 10, 100}, "t": {0, 10, 100},
	}
	greatest = map[string]int{"n": 100, "i": 100, "v": 6, "w": 6, "f": 100, "t": 100}
)

// operands has the operands of a decimal word by their letters. An operand that is missing is negative.
type operands map[string]*big.Int

// operandsOf returns the operands of a decimal word.
func operandsOf(word string) operands {
	whole, fraction, _ := strings.Cut(word, ".")
	trimmed := strings.TrimRight(fraction, "0")
	integer := func(digits string) *big.Int {
		n, _ := new(big.Int).SetString("0"+digits, 10)
		return n
	}
	o := operands{
		"n": integer(whole), "i": integer(whole), "v": big.NewInt(int64(len(fraction))),
		"w": big.NewInt(int64(len(trimmed))), "f": integer(fraction), "t": integer(trimmed),
	}
	if trimmed != "" {
		o["n"] = big.NewInt(-1)
	}
	return o
}

// relationHolds reports whether a relation holds for operands.
func relationHolds(r api.Relation, o operands) bool {
	n := o[letters[r.Operand]]
	if n.Sign() < 0 {
		return r.Not
	}
	if r.Mod > 0 {
		n = new(big.Int).Mod(n, big.NewInt(int64(r.Mod)))
	}
	lies := slices.ContainsFunc(r.Spans, func(s api.Span) bool {
		return big.NewInt(int64(s.From)).Cmp(n) <= 0 && n.Cmp(big.NewInt(int64(s.To))) <= 0
	})
	return lies != r.Not
}

// truthsOf returns for each relation whether it holds for operands.
func truthsOf(l []api.Relation, o operands) []bool {
	var truths []bool
	for _, r := range l {
		truths = append(truths, relationHolds(r, o))
	}
	return truths
}

// evaluate reports whether a condition holds, from whether each of its relations does.
func evaluate(c api.Cond, truths []bool) bool {
	some := false
	for _, l := range c {
		some = some || !slices.Contains(truths[:len(l)], false)
		truths = truths[len(l):]
	}
	return some
}

// holdsFor reports whether a valid condition holds for a decimal word.
func holdsFor(c api.Cond, word string) bool {
	return evaluate(c, truthsOf(slices.Concat(c...), operandsOf(word)))
}

// isBefore reports whether a word is in front of another one.
func isBefore(a, b string) bool {
	if len(a) != len(b) {
		return len(a) < len(b)
	}
	for i := range a {
		if a[i] != b[i] {
			return strings.IndexByte(characters, a[i]) < strings.IndexByte(characters, b[i])
		}
	}
	return false
}

// words returns all words of at most so many symbols, in their order.
func words(most int) []string {
	all, begin := []string{""}, 0
	for range most {
		end := len(all)
		for _, w := range all[begin:end] {
			for _, c := range characters {
				all = append(all, w+string(c))
			}
		}
		begin = end
	}
	return all
}

// random returns a function for numbers below n without a pattern, the same ones in every run.
func random() func(n int) int {
	h := uint64(1)
	return func(n int) int {
		h = h*6364136223846793005 + 1442695040888963407
		return int(h >> 33 % uint64(n))
	}
}

// randomWord returns a word of at most so many symbols, most often a decimal word.
func randomWord(next func(int) int, most int) string {
	few := 1 + next(10)
	var b strings.Builder
	for range next(most) + 1 {
		b.WriteByte(characters[next(few)])
	}
	s := b.String()
	switch i := next(len(s) + 1); next(3) {
	case 0:
		s = s[:i] + "." + s[i:]
	case 1:
		s = s[:i] + strings.Repeat("0", next(5)) + "." + strings.Repeat("0", next(5)) + s[i:]
	}
	if next(4) == 0 {
		s += strings.Repeat("0", next(5))
	}
	return s
}

// randomNumber returns a number.
func randomNumber(next func(int) int) string {
	for {
		s := strconv.Itoa(next([]int{2, 10, 120, 700, 1 << 30}[next(5)]))
		if next(10) == 0 {
			s = "9" + strings.Repeat(s[:1], next(15))
		}
		if next(3) > 0 {
			s += "." + strings.Repeat("0", next(4)) + strconv.Itoa(next([]int{2, 10, 120, 700}[next(4)])) + strings.Repeat("0", next(4))
		}
		if isNumber(s) {
			return s
		}
	}
}

// randomRelation returns a valid relation. Its numbers are at most a given one, as far as possible.
func randomRelation(next func(int) int, most int) api.Relation {
	r := api.Relation{Operand: 1 + next(6), Not: next(2) == 0}
	letter := letters[r.Operand]
	r.Mod = mods[letter][next(len(mods[letter]))]
	for r.Mod > 0 && r.Mod > most && next(4) > 0 {
		r.Mod = mods[letter][next(len(mods[letter]))]
	}
	most = min(most, greatest[letter])
	for range 1 + next(4)*next(2) {
		from := next(most + 1)
		r.Spans = append(r.Spans, api.Span{From: from, To: from + next(2)*next(most-from+1)})
	}
	return r
}

// randomCondition returns a valid condition of so many relations.
func randomCondition(next func(int) int, relations, most int) api.Cond {
	c := api.Cond{{randomRelation(next, most)}}
	for range relations - 1 {
		r := randomRelation(next, most)
		if last := len(c) - 1; next(3) > 0 {
			c[last] = append(c[last], r)
		} else {
			c = append(c, []api.Relation{r})
		}
	}
	return c
}

// conditions returns valid conditions without a pattern.
func conditions(next func(int) int, count int) []api.Cond {
	var all []api.Cond
	for range count {
		all = append(all, randomCondition(next, 1+next(6), []int{1, 2, 5, 12, 30, 100}[next(6)]))
	}
	return all
}

// read returns conditions with texts.
func read(t *testing.T, texts ...string) []api.Cond {
	t.Helper()
	var all []api.Cond
	for _, s := range texts {
		c, _, e := condition.Parse(s)
		if e != api.OK {
			t.Fatalf("%q is no condition: %d", s, e)
		}
		all = append(all, c)
	}
	return all
}

// show returns the texts of conditions.
func show(l ...api.Cond) string {
	var all []string
	for _, c := range l {
		s, e := condition.Print(c)
		if e != api.OK {
			s = fmt.Sprint(c)
		}
		all = append(all, s)
	}
	return strings.Join(all, " | ")
}

// rules returns rules with conditions. Their classes are of no importance here.
func rules(l []api.Cond) []api.Rule {
	var all []api.Rule
	for i, c := range l {
		all = append(all, api.Rule{Class: []string{api.One, api.One, "", api.Other, "x"}[i%5], Cond: c})
	}
	return all
}

// same reports whether two automata are equal.
func same(a, b dfa) bool {
	return a.Start == b.Start && slices.EqualFunc(a.Next, b.Next, slices.Equal) && slices.Equal(a.Accept, b.Accept)
}

// accepts reports whether a valid automaton accepts a word.
func accepts(d dfa, word string) bool {
	s := d.Start
	for i := range len(word) {
		s = d.Next[s][strings.IndexByte(characters, word[i])]
	}
	return d.Accept[s]
}

func TestNumbers(t *testing.T) {
	d := decide.Numbers()
	if !automaton.Valid(d) {
		t.Fatal("P10.1: Numbers is not valid")
	}
	if m, e := automaton.Minimal(d); e != api.OK || !same(d, m) || len(d.Next) != 24 {
		t.Errorf("P10.1: Numbers has %d states, of which %d are needed", len(d.Next), len(m.Next))
	}
	all := words(4)
	next := random()
	for range 20000 {
		all = append(all, randomWord(next, 25))
	}
	for n := range 19 {
		for m := range 19 {
			whole, fraction := strings.Repeat("1", n), strings.Repeat("0", m)
			all = append(all, whole+"."+fraction, whole+fraction, fraction+whole, whole+"."+fraction+".", "0."+fraction+whole)
		}
	}
	for _, w := range all {
		if accepts(d, w) != isNumber(w) {
			t.Fatalf("P10.1: Numbers accepts %q: %v", w, !isNumber(w))
		}
	}
	d.Next[d.Start][0], d.Accept[d.Start] = d.Start, true
	if again := decide.Numbers(); accepts(again, "") || accepts(again, "00") {
		t.Error("P10.1: a result of Numbers shares memory with another one")
	}
}

// weightOf returns the weight of a valid condition.
func weightOf(c api.Cond) int {
	weight := big.NewInt(1)
	for _, r := range slices.Concat(c...) {
		size := r.Mod
		if r.Mod == 0 {
			for _, s := range r.Spans {
				size = max(size, s.To+2)
			}
		}
		if letters[r.Operand] == "t" {
			size *= size
		}
		weight.Mul(weight, big.NewInt(int64(size)))
	}
	if weight.Cmp(big.NewInt(1000000)) > 0 {
		return 1000000
	}
	return int(weight.Int64())
}

// checkWeight compares the weight of a valid condition with its definition.
func checkWeight(t *testing.T, c api.Cond) {
	t.Helper()
	if n, e := decide.Weight(c); n != weightOf(c) || e != api.OK {
		t.Fatalf("P10.1: Weight(%s) is %d, %d, must be %d", show(c), n, e, weightOf(c))
	}
}

func TestWeight(t *testing.T) {
	for s, want := range map[string]int{
		"i = 1 and v = 0": 6, "n = 0": 2, "n = 100": 102, "t = 0": 4, "t = 1": 9, "t % 10 = 1": 100, "t % 100 = 1": 10000, "t = 100": 10404,
		"n % 2 = 100": 2, "i % 100 != 0": 100, "v = 0..6": 8, "w = 6,0": 8, "f % 10 = 1": 10, "f = 7,9..20,3,0..1": 22,
		"i % 100 = 1 and i % 100 = 1 and i % 100 = 1":                    1000000,
		"i % 100 = 1 and i % 100 = 1 and i % 100 = 1 or n % 2 = 1":       1000000,
		"f = 25 and n = 35 or i = 75 and n = 11":                         999999,
		"f = 25 and n = 35 or i = 75 and n = 11 and v = 0":               1000000,
		"t = 100 and t = 100 and t = 100 and t = 100 or t = 100":         1000000,
		"t = 100 or t = 100 or t = 100 or t = 100 or t = 100 or t = 100": 1000000,
		"n % 2 = 1 or n % 2 = 1 or n % 2 = 1 or n % 2 = 1 or v = 0":      32,
	} {
		c := read(t, s)[0]
		checkWeight(t, c)
		if n, _ := decide.Weight(c); n != want {
			t.Errorf("P10.1: Weight(%s) is %d, must be %d", s, n, want)
		}
	}
	for operand, letter := range letters {
		for _, mod := range mods[letter] {
			for to := range greatest[letter] + 1 {
				s := api.Span{From: 0, To: to}
				for _, spans := range [][]api.Span{{s}, {s, {From: 0, To: 0}}, {{From: to / 2, To: to / 2}, s}, {{From: 0, To: 0}, {From: to, To: to}, s, {From: 0, To: to / 3}}} {
					checkWeight(t, api.Cond{{{Operand: operand, Mod: mod, Not: to%2 == 0, Spans: spans}}})
				}
			}
		}
	}
	for _, c := range conditions(random(), 3000) {
		checkWeight(t, c)
	}
}

// checkArg compares the answers of all functions for a condition, beside good ones, with those for bad arguments.
func checkArg(t *testing.T, c api.Cond) {
	t.Helper()
	before := fmt.Sprint(c)
	good := read(t, "n = 1", "n = 1", "i = 3")
	if n, e := decide.Weight(c); n != 0 || e != api.ErrArg {
		t.Fatalf("P10.1: Weight(%s) is %d, %d", before, n, e)
	}
	if d, e := decide.Automaton(c); !same(d, dfa{}) || e != api.ErrArg {
		t.Fatalf("P10.1: Automaton(%s) has %d states, %d", before, len(d.Next), e)
	}
	check := func(what string, w string, ok bool, e api.Errno) {
		if w != "" || ok || e != api.ErrArg {
			t.Fatalf("P10.1: %s of %s is %q, %v, %d", what, before, w, ok, e)
		}
	}
	w, ok, e := decide.Satisfiable(c)
	check("Satisfiable", w, ok, e)
	w, ok, e = decide.Equivalent(c, good[0])
	check("Equivalent", w, ok, e)
	w, ok, e = decide.Equivalent(good[0], c)
	check("Equivalent", w, ok, e)
	for i := range len(good) + 1 {
		l := slices.Insert(slices.Clone(good), i, c)
		w, ok, e = decide.Total(l)
		check("Total", w, ok, e)
		checkBadRules(t, rules(l))
	}
	checkBadRules(t, rules([]api.Cond{c}))
	if fmt.Sprint(c) != before {
		t.Fatalf("P10.1: %s is changed to %v", before, c)
	}
}

// checkBadRules compares the answer of Disjoint with that for bad arguments.
func checkBadRules(t *testing.T, l []api.Rule) {
	t.Helper()
	if i, j, w, e := decide.Disjoint(l); i != 0 || j != 0 || w != "" || e != api.ErrArg {
		t.Fatalf("P10.1: Disjoint of %d rules is %d, %d, %q, %d, must have ErrArg", len(l), i, j, w, e)
	}
}

func TestBadConditions(t *testing.T) {
	spans := []api.Span{{From: 1, To: 1}}
	good := api.Relation{Operand: api.OperandI, Spans: spans}
	for _, c := range []api.Cond{
		nil, {}, {nil}, {{good}, nil}, {nil, {good}}, {{good, good, good}, {good, good, good, good}}, slices.Repeat(api.Cond{{good}}, 7),
		{{good, {}}}, {{{Operand: 0, Spans: spans}}}, {{{Operand: 7, Spans: spans}}}, {{{Operand: -1, Spans: spans}}}, {{{Operand: api.OperandN}}},
		{{{Operand: api.OperandN, Mod: 7, Spans: spans}}}, {{{Operand: api.OperandI, Mod: -2, Spans: spans}}}, {{{Operand: api.OperandF, Mod: 2, Spans: spans}}},
		{{{Operand: api.OperandV, Mod: 10, Spans: spans}}}, {{{Operand: api.OperandT, Spans: slices.Repeat(spans, 5)}}},
		{{{Operand: api.OperandW, Spans: []api.Span{{From: 0, To: 7}}}}}, {{{Operand: api.OperandN, Spans: []api.Span{{From: 0, To: 101}}}}},
		{{{Operand: api.OperandN, Spans: []api.Span{{From: 2, To: 1}}}}}, {{{Operand: api.OperandN, Spans: []api.Span{{From: -1, To: 1}}}}},
		{{{Operand: math.MaxInt, Mod: math.MinInt, Spans: []api.Span{{From: math.MinInt, To: math.MaxInt}}}}},
		make(api.Cond, 100000), slices.Repeat(api.Cond{{good}}, 100000), {slices.Repeat([]api.Relation{good}, 100000)},
	} {
		checkArg(t, c)
	}
}

func TestTooManyConditions(t *testing.T) {
	c := read(t, "n = 1 and v = 0")[0]
	for _, n := range []int{0, 1, 2, 9, 10, 11, 12, 63, 64, 65, 100000} {
		l := slices.Repeat([]api.Cond{c}, n)
		w, ok, e := decide.Total(l)
		i, j, v, f := decide.Disjoint(rules(l))
		switch {
		case n > 10:
			if w != "" || ok || e != api.ErrArg {
				t.Errorf("P10.1: Total of %d conditions is %q, %v, %d", n, w, ok, e)
			}
			checkBadRules(t, rules(l))
		case w != "0" || ok || e != api.OK:
			t.Errorf("P10.1: Total of %d conditions is %q, %v, %d", n, w, ok, e)
		case n < 2 && (i != 0 || j != 0 || v != "" || f != api.OK):
			t.Errorf("P10.1: Disjoint of %d rules is %d, %d, %q, %d", n, i, j, v, f)
		case n >= 2 && (i != 0 || j != 1 || v != "1" || f != api.ErrOverlap):
			t.Errorf("P10.1: Disjoint of %d rules is %d, %d, %q, %d", n, i, j, v, f)
		}
	}
	// A condition that is not valid and too many conditions have the same error.
	checkBadRules(t, make([]api.Rule, 11))
}
