package condition_test

import (
	"fmt"
	"math"
	"regexp"
	"slices"
	"strconv"
	"strings"
	"testing"

	"calque/api"
	"calque/condition"
)

// letters are the operands by their constants.
var letters = map[int]string{api.OperandN: "n", api.OperandI: "i", api.OperandV: "v", api.OperandW: "w", api.OperandF: "f", api.OperandT: "t"}

// mods are the numbers permitted as Mod.
var mods = map[string][]int{
	"n": {0, 2, 3, 4, 5, 6, 10, 20, 25, 50, 100}, "i": {0, 2, 3, 4, 5, 6, 10, 20, 25, 50, 100},
	"v": {0}, "w": {0}, "f": {0, 10, 100}, "t": {0, 10, 100},
}

// greatest are the greatest ends of spans.
var greatest = map[string]int{"n": 100, "i": 100, "v": 6, "w": 6, "f": 100, "t": 100}

// isRelation reports whether a relation is valid.
func isRelation(r api.Relation) bool {
	letter := letters[r.Operand]
	ok := slices.Contains(mods[letter], r.Mod) && slices.Contains([]int{1, 2, 3, 4}, len(r.Spans))
	for _, s := range r.Spans {
		ok = ok && 0 <= s.From && s.From <= s.To && s.To <= greatest[letter]
	}
	return ok
}

// isCondition reports whether a condition is valid.
func isCondition(c api.Cond) bool {
	ok := len(c) >= 1 && len(slices.Concat(c...)) <= 6
	for _, l := range c {
		ok = ok && len(l) >= 1 && !slices.ContainsFunc(l, func(r api.Relation) bool { return !isRelation(r) })
	}
	return ok
}

// textOf returns the text of a valid condition.
func textOf(c api.Cond) string {
	var b strings.Builder
	for i, l := range c {
		for j, r := range l {
			switch {
			case j > 0:
				b.WriteString(" and ")
			case i > 0:
				b.WriteString(" or ")
			}
			b.WriteString(letters[r.Operand])
			if r.Mod > 0 {
				fmt.Fprint(&b, " % ", r.Mod)
			}
			b.WriteString(map[bool]string{false: " =", true: " !="}[r.Not])
			for k, s := range r.Spans {
				b.WriteString(map[bool]string{false: ",", true: " "}[k == 0])
				b.WriteString(strings.TrimSuffix(fmt.Sprintf("%d..%d", s.From, s.To), fmt.Sprintf("..%d", s.From)))
			}
		}
	}
	return b.String()
}

// operandOf returns an operand of a number, by its digits; ok is false if it has none.
func operandOf(number string, operand int) (n int, ok bool) {
	whole, fraction, _ := strings.Cut(strings.TrimPrefix(number, "-"), ".")
	trimmed := strings.TrimRight(fraction, "0")
	integer := func(digits string) int {
		n, _ := strconv.Atoi("0" + digits)
		return n
	}
	switch letters[operand] {
	case "n":
		return integer(whole), trimmed == ""
	case "i":
		return integer(whole), true
	case "v":
		return len(fraction), true
	case "w":
		return len(trimmed), true
	case "f":
		return integer(fraction), true
	}
	return integer(trimmed), true
}

// holdsFor reports whether a valid condition holds for a number.
func holdsFor(c api.Cond, number string) bool {
	some := false
	for _, l := range c {
		all := true
		for _, r := range l {
			n, ok := operandOf(number, r.Operand)
			if r.Mod > 0 {
				n -= n / r.Mod * r.Mod
			}
			in := false
			for _, s := range r.Spans {
				for m := s.From; m <= s.To; m++ {
					in = in || ok && m == n
				}
			}
			all = all && in == !r.Not
		}
		some = some || all
	}
	return some
}

// random returns a function for numbers below n without a pattern, the same ones in every run.
func random() func(n int) int {
	h := uint64(1)
	return func(n int) int {
		h = h*6364136223846793005 + 1442695040888963407
		return int(h >> 33 % uint64(n))
	}
}

// randomRelation returns a valid relation, in which small numbers are frequent.
func randomRelation(next func(int) int) api.Relation {
	r := api.Relation{Operand: 1 + next(6), Not: next(2) == 0}
	letter := letters[r.Operand]
	r.Mod = mods[letter][next(len(mods[letter]))]
	for range 1 + next(4) {
		most := greatest[letter]
		if next(2) == 0 {
			most = min(most, 5)
		}
		from := next(most + 1)
		r.Spans = append(r.Spans, api.Span{From: from, To: from + next(2)*next(most-from+1)})
	}
	return r
}

// randomCondition returns a valid condition of so many relations.
func randomCondition(next func(int) int, relations int) api.Cond {
	c := api.Cond{{randomRelation(next)}}
	for range relations - 1 {
		r := randomRelation(next)
		if last := len(c) - 1; next(2) == 0 {
			c[last] = append(c[last], r)
		} else {
			c = append(c, []api.Relation{r})
		}
	}
	return c
}

// conditions returns valid conditions without a pattern.
func conditions(count int) []api.Cond {
	next := random()
	var all []api.Cond
	for range count {
		all = append(all, randomCondition(next, 1+next(6)))
	}
	return all
}

// randomNumber returns a number of many different kinds.
func randomNumber(next func(int) int) string {
	s := strconv.Itoa(next([]int{2, 10, 30, 130, 1000, 1000000}[next(6)]))
	if next(20) == 0 {
		s = "9" + strings.Repeat(s[:1], 14)
	}
	if digits := next(8); digits > 1 {
		s += "."
		for range digits - 1 {
			s += []string{"0", "0", "1", "5", strconv.Itoa(next(10))}[next(5)]
		}
	}
	if strings.Trim(s, "0.") != "" && next(3) == 0 {
		s = "-" + s
	}
	return s
}

// numbers are numbers for which conditions differ: all short ones, and others at the limits.
func numbers() []string {
	var all []string
	for n := range 305 {
		all = append(all, strconv.Itoa(n))
	}
	for _, fraction := range strings.Fields(".0 .00 .000000 .1 .2 .5 .10 .50 .9 .01 .05 .10 .11 .12 .100 .110 .001 .000001 .999999 .100000 .123456 .500000 .25 .99 .101") {
		for _, whole := range []string{"0", "1", "2", "3", "11", "12", "22", "100", "101", "999999999999999"} {
			all = append(all, whole+fraction)
		}
	}
	all = append(all, "-1", "-1.0", "-2.5", "-0.1", "-0.000001", "-11", "-22", "-100", "-3.0", "-999999999999999.999999")
	all = append(all, "1000", "1001", "1002", "1011", "1111", "1000000", "1000000.0", "999999999999999", "100000000000000", "100000000000001", "123456789012345", "123456789012350")
	next := random()
	for range 300 {
		all = append(all, randomNumber(next))
	}
	return all
}

// read returns the condition with a text that must have one.
func read(t *testing.T, s string) api.Cond {
	t.Helper()
	c, at, e := condition.Parse(s)
	if e != api.OK || at != 0 {
		t.Fatalf("P8.1: Parse(%q) has the error %d at %d", s, e, at)
	}
	return c
}

// holds reports whether a valid condition holds for a number.
func holds(t *testing.T, promise string, c api.Cond, number string) bool {
	t.Helper()
	ok, e := condition.Holds(c, number)
	if e != api.OK {
		t.Fatalf("%s: Holds(%v, %q) has the error %d", promise, c, number, e)
	}
	return ok
}

// same reports whether two conditions are equal; a nil slice and an empty one are printed alike.
func same(a, b api.Cond) bool {
	return fmt.Sprint(a) == fmt.Sprint(b)
}

// checkValidity compares the answers of all functions that depend on the validity of a condition with the definition.
func checkValidity(t *testing.T, c api.Cond) {
	t.Helper()
	valid, before := isCondition(c), fmt.Sprint(c)
	if got := condition.Valid(c); got != valid {
		t.Fatalf("P8.1: Valid(%v) is %v", c, got)
	}
	wantText, wantHolds, wantError := "", false, api.ErrArg
	if valid {
		wantText, wantHolds, wantError = textOf(c), holdsFor(c, "1"), api.OK
	}
	if s, e := condition.Print(c); s != wantText || e != wantError {
		t.Fatalf("P8.1: Print(%v) is %q, %d, must be %q, %d", c, s, e, wantText, wantError)
	}
	if ok, e := condition.Holds(c, "1"); ok != wantHolds || e != wantError {
		t.Fatalf("P8.1: Holds(%v, 1) is %v, %d, must be %v, %d", c, ok, e, wantHolds, wantError)
	}
	if !condition.Equal(c, c) || fmt.Sprint(c) != before {
		t.Fatalf("P8.1: %s is not equal to itself, or changed to %v", before, c)
	}
}

// spans returns so many spans.
func spans(n int) []api.Span {
	return slices.Repeat([]api.Span{{From: 1, To: 2}}, n)
}

// far are integers that are never permitted.
var far = []int{math.MinInt, math.MinInt + 1, -1 << 32, -256, 256, 1 << 32, 1<<32 + 10, math.MaxInt - 1, math.MaxInt}

func TestValidRelations(t *testing.T) {
	operandsToTry := append([]int{-2, -1, 0, 1, 2, 3, 4, 5, 6, 7, 8, 257}, far...)
	modsToTry := slices.Clone(far)
	for n := -120; n <= 220; n++ {
		modsToTry = append(modsToTry, n)
	}
	for _, operand := range operandsToTry {
		for _, mod := range modsToTry {
			for _, not := range []bool{false, true} {
				checkValidity(t, api.Cond{{{Operand: operand, Mod: mod, Not: not, Spans: spans(1)}}})
			}
		}
		for n := range 7 {
			checkValidity(t, api.Cond{{{Operand: operand, Spans: spans(n)}}})
		}
	}
	checkValidity(t, api.Cond{{{Operand: api.OperandN, Spans: spans(100000)}}})
}

func TestValidSpans(t *testing.T) {
	ends := append([]int{-100, -6, -2, -1, 0, 1, 2, 3, 4, 5, 6, 7, 8, 9, 50, 98, 99, 100, 101, 102, 999, 1000}, far...)
	for operand := range 8 {
		for _, from := range ends {
			for _, to := range ends {
				s := api.Span{From: from, To: to}
				for _, l := range [][]api.Span{{s}, {s, {From: 0, To: 1}}, {{From: 1, To: 1}, s}, {{From: 1, To: 1}, {From: 0, To: 5}, {From: 2, To: 3}, s}} {
					checkValidity(t, api.Cond{{{Operand: operand, Spans: l}}})
				}
				for _, mod := range []int{2, 10} {
					checkValidity(t, api.Cond{{{Operand: operand, Mod: mod, Spans: []api.Span{s}}}})
				}
			}
		}
	}
}

// listsOf returns all lists of lists with at most so many elements, and at most so many altogether.
func listsOf(x api.Relation, lists, relations int) []api.Cond {
	all := []api.Cond{nil}
	for begin, n := 0, 0; n < lists; n++ {
		end := len(all)
		for _, c := range all[begin:end] {
			for m := range relations - len(slices.Concat(c...)) + 1 {
				all = append(all, append(slices.Clone(c), slices.Repeat([]api.Relation{x}, m)))
			}
		}
		begin = end
	}
	return all
}

func TestValidLists(t *testing.T) {
	good := api.Relation{Operand: api.OperandI, Spans: spans(1)}
	bad := []api.Relation{{}, {Operand: api.OperandV, Mod: 10, Spans: spans(1)}, {Operand: api.OperandV, Spans: []api.Span{{From: 0, To: 7}}}, {Operand: api.OperandT, Spans: spans(5)}, {Operand: 7, Spans: spans(1)}}
	for _, c := range listsOf(good, 5, 8) {
		checkValidity(t, c)
		if !isCondition(c) {
			continue
		}
		// A single relation that is wrong is found at each place.
		for i, l := range c {
			for j := range l {
				for _, x := range bad {
					d := cloned(c)
					d[i][j] = x
					checkValidity(t, d)
				}
			}
		}
	}
	for _, c := range []api.Cond{nil, {}, {nil}, {{}}, {nil, nil}, {{good}, nil}, {nil, {good}}, {{good}, {}, {good}}, slices.Repeat(api.Cond{{good}}, 100000), {slices.Repeat([]api.Relation{good}, 100000)}, make(api.Cond, 100000)} {
		checkValidity(t, c)
	}
	for n := range 9 {
		checkValidity(t, slices.Repeat(api.Cond{{good}}, n))
	}
	for _, c := range conditions(5000) {
		checkValidity(t, c)
	}
}

// cloned returns a copy of a condition that shares no memory with it.
func cloned(c api.Cond) api.Cond {
	d := slices.Clone(c)
	for i, l := range d {
		d[i] = slices.Clone(l)
		for j, r := range l {
			d[i][j].Spans = slices.Clone(r.Spans)
		}
	}
	return d
}

func TestKnownTexts(t *testing.T) {
	for _, c := range []struct {
		s    string
		cond api.Cond
	}{
		{"n = 1", api.Cond{{{Operand: api.OperandN, Spans: []api.Span{{From: 1, To: 1}}}}}},
		{"i = 1 and v = 0", api.Cond{{{Operand: api.OperandI, Spans: []api.Span{{From: 1, To: 1}}}, {Operand: api.OperandV, Spans: []api.Span{{From: 0, To: 0}}}}}},
		{"n % 10 = 2..4 and n % 100 != 12..14", api.Cond{{{Operand: api.OperandN, Mod: 10, Spans: []api.Span{{From: 2, To: 4}}}, {Operand: api.OperandN, Mod: 100, Not: true, Spans: []api.Span{{From: 12, To: 14}}}}}},
		{"t != 0 or f % 100 = 0,2..3,100", api.Cond{{{Operand: api.OperandT, Not: true, Spans: []api.Span{{From: 0, To: 0}}}}, {{Operand: api.OperandF, Mod: 100, Spans: []api.Span{{From: 0, To: 0}, {From: 2, To: 3}, {From: 100, To: 100}}}}}},
		{"w = 0..6 or v != 6 and i % 25 = 50..100", api.Cond{{{Operand: api.OperandW, Spans: []api.Span{{From: 0, To: 6}}}}, {{Operand: api.OperandV, Not: true, Spans: []api.Span{{From: 6, To: 6}}}, {Operand: api.OperandI, Mod: 25, Spans: []api.Span{{From: 50, To: 100}}}}}},
	} {
		if s, e := condition.Print(c.cond); s != c.s || e != api.OK {
			t.Errorf("P8.1: Print(%v) is %q, %d, must be %q", c.cond, s, e, c.s)
		}
		if got := read(t, c.s); !same(got, c.cond) {
			t.Errorf("P8.1: Parse(%q) is %v, must be %v", c.s, got, c.cond)
		}
	}
}

func TestKnownFreeTexts(t *testing.T) {
	for s, want := range map[string]string{
		" i=1 and\tv = 0 or n%10 = 2..4,7\n": "i = 1 and v = 0 or n % 10 = 2..4,7",
		"n=1":                                "n = 1",
		"n=1or n=2and i!=3":                  "n = 1 or n = 2 and i != 3",
		"n=0\nor\nn=1\n":                     "n = 0 or n = 1",
		"\t\n n \n%\t10 \n!= \t2 .. 4 , 5 , 6 ..\n7\t ": "n % 10 != 2..4,5,6..7",
		"n = 3..3,4..4":    "n = 3,4",
		"n = 5,1,5,0..100": "n = 5,1,5,0..100",
		"f%10=0..9":        "f % 10 = 0..9",
		"v=6and w=0":       "v = 6 and w = 0",
		// 0 is among the numbers that are permitted as Mod, for all operands.
		"n % 0 = 1":  "n = 1",
		"v % 0 != 2": "v != 2",
	} {
		if got, e := condition.Print(read(t, s)); got != want || e != api.OK {
			t.Errorf("P8.1: the text of Parse(%q) is %q, %d, must be %q", s, got, e, want)
		}
	}
}

func TestKnownErrors(t *testing.T) {
	six := "n=1 or n=2 and n=3 or n=4 or n=5 and n=6"
	for _, c := range []struct {
		s  string
		at int
		e  api.Errno
	}{
		{"", 0, api.ErrSyntax},
		{" \t\n", 3, api.ErrSyntax},
		{"n", 1, api.ErrSyntax},
		{"n ", 2, api.ErrSyntax},
		{"n %", 3, api.ErrSyntax},
		{"n % 10", 6, api.ErrSyntax},
		{"n =", 3, api.ErrSyntax},
		{"n = ", 4, api.ErrSyntax},
		{"n = 1,", 6, api.ErrSyntax},
		{"n = 1..", 7, api.ErrSyntax},
		{"n = 1 and", 9, api.ErrSyntax},
		{"n = 1 or ", 9, api.ErrSyntax},
		{"i = 1 and x = 2", 10, api.ErrSyntax},
		{"i = 1 and iv = 2", 10, api.ErrSyntax},
		{"nivwft = 2", 0, api.ErrSyntax},
		{"nn = 2", 0, api.ErrSyntax},
		{"and = 2", 0, api.ErrSyntax},
		{"N = 1", 0, api.ErrSyntax},
		{"nN = 1", 1, api.ErrSyntax},
		{"n = 1 andi = 1", 6, api.ErrSyntax},
		{"n = 1 an i = 1", 6, api.ErrSyntax},
		{"n = 1 AND i = 1", 6, api.ErrSyntax},
		{"n = 1 or or i = 1", 9, api.ErrSyntax},
		{"n = 1 and or i = 1", 10, api.ErrSyntax},
		{"n = 1 n = 2", 6, api.ErrSyntax},
		{"n = 1 2", 6, api.ErrSyntax},
		{"n = 1;", 5, api.ErrSyntax},
		{"n = 1\r\n", 5, api.ErrSyntax},
		{"n\v= 1", 1, api.ErrSyntax},
		{"n\u00a0= 1", 1, api.ErrSyntax},
		{"\xff", 0, api.ErrSyntax},
		{"n = 1\x00", 5, api.ErrSyntax},
		{"n = \u0661", 4, api.ErrSyntax},
		{"1 = n", 0, api.ErrSyntax},
		{"n1 = 1", 1, api.ErrSyntax},
		{"n 1", 2, api.ErrSyntax},
		{"n == 1", 3, api.ErrSyntax},
		{"n ! = 1", 2, api.ErrSyntax},
		{"n !", 2, api.ErrSyntax},
		{"n !== 1", 4, api.ErrSyntax},
		{"n =! 1", 3, api.ErrSyntax},
		{"n % = 1", 4, api.ErrSyntax},
		{"n % 10 % 10 = 1", 7, api.ErrSyntax},
		{"n % 10 10 = 1", 7, api.ErrSyntax},
		{"n = -1", 4, api.ErrSyntax},
		{"n = +1", 4, api.ErrSyntax},
		{"n = 1.5", 5, api.ErrSyntax},
		{"n = 1. .2", 5, api.ErrSyntax},
		{"n = 1...2", 7, api.ErrSyntax},
		{"n = 1..2..3", 8, api.ErrSyntax},
		{"n = ..2", 4, api.ErrSyntax},
		{"n = ,2", 4, api.ErrSyntax},
		{"n = 1,,2", 6, api.ErrSyntax},
		{"n = 1, and i = 2", 7, api.ErrSyntax},
		{"n = 01", 4, api.ErrSyntax},
		{"n = 00", 4, api.ErrSyntax},
		{"n = 1000", 4, api.ErrSyntax},
		{"n = 0001", 4, api.ErrSyntax},
		{"n = 1..01", 7, api.ErrSyntax},
		{"n = 1..1000", 7, api.ErrSyntax},
		{"n = 3..02", 7, api.ErrSyntax},
		{"n % 010 = 1", 4, api.ErrSyntax},
		{"n % 1000 = 1", 4, api.ErrSyntax},
		{"v % 01 = 1", 4, api.ErrSyntax},
		{"n = 99999999999999999999999", 4, api.ErrSyntax},
		{"n % 7 = 1", 4, api.ErrRange},
		{"n % 1 = 1", 4, api.ErrRange},
		{"n % 30 = 1", 4, api.ErrRange},
		{"i % 99 = 1", 4, api.ErrRange},
		{"i % 101 = 1", 4, api.ErrRange},
		{"i % 999", 4, api.ErrRange},
		{"v % 10 = 1", 4, api.ErrRange},
		{"w % 100 = 1", 4, api.ErrRange},
		{"f % 2 = 1", 4, api.ErrRange},
		{"t % 50 = 1", 4, api.ErrRange},
		{"t % 7 x", 4, api.ErrRange},
		{"v = 7", 4, api.ErrRange},
		{"w != 0..7", 8, api.ErrRange},
		{"v = 100", 4, api.ErrRange},
		{"n = 101", 4, api.ErrRange},
		{"f = 0..101", 7, api.ErrRange},
		{"n % 10 = 999", 9, api.ErrRange},
		{"n = 3..2", 7, api.ErrRange},
		{"n = 1,100..99", 11, api.ErrRange},
		{"n = 5..0 x", 7, api.ErrRange},
		{"n = 1,2,3,4,5", 12, api.ErrLimit},
		{"n = 1..2,3..4,5..6,7..8,9..10", 24, api.ErrLimit},
		{"n = 1,2,3,4,5..4", 12, api.ErrLimit},
		{"n = 1,2,3,4,5 x", 12, api.ErrLimit},
		{"n = 1,2,3,4,101", 12, api.ErrRange},
		{"v = 1,2,3,4,7", 12, api.ErrRange},
		{"n = 1,2,3,4,01", 12, api.ErrSyntax},
		{"n = 1,2,3,4,", 12, api.ErrSyntax},
		{"n = 1,2,3,4,x", 12, api.ErrSyntax},
		{"n = 1,2,3,4 or n = 1,2,3,4,5", 27, api.ErrLimit},
		{six + " or n = 7", 44, api.ErrLimit},
		{six + " and v", 45, api.ErrLimit},
		{six + " or n % 7 = 101", 44, api.ErrLimit},
		{six + " or x = 7", 44, api.ErrSyntax},
		{six + " or", 43, api.ErrSyntax},
		{six + " or 7", 44, api.ErrSyntax},
		{six + ",1,2,3 and i = 7", 51, api.ErrLimit},
		{six + ",1,2,3,4", 47, api.ErrLimit},
	} {
		if got, at, e := condition.Parse(c.s); got != nil || at != c.at || e != c.e {
			t.Errorf("P8.1: Parse(%q) is %v, %d, %d, must have the error %d at %d", c.s, got, at, e, c.e, c.at)
		}
	}
	if c := read(t, six); !condition.Valid(c) {
		t.Errorf("P8.1: Parse(%q) is %v", six, c)
	}
}

func TestParseLongTexts(t *testing.T) {
	const size = 1000000
	blanks := strings.Repeat(" \t\n", size)
	for _, c := range []struct {
		s  string
		at int
		e  api.Errno
	}{
		{blanks, len(blanks), api.ErrSyntax},
		{blanks + "n" + blanks + "=" + blanks + "1" + blanks, 0, api.OK},
		{"n=1" + blanks + "x", len(blanks) + 3, api.ErrSyntax},
		{"n = " + strings.Repeat("1", size), 4, api.ErrSyntax},
		{"n = " + strings.Repeat("0", size), 4, api.ErrSyntax},
		{strings.Repeat("n", size), 0, api.ErrSyntax},
		{"n = 1" + strings.Repeat(",1", size), 12, api.ErrLimit},
		{strings.Repeat("n=1or ", size), 36, api.ErrLimit},
		{"n" + strings.Repeat("=", size), 2, api.ErrSyntax},
		{"n=1" + strings.Repeat(".", size), 5, api.ErrSyntax},
	} {
		if _, at, e := condition.Parse(c.s); at != c.at || e != c.e {
			t.Errorf("P8.1: Parse(%.30q) has the error %d at %d, must be %d at %d", c.s, e, at, c.e, c.at)
		}
	}
}

var (
	tokenPattern  = regexp.MustCompile(`(?s)[a-z]+|[0-9]+|!=|\.\.|[ \t\n]+|.`)
	numberPattern = regexp.MustCompile(`\A(0|[1-9][0-9]{0,2})\z`)
	// In the grammar, o is an operand, d a number, r one of the relation signs, s the sign of a span, and j a word that joins.
	grammar    = regexp.MustCompile(`\A(o(%d)?rd(sd)?(,d(sd)?)*j)*o(%d)?rd(sd)?(,d(sd)?)*\z`)
	endPattern = regexp.MustCompile(`[r,s]d\z`)
)

// kindOf returns the kind of a token in the grammar.
func kindOf(token string) string {
	switch {
	case slices.Contains([]string{"n", "i", "v", "w", "f", "t"}, token):
		return "o"
	case numberPattern.MatchString(token):
		return "d"
	case token == "=" || token == "!=":
		return "r"
	case token == "..":
		return "s"
	case token == "and" || token == "or":
		return "j"
	case token == "%" || token == ",":
		return token
	}
	return "x"
}

// canGoOn reports whether some tokens lead from those of these kinds to a condition.
func canGoOn(kinds string) bool {
	return slices.ContainsFunc([]string{"", "ord", "rd", "d", "drd"}, func(rest string) bool { return grammar.MatchString(kinds + rest) })
}

// reading is a text in the course of the model of Parse.
type reading struct {
	kinds  string
	tokens []string
}

// number returns the number that the token at an index is; a negative index counts from the end.
func (x reading) number(i int) int {
	n, _ := strconv.Atoi(x.tokens[(i+len(x.tokens))%len(x.tokens)])
	return n
}

// lastError returns the error of the last token.
func (x reading) lastError() api.Errno {
	if !canGoOn(x.kinds) {
		return api.ErrSyntax
	}
	begin := strings.LastIndex(x.kinds, "o")
	operand := x.tokens[begin]
	if strings.HasSuffix(x.kinds, "%d") && !slices.Contains(mods[operand], x.number(-1)) {
		return api.ErrRange
	}
	if endPattern.MatchString(x.kinds) && x.number(-1) > greatest[operand] {
		return api.ErrRange
	}
	if strings.HasSuffix(x.kinds, "dsd") && x.number(-1) < x.number(-3) {
		return api.ErrRange
	}
	if strings.Count(x.kinds, "o") > 6 || strings.HasSuffix(x.kinds, ",d") && strings.Count(x.kinds[begin:], ",") > 3 {
		return api.ErrLimit
	}
	return api.OK
}

// result returns the condition that all tokens are.
func (x reading) result() api.Cond {
	c := api.Cond{nil}
	for i, token := range x.tokens {
		last := len(c) - 1
		r := &api.Relation{}
		if n := len(c[last]); n > 0 {
			r = &c[last][n-1]
		}
		switch {
		case x.kinds[i] == 'o':
			for operand, letter := range letters {
				if letter == token {
					c[last] = append(c[last], api.Relation{Operand: operand})
				}
			}
		case token == "or":
			c = append(c, nil)
		case token == "!=":
			r.Not = true
		case x.kinds[i] == 'd' && x.kinds[i-1] == '%':
			r.Mod = x.number(i)
		case x.kinds[i] == 'd' && x.kinds[i-1] == 's':
			r.Spans[len(r.Spans)-1].To = x.number(i)
		case x.kinds[i] == 'd':
			r.Spans = append(r.Spans, api.Span{From: x.number(i), To: x.number(i)})
		}
	}
	return c
}

// parsed returns what Parse must return, by the tokens one behind the other.
func parsed(s string) (api.Cond, int, api.Errno) {
	var x reading
	for _, place := range tokenPattern.FindAllStringIndex(s, -1) {
		token := s[place[0]:place[1]]
		if strings.Trim(token, " \t\n") == "" {
			continue
		}
		x.tokens, x.kinds = append(x.tokens, token), x.kinds+kindOf(token)
		if e := x.lastError(); e != api.OK {
			return nil, place[0], e
		}
	}
	if !grammar.MatchString(x.kinds) {
		return nil, len(s), api.ErrSyntax
	}
	return x.result(), 0, api.OK
}

// checkParse compares Parse with its model, and returns its error and the offset.
func checkParse(t *testing.T, s string) (int, api.Errno) {
	t.Helper()
	want, wantAt, wantError := parsed(s)
	got, at, e := condition.Parse(s)
	if at != wantAt || e != wantError || !same(got, want) || (got == nil) != (e != api.OK) {
		t.Fatalf("P8.1: Parse(%q) is %v, %d, %d, must be %v, %d, %d", s, got, at, e, want, wantAt, wantError)
	}
	if e != api.OK {
		return at, e
	}
	if !condition.Valid(got) {
		t.Fatalf("P8.1: Parse(%q) is %v, which is not valid", s, got)
	}
	// P8.2 promises this of every text.
	text, f := condition.Print(got)
	if again, _, g := condition.Parse(text); f != api.OK || g != api.OK || !same(again, got) {
		t.Fatalf("P8.2: %q has the text %q, which is parsed to %v, not to %v", s, text, again, got)
	}
	return 0, api.OK
}

// sampleTexts are texts with all tokens, and near to the limits.
var sampleTexts = []string{
	"n = 1",
	"i = 1 and v = 0",
	"n % 10 = 2..4 and n % 100 != 12..14",
	"f%10!=4,6,9 or\tt=0\nand w=1..6",
	"v = 0 and i % 10 = 1 or f % 100 = 11,12 or t != 100",
	"n=1or n=2and n=3or n=4or n=5and i!=6",
	"n = 1..2,3..4,5..6,7..8",
	"i % 20 = 0,10..100 ",
}

func TestParseSequences(t *testing.T) {
	tokens := strings.Fields("n v f x nn or and = != % , .. 0 1 4 7 10 25 100 101 010 1000 ! . - $")
	texts := []string{""}
	for range 6 {
		var longer []string
		for _, s := range texts {
			for i, token := range tokens {
				next := s + " " + token
				at, e := checkParse(t, next)
				// Some of the tokens are enough to go on with.
				if (e == api.OK || at == len(next)) && (s == "" || !slices.Contains([]string{"f", "4", "25", "100"}, token)) {
					longer = append(longer, next)
				}
				checkParse(t, s+token)
				checkParse(t, next+tokens[i*7%len(tokens)])
			}
		}
		texts = longer
	}
	if len(texts) < 100 {
		t.Fatalf("P8.1: only %d texts can go on", len(texts))
	}
}

func TestParseShortTexts(t *testing.T) {
	const characters = " \nno1072%=!.,dr"
	texts := []string{""}
	for n := range 5 {
		var longer []string
		for _, s := range texts {
			checkParse(t, s)
			checkParse(t, "n="+s)
			checkParse(t, "v%"+s)
			if n < 4 {
				for i := range len(characters) {
					longer = append(longer, s+characters[i:i+1])
				}
			}
		}
		texts = longer
	}
}

func TestParseChangedTexts(t *testing.T) {
	for _, s := range sampleTexts {
		read(t, s)
		for i := range len(s) + 1 {
			checkParse(t, s[:i])
			checkParse(t, s[i:])
			checkParse(t, s[:i]+s[min(len(s), i+1):])
			for c := range 256 {
				b := string([]byte{byte(c)})
				checkParse(t, s[:i]+b+s[i:])
				checkParse(t, s[:i]+b+s[min(len(s), i+1):])
			}
		}
		for _, more := range sampleTexts {
			for _, join := range []string{" ", "and ", "or ", ",", "", "\r"} {
				checkParse(t, s+join+more)
			}
		}
	}
}

func TestParseRandomTexts(t *testing.T) {
	next := random()
	tokens := strings.Fields("n i v w f t n i = = != % , .. and or 0 1 2 5 6 7 10 10 20 99 100 101 07 x ! a")
	for range 20000 {
		// A condition with a token replaced, removed or inserted, and one by one without the blanks.
		l := strings.Fields(strings.NewReplacer(",", " , ", "..", " .. ").Replace(textOf(randomCondition(next, 1+next(7)))))
		i, token := next(len(l)), tokens[next(len(tokens))]
		switch next(4) {
		case 0:
			l[i] = token
		case 1:
			l = slices.Delete(l, i, i+1)
		case 2:
			l = slices.Insert(l, i, token)
		}
		var b strings.Builder
		for _, token := range l {
			b.WriteString(token + []string{"", " ", "\t", "\n ", " "}[next(5)])
		}
		checkParse(t, b.String())
	}
}

func TestResultsAreNewMemory(t *testing.T) {
	const text = "n = 1,2 and i = 3 or v = 4 and f = 5,6,7"
	c := read(t, text)
	for i := range c {
		_ = append(c[i], api.Relation{Operand: 99})
		for j := range c[i] {
			_ = append(c[i][j].Spans, api.Span{From: 99, To: 99})
		}
	}
	if s, e := condition.Print(c); s != text || e != api.OK {
		t.Errorf("P8.1: the slices of Parse(%q) share memory: %q, %d", text, s, e)
	}
	c[0][0].Spans[0].From, c[0][1].Operand = 0, 0
	if s, e := condition.Print(read(t, text)); s != text || e != api.OK {
		t.Errorf("P8.1: two results of Parse(%q) share memory: %q, %d", text, s, e)
	}
}

func TestTextsOfAllSpans(t *testing.T) {
	for operand, letter := range letters {
		for _, mod := range mods[letter] {
			for from := range greatest[letter] + 1 {
				for to := from; to <= greatest[letter]; to++ {
					c := api.Cond{{{Operand: operand, Mod: mod, Not: (from+to)%2 == 0, Spans: []api.Span{{From: from, To: to}}}}}
					s, e := condition.Print(c)
					if s != textOf(c) || e != api.OK {
						t.Fatalf("P8.1: Print(%v) is %q, %d, must be %q", c, s, e, textOf(c))
					}
					if d, at, e := condition.Parse(s); !same(c, d) || at != 0 || e != api.OK {
						t.Fatalf("P8.2: the text of %v is %q, which is parsed to %v, %d, %d", c, s, d, at, e)
					}
				}
			}
		}
	}
}

func TestTextsAndBack(t *testing.T) {
	next := random()
	for _, c := range conditions(20000) {
		s, e := condition.Print(c)
		if s != textOf(c) || e != api.OK {
			t.Fatalf("P8.1: Print(%v) is %q, %d, must be %q", c, s, e, textOf(c))
		}
		if d, at, e := condition.Parse(s); !same(c, d) || at != 0 || e != api.OK {
			t.Fatalf("P8.2: the text of %v is %q, which is parsed to %v, %d, %d", c, s, d, at, e)
		}
		// Other blanks between the tokens change nothing, nor do none between those that are no words.
		blank := func() string { return []string{"", " ", "\t", "\n", " \n\t "}[next(5)] }
		free := blank()
		for _, token := range tokenPattern.FindAllString(s, -1) {
			if strings.Trim(token, " ") == "" {
				continue
			}
			if token == "and" || token == "or" {
				token = blank() + token + []string{" ", "\t", "\n", "\t \n"}[next(4)]
			}
			free += token + blank()
		}
		if d, at, e := condition.Parse(free); !same(c, d) || at != 0 || e != api.OK {
			t.Fatalf("P8.2: %q is parsed to %v, %d, %d, must be %v", free, d, at, e, c)
		}
	}
}

func TestHoldsOfSingleRelations(t *testing.T) {
	all := numbers()
	for operand, letter := range letters {
		for _, mod := range mods[letter] {
			for _, l := range [][]api.Span{{{From: 0, To: 0}}, {{From: 1, To: 1}}, {{From: 2, To: 4}}, {{From: 5, To: 6}, {From: 0, To: 1}}, {{From: 0, To: greatest[letter]}}, {{From: 1, To: greatest[letter] - 1}}, {{From: 6, To: 6}, {From: 1, To: 2}, {From: 4, To: 4}, {From: 0, To: 0}}} {
				for _, not := range []bool{false, true} {
					c := api.Cond{{{Operand: operand, Mod: mod, Not: not, Spans: l}}}
					for _, s := range all {
						if got := holds(t, "P8.1", c, s); got != holdsFor(c, s) {
							t.Fatalf("P8.1: Holds(%s, %q) is %v", textOf(c), s, got)
						}
					}
				}
			}
		}
	}
}

func TestHolds(t *testing.T) {
	next := random()
	count := 0
	for _, c := range conditions(20000) {
		before := fmt.Sprint(c)
		for range 10 {
			s := randomNumber(next)
			got := holds(t, "P8.1", c, s)
			if got != holdsFor(c, s) {
				t.Fatalf("P8.1: Holds(%s, %q) is %v", textOf(c), s, got)
			}
			if got {
				count++
			}
		}
		if fmt.Sprint(c) != before {
			t.Fatalf("P8.1: Holds changes %s to %v", before, c)
		}
	}
	if count < 50000 || count > 150000 {
		t.Errorf("P8.1: %d of 200000 conditions hold, so that the test says little", count)
	}
}

func TestKnownHolds(t *testing.T) {
	for _, c := range []struct{ s, yes, no string }{
		{"i = 1 and v = 0", "1 -1", "1.0 0 2 11 1.5"},
		{"n = 1", "1 1.0 -1 1.000000", "1.5 0 11 1.000001"},
		{"n != 1", "1.5 0 2 -1.1 0.1 11", "1 1.0 -1"},
		{"n % 10 = 2..4 and n % 100 != 12..14", "22 -3.0 2 4 102 999999999999992", "12 2.5 13 14 112 5 1 0 24.5"},
		{"n % 2 = 0", "0 2 2.0 -100 100000000000000", "1 0.5 2.5 0.2 999999999999999"},
		{"n % 2 != 0", "1 0.5 2.5 999999999999999", "0 2 2.0"},
		{"n % 10 = 10", "", "10 0 1 20 100 1.5"},
		{"n % 25 = 10..100", "10 24 35 10.0", "25 9 0 34.5 100"},
		{"i = 2", "2 2.0 2.5 -2.999999", "20 1.2 0.2"},
		{"i % 100 = 11", "111.9 11 -211.000", "1111111111112.5 12 110.11"},
		{"i != 0", "1 1.5 -1.0", "0 0.0 0.5 -0.9"},
		{"v = 0", "1 0 100", "1.0 0.00 1.5"},
		{"v = 2..3", "1.00 0.123 1.50", "1 1.0 1.0000"},
		{"v != 6", "1 1.00000", "1.000000 1.123456"},
		{"w = 0", "1 1.0 1.000000", "1.5 1.500000"},
		{"w = 1", "1.5 1.500 0.1", "1 1.05 1.0"},
		{"f = 5", "1.5 1.05 1.000005", "1.50 1 5"},
		{"f % 10 = 0", "1.50 1 1.0 2.100", "1.5 1.01"},
		{"f = 0..100", "1 1.5 1.100 1.0100", "1.101 1.1010"},
		{"t = 5", "1.5 1.50 1.0500", "1.55 5 1"},
		{"t % 100 = 1", "0.1 0.10 0.01 0.101 0.100100", "0.11 1 0.100200 0.5"},
		{"t != 0", "0.5 0.50", "0 1.0 5"},
		{"n = 0 or n != 0..100 and n % 100 = 1..19", "0 0.0 101 119 -201.00", "1 100 120 1.5 0.5 100.5"},
		{"v != 0 or n = 0 or n != 1 and n % 100 = 1..19", "1.5 1.0 0 2 19 101", "1 20 100"},
	} {
		for _, number := range strings.Fields(c.yes) {
			if !holds(t, "P8.1", read(t, c.s), number) {
				t.Errorf("P8.1: %q does not hold for %s", c.s, number)
			}
		}
		for _, number := range strings.Fields(c.no) {
			if holds(t, "P8.1", read(t, c.s), number) {
				t.Errorf("P8.1: %q holds for %s", c.s, number)
			}
		}
	}
}

func TestHoldsErrors(t *testing.T) {
	good := read(t, "n = 0..100 or n != 0..100")
	for _, s := range []string{"", "-", "-0", "-0.0", "01", "00", "+1", " 1", "1 ", "1.", ".5", "1.5.", "1,5", "1e2", "x", "0x1", "1\n", "\xff", "1234567890123456", "0.1234567", "\u0661", strings.Repeat("1", 100000)} {
		if ok, e := condition.Holds(good, s); ok || e != api.ErrArg {
			t.Errorf("P8.1: Holds(%v, %.30q) is %v, %d", good, s, ok, e)
		}
		if ok, e := condition.Holds(nil, s); ok || e != api.ErrArg {
			t.Errorf("P8.1: Holds(nil, %.30q) is %v, %d", s, ok, e)
		}
	}
	// What is wrong behind a list that holds is an error, too, and so is a condition that would hold for nothing.
	wrong := api.Relation{Operand: api.OperandV, Mod: 10, Spans: spans(1)}
	for _, c := range []api.Cond{nil, {}, {nil}, {{}}, {good[0], nil}, {good[0], {wrong}}, {good[0], {good[1][0], wrong}}, {{wrong}, good[0]}, {good[0], good[0], good[0], good[0], good[0], good[0], good[0]}} {
		for _, s := range []string{"1", "0", "-2.5", "1.0"} {
			if ok, e := condition.Holds(c, s); ok || e != api.ErrArg {
				t.Errorf("P8.1: Holds(%v, %q) is %v, %d", c, s, ok, e)
			}
		}
	}
}

func TestEqual(t *testing.T) {
	a := api.Relation{Operand: api.OperandN, Mod: 10, Spans: []api.Span{{From: 1, To: 2}, {From: 3, To: 3}}}
	changed := func(change func(*api.Relation)) api.Relation {
		b := a
		b.Spans = slices.Clone(a.Spans)
		change(&b)
		return b
	}
	relations := []api.Relation{
		a,
		changed(func(r *api.Relation) {}),
		changed(func(r *api.Relation) { r.Operand = api.OperandI }),
		changed(func(r *api.Relation) { r.Operand = -1 }),
		changed(func(r *api.Relation) { r.Mod = 0 }),
		changed(func(r *api.Relation) { r.Mod = 7 }),
		changed(func(r *api.Relation) { r.Not = true }),
		changed(func(r *api.Relation) { r.Spans = nil }),
		changed(func(r *api.Relation) { r.Spans = []api.Span{} }),
		changed(func(r *api.Relation) { r.Spans = r.Spans[:1] }),
		changed(func(r *api.Relation) { r.Spans[1].To = 4 }),
		changed(func(r *api.Relation) { r.Spans[0].From = 2 }),
		changed(func(r *api.Relation) { r.Spans[0].From = math.MinInt }),
		changed(func(r *api.Relation) { slices.Reverse(r.Spans) }),
		changed(func(r *api.Relation) { r.Spans = append(r.Spans, r.Spans...) }),
		{},
	}
	all := []api.Cond{nil, {}, {nil}, {{}}, {nil, nil}, {{}, nil, {}}}
	for _, r := range relations {
		all = append(all, api.Cond{{r}}, api.Cond{{r}, nil}, api.Cond{{}, {r}})
		for _, s := range relations[:8] {
			all = append(all, api.Cond{{r, s}}, api.Cond{{r}, {s}}, api.Cond{{a, r}, {s, a}})
		}
	}
	all = append(all, slices.Repeat(api.Cond{{a}}, 1000), slices.Repeat(api.Cond{{a}}, 1001))
	texts := make([]string, len(all))
	for i, c := range all {
		texts[i] = fmt.Sprint(c)
	}
	for i, c := range all {
		for j, d := range all {
			if got := condition.Equal(c, d); got != (texts[i] == texts[j]) {
				t.Fatalf("P8.1: Equal(%v, %v) is %v", c, d, got)
			}
		}
		if fmt.Sprint(c) != texts[i] {
			t.Fatalf("P8.1: Equal changes %s to %v", texts[i], c)
		}
	}
	for _, c := range conditions(1000) {
		if !condition.Equal(c, cloned(c)) {
			t.Fatalf("P8.1: %v is not equal to a copy", c)
		}
	}
}

func TestOr(t *testing.T) {
	next := random()
	for range 10000 {
		n := 1 + next(5)
		a, b := randomCondition(next, n), randomCondition(next, 1+next(6-n))
		joined := slices.Concat(a, b)
		x, e := condition.Print(a)
		y, f := condition.Print(b)
		if e != api.OK || f != api.OK || !same(read(t, x+" or "+y), joined) {
			t.Fatalf("P8.3: %q or %q is not parsed to %v", x, y, joined)
		}
		for range 5 {
			s := randomNumber(next)
			if got := holds(t, "P8.3", joined, s); got != (holds(t, "P8.3", a, s) || holds(t, "P8.3", b, s)) {
				t.Fatalf("P8.3: Holds(%q or %q, %q) is %v", x, y, s, got)
			}
		}
	}
}

func TestOppositeNot(t *testing.T) {
	next := random()
	all := numbers()
	for range 1000 {
		r := randomRelation(next)
		opposite := r
		opposite.Not = !r.Not
		for _, s := range all {
			if holds(t, "P8.3", api.Cond{{r}}, s) == holds(t, "P8.3", api.Cond{{opposite}}, s) {
				t.Fatalf("P8.3: %v and the opposite of it are the same for %q", r, s)
			}
		}
	}
}

// sameFor checks that two conditions hold for the same ones of some numbers.
func sameFor(t *testing.T, promise string, a, b api.Cond, numbers []string) {
	t.Helper()
	for _, s := range numbers {
		if got := holds(t, promise, a, s); got != holds(t, promise, b, s) {
			t.Fatalf("%s: Holds(%v, %q) is %v, but not for %v", promise, a, s, got, b)
		}
	}
}

func TestDividedSpans(t *testing.T) {
	next := random()
	all := numbers()
	for range 1000 {
		r := randomRelation(next)
		i := next(len(r.Spans))
		s := r.Spans[i]
		if s.From == s.To || len(r.Spans) == 4 {
			continue
		}
		middle := s.From + next(s.To-s.From)
		divided := r
		divided.Spans = slices.Replace(slices.Clone(r.Spans), i, i+1, api.Span{From: s.From, To: middle}, api.Span{From: middle + 1, To: s.To})
		sameFor(t, "P8.4", api.Cond{{r}}, api.Cond{{divided}}, all)
	}
}

// shuffle changes the order of a list.
func shuffle[T any](next func(int) int, l []T) {
	for i := range l {
		j := i + next(len(l)-i)
		l[i], l[j] = l[j], l[i]
	}
}

func TestOrderDoesNotMatter(t *testing.T) {
	next := random()
	for _, c := range conditions(5000) {
		d := cloned(c)
		shuffle(next, d)
		for _, l := range d {
			shuffle(next, l)
			for _, r := range l {
				shuffle(next, r.Spans)
			}
		}
		some := []string{"0", "1", "2", "1.0", "1.5", "10", "100"}
		for range 10 {
			some = append(some, randomNumber(next))
		}
		sameFor(t, "P8.4", c, d, some)
	}
}

func TestSigns(t *testing.T) {
	for _, c := range conditions(500) {
		for _, s := range numbers() {
			opposite := "-" + s
			if positive, found := strings.CutPrefix(s, "-"); found {
				opposite = positive
			}
			if strings.Trim(opposite, "-0.") == "" {
				continue
			}
			if got := holds(t, "P8.5", c, s); got != holds(t, "P8.5", c, opposite) {
				t.Fatalf("P8.5: Holds(%v, %q) is %v, but not for %q", c, s, got, opposite)
			}
		}
	}
}

func TestZerosAtTheEnd(t *testing.T) {
	count := 0
	for _, c := range conditions(5000) {
		digits := slices.ContainsFunc(slices.Concat(c...), func(r api.Relation) bool {
			return r.Operand == api.OperandV || r.Operand == api.OperandF
		})
		if digits {
			continue
		}
		count++
		for _, s := range []string{"0", "1", "2", "-1", "100", "11", "1.5", "0.1", "-2.25", "10.01", "3.00", "1.10"} {
			longer := s
			if !strings.Contains(s, ".") {
				longer += "."
			}
			for len(longer) < strings.Index(longer, ".")+7 {
				longer += "0"
				if got := holds(t, "P8.5", c, s); got != holds(t, "P8.5", c, longer) {
					t.Fatalf("P8.5: Holds(%v, %q) is %v, but not for %q", c, s, got, longer)
				}
			}
		}
	}
	if count < 500 {
		t.Errorf("P8.5: only %d conditions are without v and f", count)
	}
}
