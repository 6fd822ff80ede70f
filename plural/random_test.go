package plural_test

import (
	"math/rand"
	"slices"
	"strconv"
	"strings"

	"calque/api"
	"calque/condition"
)

// pool has conditions whose combinations hold for one of the numbers, if for any.
var pool = []string{
	"n = 0", "n = 1", "n = 2", "n % 10 = 3..4", "n % 100 = 3..10", "n % 100 = 11..99", "n != 1", "n % 3 = 2", "n % 2 = 0", "n % 2 = 1", "n = 5 or n % 10 = 7",
	"i = 0,1", "i = 1 and v = 0", "i = 0..100", "i = 100", "i % 2 = 0", "i % 2 = 1", "i % 10 = 1 and v = 1", "i % 5 = 4 and w = 1", "i != 0..3",
	"v = 0", "v != 0", "v = 1", "v = 2", "v = 0..6", "w = 0", "w = 1", "w != 0", "f = 0 and v = 1", "f = 5", "t % 10 = 5", "n = 1 and n != 1",
	"v = 0 and i % 10 = 2..4 and i % 100 != 12..14", "v = 0 and i != 1 and i % 10 = 0,1,5..9 or v = 0 and i % 100 = 12..14",
}

// families are lists of conditions of which at most one holds for a number. Some are total.
var families = [][]string{
	{"i = 1 and v = 0", "v = 0 and i % 10 = 2..4 and i % 100 != 12..14", "v = 0 and i != 1 and i % 10 = 0,1,5..9 or v = 0 and i % 100 = 12..14"},
	{"n = 0", "n = 1", "n = 2", "n % 100 = 3..10", "n % 100 = 11..99"},
	{"n % 10 = 1 and n % 100 != 11", "n % 10 = 2 and n % 100 != 12", "n % 10 = 3 and n % 100 != 13"},
	{"v = 0", "v = 1", "v = 2", "v != 0..2"},
	{"v = 0", "v = 1", "v = 2", "v = 3", "v = 4..6"},
	{"v = 0", "v = 1", "v = 2", "v = 3", "v = 4"},
	{"n % 2 = 0", "n % 2 = 1", "w != 0"},
	{"n % 2 = 0", "n % 2 != 0"},
	{"i = 0,1", "n = 3 and v = 0", "i != 0..3"},
	{"t % 10 = 1", "t % 10 = 2..4", "t % 10 = 0"},
	{"n = 1 and n != 1", "n = 1 and v = 0", "f = 0 and v = 1"},
	{"i % 6 = 0", "i % 6 = 1", "i % 6 = 2", "i % 6 = 3", "i % 6 = 4"},
	{"i % 5 = 0", "i % 5 = 1", "i % 5 = 2", "i % 5 = 3", "i % 5 = 4"},
	{"n = 100", "n != 0..100", "n = 7 or n = 9"},
	{"v = 0..6"},
	{"n != 1"},
	{},
}

// oneOf returns an element of a list.
func oneOf[T any](r *rand.Rand, l []T) T {
	return l[r.Intn(len(l))]
}

// someOf returns some elements of a list in another order.
func someOf[T any](r *rand.Rand, l []T) []T {
	some := shuffled(r, l)
	return some[:r.Intn(len(l)+1)]
}

// shuffled returns a list in another order.
func shuffled[T any](r *rand.Rand, l []T) []T {
	l = slices.Clone(l)
	r.Shuffle(len(l), func(i, j int) { l[i], l[j] = l[j], l[i] })
	return l
}

// someClasses returns the classes that rules can have.
func someClasses(r *rand.Rand) []string {
	return shuffled(r, order[:5])
}

// moduli are the numbers permitted as Mod, by operands.
var moduli = [][]int{
	api.OperandN: {0, 2, 3, 4, 5, 6, 10, 20, 25, 50, 100},
	api.OperandI: {0, 2, 3, 4, 5, 6, 10, 20, 25, 50, 100},
	api.OperandV: {0}, api.OperandW: {0},
	api.OperandF: {0, 10, 100}, api.OperandT: {0, 10, 100},
}

// randomOperand returns a relation without spans, and the greatest number that may be in a span.
func randomOperand(r *rand.Rand) (api.Relation, int) {
	x := api.Relation{Operand: api.OperandN + r.Intn(6)}
	x.Mod = oneOf(r, moduli[x.Operand])
	switch {
	case x.Operand == api.OperandV, x.Operand == api.OperandW:
		return x, 6
	case x.Mod > 0:
		return x, x.Mod - 1
	}
	return x, oneOf(r, []int{2, 5, 12, 100})
}

// randomRelation returns a relation.
func randomRelation(r *rand.Rand) api.Relation {
	x, most := randomOperand(r)
	x.Not = r.Intn(2) == 0
	for range 1 + r.Intn(3) {
		from := r.Intn(most + 1)
		x.Spans = append(x.Spans, api.Span{From: from, To: from + r.Intn(2)*r.Intn(most-from+1)})
	}
	return x
}

// apart returns relations of which at most one holds for a number.
func apart(r *rand.Rand, count int) []api.Relation {
	x, most := randomOperand(r)
	l := slices.Repeat([]api.Relation{x}, count)
	var used []api.Span
	for from := 0; from <= most; {
		to := min(most, from+r.Intn(2)*r.Intn(4))
		i := r.Intn(count)
		if r.Intn(5) > 0 && len(l[i].Spans) < 4 {
			l[i].Spans = append(l[i].Spans, api.Span{From: from, To: to})
			used = append(used, api.Span{From: from, To: to})
		}
		from = to + 1
	}
	if len(used) > 0 && len(used) <= 4 && r.Intn(2) == 0 {
		x.Not, x.Spans = true, used
		l = append(l, x)
	}
	return slices.DeleteFunc(l, func(x api.Relation) bool { return len(x.Spans) == 0 })
}

// randomRules returns rules of which at most one holds for a number: there is a relation in each list of relations
// that keeps it apart from those of the other rules.
func randomRules(r *rand.Rand) []api.Rule {
	classes := someClasses(r)
	var l []api.Rule
	for i, x := range apart(r, 1+r.Intn(4)) {
		var c api.Cond
		for range 1 + r.Intn(2) {
			list := []api.Relation{x}
			for range r.Intn(3) {
				list = append(list, randomRelation(r))
			}
			c = append(c, shuffled(r, list))
		}
		l = append(l, api.Rule{Class: classes[i], Cond: c})
	}
	return l
}

// anyRules returns rules that may overlap, with as many relations as there may be.
func anyRules(r *rand.Rand) []api.Rule {
	var l []api.Rule
	for _, class := range someClasses(r)[:1+r.Intn(5)] {
		var c api.Cond
		for left := 6; left > 0; {
			n := 1 + r.Intn(left)
			var list []api.Relation
			for range n {
				list = append(list, randomRelation(r))
			}
			c, left = append(c, list), left-n
			if r.Intn(3) == 0 {
				break
			}
		}
		l = append(l, api.Rule{Class: class, Cond: c})
	}
	return l
}

// randomNumber returns a number with or without a sign.
func randomNumber(r *rand.Rand) string {
	for {
		s := strconv.Itoa(r.Intn(oneOf(r, []int{2, 10, 120, 700, 1e9, 1e15})))
		if r.Intn(3) > 0 {
			s += "." + strings.Repeat("0", r.Intn(4)) + strconv.Itoa(r.Intn(oneOf(r, []int{2, 10, 120, 700, 1e6}))) + strings.Repeat("0", r.Intn(4))
		}
		if r.Intn(4) == 0 {
			s = "-" + s
		}
		if isNumber(s) {
			return s
		}
	}
}

// randomNumbers returns many numbers of all kinds.
func randomNumbers(r *rand.Rand, count int) []string {
	var l []string
	for range count {
		l = append(l, randomNumber(r), oneOf(r, numbers))
	}
	return l
}

// holds reports whether a condition holds for a number.
func holds(c api.Cond, number string) bool {
	ok, _ := condition.Holds(c, number)
	return ok
}
