package plural_test

import (
	"math"
	"math/rand"
	"slices"
	"strings"
	"testing"

	"calque/api"
	"calque/condition"
	"calque/plural"
	"calque/table"
)

// isValid returns what Valid returns by its definition.
func isValid(l []api.Rule) bool {
	seen := map[string]bool{}
	for _, r := range l {
		if !slices.Contains(order[:5], r.Class) || seen[r.Class] || !condition.Valid(r.Cond) {
			return false
		}
		seen[r.Class] = true
	}
	return true
}

// eachList calls a function with all lists of at most so many elements of some.
func eachList[T any](elements []T, most int, f func(l []T)) {
	var extend func(l []T)
	extend = func(l []T) {
		f(l)
		for i := 0; len(l) < most && i < len(elements); i++ {
			extend(append(l[:len(l):len(l)], elements[i]))
		}
	}
	extend(nil)
}

func TestValid(t *testing.T) {
	valid := 0
	compareValid := func(l []api.Rule) {
		if plural.Valid(l) != isValid(l) {
			t.Fatalf("P14.1: Valid(%s) is %v", show(l), !isValid(l))
		}
		if isValid(l) {
			valid++
		}
	}
	var some, good []api.Rule
	for _, class := range append(slices.Clone(order), "", "One", "ones", "x") {
		for _, c := range []api.Cond{read("n = 1"), read("v = 0 and i % 10 = 2..4 or w = 6"), nil, {{}}, {{{Operand: 9}}}} {
			some = append(some, api.Rule{Class: class, Cond: c})
		}
		good = append(good, api.Rule{Class: class, Cond: read("n = 1")})
	}
	eachList(some, 3, compareValid)
	if valid != 1+10+80+480 {
		t.Errorf("P14.1: %d lists of at most three rules are valid", valid)
	}
	valid = 0
	eachList(good[:6], 7, compareValid)
	if valid != 1+5+20+60+120+120 {
		t.Errorf("P14.1: %d lists of rules are valid", valid)
	}
}

func TestNotValid(t *testing.T) {
	one := api.Relation{Operand: api.OperandI, Spans: []api.Span{{From: 1, To: 1}}}
	good := rules("two", "n = 2", "few", "n = 3", "many", "n = 1")
	for _, bad := range []api.Rule{
		{}, {Class: "one"}, {Class: "one", Cond: api.Cond{}}, {Class: "one", Cond: api.Cond{nil}}, {Class: "one", Cond: api.Cond{{one}, {}}},
		{Class: "one", Cond: api.Cond{slices.Repeat([]api.Relation{one}, 7)}}, {Class: "one", Cond: slices.Repeat(api.Cond{{one}}, 7)}, {Class: "one", Cond: make(api.Cond, 100000)},
		{Class: "one", Cond: api.Cond{{{Operand: api.OperandN, Mod: 7, Spans: one.Spans}}}}, {Class: "one", Cond: api.Cond{{{Operand: api.OperandV, Spans: []api.Span{{From: 0, To: 7}}}}}},
		{Class: "one", Cond: api.Cond{{{Operand: math.MinInt, Mod: math.MaxInt, Not: true, Spans: []api.Span{{From: math.MaxInt, To: math.MinInt}}}}}},
		{Class: "other", Cond: read("n = 5")}, {Class: "", Cond: read("n = 5")}, {Class: "ONE", Cond: read("n = 5")}, {Class: "one ", Cond: read("n = 5")}, {Class: "on", Cond: read("n = 5")}, {Class: "1", Cond: read("n = 5")}, {Class: "\xff", Cond: read("n = 5")},
		{Class: "two", Cond: read("n = 5")}, {Class: "few", Cond: read("n = 5")}, {Class: "many", Cond: read("n = 5")}, {Class: "many", Cond: read("n = 1")},
		{Class: strings.Repeat("other", 20000), Cond: read("n = 5")},
	} {
		for i := range len(good) + 1 {
			checkBad(t, slices.Insert(slices.Clone(good), i, bad))
		}
		checkBad(t, []api.Rule{bad, bad})
	}
	for _, n := range []int{2, 5, 6, 10, 11, 100000} {
		checkBad(t, slices.Repeat(good[:1], n))
		checkBad(t, make([]api.Rule, n))
	}
	five := rules("other", "n = 2", "one", "n = 1", "two", "n = 2", "few", "n = 3", "many", "n = 4")
	checkBad(t, five)
	five[0].Class = "zero"
	for i := range five {
		checkBad(t, append(slices.Clone(five), five[i]))
	}
}

// TestClassOfSample compares classes of numbers with the rules of the sample table.
func TestClassOfSample(t *testing.T) {
	locales := table.Sample().Locales
	for _, x := range []struct {
		l       []api.Rule
		class   string
		numbers string
	}{
		{nil, "other", "0 1 -1 2 1.0 0.000000 999999999999999.999999 -999999999999999.999999"},
		{locales[0].Cardinal, "other", "0 1 2 5.5"},
		{locales[1].Cardinal, "one", "1 -1"},
		{locales[1].Cardinal, "other", "0 2 11 1.0 -1.0 1.5 0.1 100000000000001"},
		{locales[1].Ordinal, "one", "1 21 101 1.0 -21 31.000000 999999999999991"},
		{locales[1].Ordinal, "two", "2 22 102 -2 1000000000002"},
		{locales[1].Ordinal, "few", "3 23 103 93.0"},
		{locales[1].Ordinal, "other", "0 4 11 12 13 111 112 113 -111 1.5 3.01"},
		{locales[3].Cardinal, "one", "1 -1"},
		{locales[3].Cardinal, "few", "2 3 4 22 -22 104 999999999999994"},
		{locales[3].Cardinal, "many", "0 5 9 10 11 12 13 14 -12 21 25 101 111 112 1000000000001 100000000000012"},
		{locales[3].Cardinal, "other", "1.5 0.0 1.0 2.0 -2.50 12.1 5.000000"},
		{locales[4].Cardinal, "zero", "0 0.0 0.000000"},
		{locales[4].Cardinal, "one", "1 1.0 -1.00"},
		{locales[4].Cardinal, "two", "2 -2.000000"},
		{locales[4].Cardinal, "few", "3 10 103 110 3.0 -1003 999999999999903"},
		{locales[4].Cardinal, "many", "11 99 111 11.00 -199"},
		{locales[4].Cardinal, "other", "100 101 102 200 1.5 0.5 11.1 -100"},
	} {
		for number := range strings.FieldsSeq(x.numbers) {
			checkClass(t, "P14.1", x.l, number, x.class, api.OK)
		}
	}
}

// TestClassOfAll compares the classes of all numbers with the model.
func TestClassOfAll(t *testing.T) {
	for _, texts := range append(families, []string{"n = 1", "n % 10 = 1", "i % 2 = 1"}, []string{"v != 0", "v = 0..6", "n = 1"}) {
		l := numbered(order, texts)
		before := show(l)
		m := modelOf(l)
		for i, n := range numbers {
			checkClass(t, "P14.1", l, n, m.classes[i], api.OK)
			if isNumber("-" + n) {
				checkClass(t, "P14.1, P14.2", l, "-"+n, m.classes[i], api.OK)
			}
		}
		if show(l) != before {
			t.Errorf("P14.1: the rules %s are changed to %s", before, show(l))
		}
	}
}

func TestNoNumbers(t *testing.T) {
	lists := [][]api.Rule{nil, rules("one", "v = 0..6"), rules("two", "n = 1"), rules("few", "n != 1", "one", "n = 1")}
	for _, s := range []string{
		"", "-", ".", "-.", "+1", "01", "-01", "00", "-0", "-0.0", "-0.000000", "1.", ".5", "-.5", "1..2", "1.2.3", "1.-2", "--1", "1-", "1e3", "1,5", " 1", "1 ", "1\n", "x", "0x1", "NaN", "one", "\x00", "1\x00", "\xff", "٣", "1٫5", "−1",
		"1000000000000000", "-1000000000000000", "0.0000000", "1.0000001", "-1.0000001", strings.Repeat("1", 100000), strings.Repeat("0", 100000), "0." + strings.Repeat("0", 100000),
	} {
		for _, l := range lists {
			checkClass(t, "P14.1", l, s, "", api.ErrArg)
		}
	}
	eachList(strings.Split("-019.x", ""), 5, func(characters []string) {
		s := strings.Join(characters, "")
		for i, want := range []string{"other", "one"} {
			e := api.OK
			if !isNumber(s) {
				want, e = "", api.ErrArg
			}
			checkClass(t, "P14.1", lists[i], s, want, e)
		}
	})
	for _, s := range []string{"999999999999999", "-999999999999999.999999", "0.000001", "-0.000001", "100000000000000.000000"} {
		checkClass(t, "P14.1", lists[0], s, "other", api.OK)
		checkClass(t, "P14.1", lists[1], s, "one", api.OK)
	}
}

// TestFirstRule looks at rules that hold for the same number: the first one counts.
func TestFirstRule(t *testing.T) {
	l := rules("many", "n % 10 = 1", "one", "n = 1", "few", "n % 2 = 1", "zero", "v = 0..6", "two", "n = 1,2,3")
	want := map[string][]string{"1": {"many", "one", "few", "zero", "two"}, "11": {"many", "few", "zero"}, "3": {"few", "zero", "two"}, "2": {"zero", "two"}, "0.5": {"zero"}}
	for _, o := range orders(l) {
		for number, classes := range want {
			i := slices.IndexFunc(o, func(r api.Rule) bool { return slices.Contains(classes, r.Class) })
			checkClass(t, "P14.1", o, number, o[i].Class, api.OK)
		}
		check(t, o)
	}
}

func TestExamples(t *testing.T) {
	for _, x := range []struct {
		l    []api.Rule
		want []string // the examples by the order of the classes
	}{
		{nil, []string{"", "", "", "", "", "0"}},
		{table.Sample().Locales[1].Cardinal, []string{"", "1", "", "", "", "0"}},
		{table.Sample().Locales[1].Ordinal, []string{"", "1", "2", "3", "", "0"}},
		{table.Sample().Locales[3].Cardinal, []string{"", "1", "", "2", "0", "0.0"}},
		{table.Sample().Locales[4].Cardinal, []string{"0", "1", "2", "3", "11", "0.1"}},
		{rules("many", "v = 0..6"), []string{"", "", "", "", "0", ""}},
		{rules("many", "n = 1 and n != 1"), []string{"", "", "", "", "", "0"}},
		{rules("two", "n != 0..100"), []string{"", "", "0.1", "", "", "0"}},
		{rules("two", "i != 0..100"), []string{"", "", "101", "", "", "0"}},
		{rules("zero", "i = 0..100"), []string{"0", "", "", "", "", "101"}},
		{rules("zero", "v = 0..5"), []string{"0", "", "", "", "", "0.000000"}},
		{rules("zero", "w = 0..5"), []string{"0", "", "", "", "", "0.000001"}},
		{rules("two", "n % 2 = 1", "one", "n % 2 = 0"), []string{"", "0", "1", "", "", "0.1"}},
		{rules("two", "n % 2 = 1", "many", "w != 0", "one", "n % 2 = 0"), []string{"", "0", "1", "", "0.1", ""}},
		{rules("few", "i % 100 = 99 and i % 3 = 0 and i != 99 and v = 6 and t != 0"), []string{"", "", "", "399.000001", "", "0"}},
		{rules("many", "v = 4", "few", "v = 3", "two", "v = 2", "one", "v = 1", "zero", "v = 0"), []string{"0", "0.0", "0.00", "0.000", "0.0000", "0.00000"}},
		{rules("many", "v != 0..3", "few", "v = 3", "two", "v = 2", "one", "v = 1", "zero", "v = 0"), []string{"0", "0.0", "0.00", "0.000", "0.0000", ""}},
		{rules("one", "i = 0..100", "few", "i != 0..100 and i % 3 = 0", "many", "i != 0..100 and i % 3 = 1"), []string{"", "0", "", "102", "103", "101"}},
		{rules("one", "f = 100 and w = 1", "few", "t % 100 = 99 and v = 6 and w = 6 and t != 99"), []string{"", "0.100", "", "0.000199", "", "0"}},
	} {
		var classes []string
		for i, class := range order {
			e := api.OK
			if x.want[i] == "" {
				e = api.ErrNone
			} else {
				classes = append(classes, class)
			}
			if s, f := plural.Example(x.l, class); s != x.want[i] || f != e {
				t.Errorf("P14.4: Example(%s, %s) is %q, %d, want %q, %d", show(x.l), class, s, f, x.want[i], e)
			}
		}
		if l, e := plural.Classes(x.l); !slices.Equal(l, classes) || e != api.OK {
			t.Errorf("P14.1: Classes(%s) is %q, %d, want %q", show(x.l), l, e, classes)
		}
	}
}

// TestOverlap looks at rules that hold for the same number, also far away and only some of them.
func TestOverlap(t *testing.T) {
	far := "i % 100 = 99 and i % 3 = 0 and i != 99 and v = 6 and t != 0"
	for _, l := range [][]api.Rule{
		rules("one", "n = 1", "few", "n = 1"),
		rules("one", "n = 1", "few", "n % 10 = 1"),
		rules("two", "v = 0..6", "zero", "n = 7"),
		rules("one", far, "two", "t = 1 and i % 10 = 9"),
		rules("two", "v = 6 and t = 1", "one", "v = 5", "many", far),
		rules("zero", "v = 0", "one", "v = 1", "two", "v = 2", "few", "v = 3", "many", "v = 4 or f = 77"),
		rules("zero", "v = 0", "one", "v = 1", "two", "v = 2", "few", "v = 3", "many", "v = 4 or v = 3 and n = 1"),
		rules("zero", "n = 1 and n != 1", "one", "n != 0..100", "two", "i != 0..100 and w = 0"),
	} {
		for _, o := range orders(l) {
			if got, e := plural.Classes(o); len(got) > 0 || e != api.ErrOverlap {
				t.Errorf("P14.1: Classes(%s) is %q, %d", show(o), got, e)
			}
			for _, class := range append(slices.Clone(order), "x", "", "One", "ones") {
				want := api.ErrOverlap
				if !slices.Contains(order, class) {
					want = api.ErrUnknown
				}
				if s, e := plural.Example(o, class); s != "" || e != want {
					t.Errorf("P14.1: Example(%s, %q) is %q, %d, want %d", show(o), class, s, e, want)
				}
			}
		}
	}
	if s, e := plural.Example(rules("one", far, "two", "t = 1 and i % 10 = 9 and i % 100 != 99"), "one"); s != "399.000001" || e != api.OK {
		t.Errorf("P14.1: rules that do not overlap have the example %q, %d", s, e)
	}
}

func TestUnknownClasses(t *testing.T) {
	for _, l := range [][]api.Rule{nil, rules("one", "n = 1"), rules("one", "v = 0..6"), rules("one", "n = 1", "two", "n = 1")} {
		for _, class := range []string{"", "x", "One", "OTHER", "other ", " other", "othe", "zeroone", "1", "\xff", "z\u00e9ro", strings.Repeat("one", 100000)} {
			if s, e := plural.Example(l, class); s != "" || e != api.ErrUnknown {
				t.Errorf("P14.1: Example(%s, %.20q) is %q, %d", show(l), class, s, e)
			}
		}
	}
}

// TestNewMemory changes a result.
func TestNewMemory(t *testing.T) {
	l := rules("zero", "n = 0", "one", "n = 1", "two", "n = 2", "few", "n = 3", "many", "n = 4")
	for range 3 {
		got, e := plural.Classes(l)
		if !slices.Equal(got, order) || e != api.OK {
			t.Fatalf("P14.1: Classes is %q, %d after a change of an earlier result", got, e)
		}
		for i := range got {
			got[i] = "x"
		}
		_ = append(got[:0], "a", "b", "c")
	}
}

// TestPairs looks at all lists of at most two conditions in all orders.
func TestPairs(t *testing.T) {
	eachList(pool, 2, func(texts []string) {
		check(t, numbered([]string{"few", "one"}, texts))
	})
}

// TestLists looks at many lists of up to five conditions, most of which do not overlap.
func TestLists(t *testing.T) {
	r := rand.New(rand.NewSource(14))
	overlaps, lengths := 0, map[int]int{}
	for range 600 {
		texts := oneOf(r, families)
		if r.Intn(3) == 0 {
			texts = someOf(r, slices.Concat(texts, []string{oneOf(r, pool)}))
		}
		texts = texts[:min(len(texts), 5)]
		l := numbered(someClasses(r), texts)
		m := check(t, l)
		for range 20 {
			i := r.Intn(len(numbers))
			checkClass(t, "P14.1", l, numbers[i], m.classes[i], api.OK)
		}
		if m.overlap {
			overlaps++
		}
		lengths[len(l)]++
	}
	for n := range 6 {
		if lengths[n] < 15 {
			t.Errorf("there are only %d lists of %d rules", lengths[n], n)
		}
	}
	if overlaps < 50 || overlaps > 300 {
		t.Errorf("%d of the lists overlap", overlaps)
	}
}
