package validate_test

import (
	"fmt"
	"math/rand"
	"reflect"
	"slices"
	"testing"

	"calque/api"
	"calque/decide"
	"calque/table"
	"calque/validate"
)

// disjoint are lists of conditions of which at most one holds for a number.
var disjoint = [][]string{
	{"i = 1 and v = 0", "v = 0 and i % 10 = 2..4 and i % 100 != 12..14", "v = 0 and i != 1 and i % 10 = 0,1,5..9 or v = 0 and i % 100 = 12..14"},
	{"n = 0", "n = 1", "n = 2", "n % 100 = 3..10", "n % 100 = 11..99"},
	{"n % 10 = 1 and n % 100 != 11", "n % 10 = 2 and n % 100 != 12", "n % 10 = 3 and n % 100 != 13"},
	{"v = 0", "v = 1", "v = 2", "v != 0..2"},
	{"i = 0,1", "n = 3 and v = 0", "i != 0..3"},
	{"t % 10 = 1", "t % 10 = 2..4", "t % 10 = 0"},
	{"n != 1"},
	{"n = 1 and n != 1", "n = 1 and v = 0", "f = 0 and v = 1"},
}

// oneOf returns an element of a list.
func oneOf[T any](r *rand.Rand, l []T) T {
	return l[r.Intn(len(l))]
}

// someOf returns some elements of a list in another order.
func someOf[T any](r *rand.Rand, l []T) []T {
	var some []T
	for _, i := range r.Perm(len(l))[:r.Intn(len(l)+1)] {
		some = append(some, l[i])
	}
	return some
}

// randomPattern returns a pattern with so many places.
func randomPattern(r *rand.Rand, n int) string {
	between := []string{"", " ", ", ", "0", "日", "[", " and "}
	s := oneOf(r, between)
	for _, i := range r.Perm(n) {
		s += fmt.Sprintf("{%d}", i) + oneOf(r, between)
	}
	return s
}

// randomDate returns a date pattern that fits a skeleton.
func randomDate(r *rand.Rand, skeleton string) string {
	longer := map[byte][]string{'y': {"y"}, 'M': {"M", "MM", "MMM"}, 'E': {"E"}, 'd': {"d", "dd"}}
	l, _ := fieldsOf(skeleton)
	s := oneOf(r, []string{"", "-", "日"})
	for _, i := range r.Perm(len(l)) {
		s += oneOf(r, longer[l[i][0]]) + oneOf(r, []string{" ", "-", "日", "{", ". "})
	}
	return s
}

// randomUnits returns patterns of units, each of which has one for the class other.
func randomUnits(r *rand.Rand) []api.UnitPattern {
	var l []api.UnitPattern
	for _, unit := range someOf(r, []string{"km", "m", "day"}) {
		for _, class := range append(someOf(r, []string{"zero", "one", "two", "few", "many"}), "other") {
			l = append(l, api.UnitPattern{Unit: unit, Class: class, Pattern: randomPattern(r, 1)})
		}
	}
	r.Shuffle(len(l), func(i, j int) { l[i], l[j] = l[j], l[i] })
	return l
}

// randomLocale returns a locale without an error in itself.
func randomLocale(r *rand.Rand, tag, parent string) api.Locale {
	l := api.Locale{Tag: tag, Parent: parent, Cardinal: rules(someOf(r, oneOf(r, disjoint))...), Ordinal: rules(someOf(r, oneOf(r, disjoint))...), Units: randomUnits(r)}
	if parent == "" || r.Intn(2) == 0 {
		l.Direction, l.Symbols, l.Months = oneOf(r, []string{"ltr", "rtl"}), api.Symbols{Decimal: ","}, make([]string, 12)
	}
	if parent == "" || r.Intn(2) == 0 {
		l.Days = make([]string, 7)
		for _, style := range append(someOf(r, []string{"and", "unit"}), "or") {
			l.Lists = append(l.Lists, api.ListPattern{Style: style, Two: randomPattern(r, 2), Start: randomPattern(r, 2), Middle: randomPattern(r, 2), End: randomPattern(r, 2)})
		}
		for _, skeleton := range append(someOf(r, []string{"y", "MMMEd", "yMMdd", "yEd"}), "yMd") {
			l.Dates = append(l.Dates, api.DatePattern{Skeleton: skeleton, Pattern: randomDate(r, skeleton)})
		}
	}
	return l
}

var someTags = []string{"en", "en-US", "de", "EN", "pl", "ar", "he", "zh-Hant"}

// randomTable returns a table without an error.
func randomTable(r *rand.Rand) api.Table {
	x := api.Table{Locales: []api.Locale{randomLocale(r, "und", "")}}
	for _, tag := range someOf(r, someTags) {
		x.Locales = append(x.Locales, randomLocale(r, tag, oneOf(r, x.Locales).Tag))
	}
	names := append(r.Perm(8), 8)
	for _, i := range someOf(r, []int{0, 1, 2, 3, 4, 5, 6, 7}) {
		x.Aliases = append(x.Aliases, api.Alias{From: fmt.Sprint("a", names[i]), To: fmt.Sprint("a", names[i+1+r.Intn(8-i)])})
	}
	for _, i := range someOf(r, []int{0, 1, 2, 3, 4, 5, 6, 7}) {
		for j := range i {
			if r.Intn(3) == 0 {
				x.Near = append(x.Near, api.Near{From: fmt.Sprint("b", names[i]), To: fmt.Sprint("b", names[j]), Cost: r.Intn(1001)})
			}
		}
	}
	return x
}

// fieldsIn calls a function with all fields and elements of a value but the parts of conditions.
func fieldsIn(v reflect.Value, f func(reflect.Value)) {
	switch v.Kind() {
	case reflect.Struct:
		for i := range v.NumField() {
			fieldsIn(v.Field(i), f)
		}
		return
	case reflect.Slice:
		if v.Type() == reflect.TypeFor[api.Cond]() {
			break
		}
		for i := range v.Len() {
			fieldsIn(v.Index(i), f)
		}
	}
	f(v)
}

// spoil replaces a field by one of the same type from the same table, or by another value, so that it may have an error.
func spoil(r *rand.Rand, x *api.Table) {
	var all []reflect.Value
	// There are many more fields in locales than in other parts.
	fieldsIn(reflect.ValueOf(x).Elem().Field(oneOf(r, []int{0, 0, 1, 2})), func(v reflect.Value) { all = append(all, v) })
	v := oneOf(r, all)
	if v.Kind() == reflect.String && r.Intn(8) == 0 {
		v.SetString(oneOf(r, []string{"", "und", "en", "x", "{0}", "{0}{0}", "{1}{0}", "y", "Md", "one", "a0"}))
		return
	}
	if v.Kind() == reflect.Slice && v.Type() != reflect.TypeFor[api.Cond]() && r.Intn(2) == 0 {
		i := r.Intn(v.Len() + 1)
		j := i + r.Intn(v.Len()-i+1)
		v.Set(reflect.AppendSlice(copyOfValue(v.Slice(0, i)), v.Slice(j, v.Len())))
		return
	}
	var alike []reflect.Value
	for _, w := range all {
		if w.Type() == v.Type() {
			alike = append(alike, w)
		}
	}
	v.Set(copyOfValue(oneOf(r, alike)))
}

// shuffle exchanges two elements of a list of a table.
func shuffle(r *rand.Rand, x *api.Table) {
	var all []reflect.Value
	fieldsIn(reflect.ValueOf(x).Elem(), func(v reflect.Value) {
		if v.Kind() == reflect.Slice && v.Len() > 1 {
			all = append(all, v)
		}
	})
	if len(all) > 0 {
		v := oneOf(r, all)
		reflect.Swapper(v.Interface())(r.Intn(v.Len()), r.Intn(v.Len()))
	}
}

// changed returns a valid table that may have errors.
func changed(r *rand.Rand, x api.Table) api.Table {
	for {
		y := copyOf(x)
		for range r.Intn(4) {
			spoil(r, &y)
		}
		for range r.Intn(3) {
			shuffle(r, &y)
		}
		if table.Valid(y) {
			return y
		}
	}
}

// TestKnownConditions makes sure that the numbers of the model suffice for the conditions of the tests.
func TestKnownConditions(t *testing.T) {
	for _, texts := range disjoint {
		if most(rules(texts...)) != 1 {
			t.Errorf("the conditions %q overlap", texts)
		}
	}
	all := slices.Concat(disjoint...)
	for i := range all {
		for j := range i {
			pair := rules(all[j], all[i])
			if _, _, _, e := decide.Disjoint(pair); (e == api.OK) != (most(pair) <= 1) {
				t.Errorf("%q and %q: error %d, but %d of them hold for a number", all[j], all[i], e, most(pair))
			}
		}
	}
}

// TestRandomTables looks at tables without an error, and at changed ones.
func TestRandomTables(t *testing.T) {
	r := rand.New(rand.NewSource(2))
	counts := map[api.Errno]int{}
	for range 3000 {
		x := randomTable(r)
		expect(t, "a random table", x, 0, api.OK)
		check(t, "a random table", x)
		counts[check(t, "a changed table", changed(r, x))]++
		spoil(r, &x)
		counts[check(t, "a table that may not be valid", x)]++
		if t.Failed() {
			return
		}
	}
	for _, e := range []api.Errno{api.OK, api.ErrArg, api.ErrData, api.ErrDuplicate, api.ErrUnknown, api.ErrOverlap, api.ErrForm, api.ErrOther, api.ErrCycle} {
		if counts[e] < 30 {
			t.Errorf("only %d tables with the error %d: %v", counts[e], e, counts)
		}
	}
}

// TestBeginnings takes away the last part of tables without an error, until only the root is left.
func TestBeginnings(t *testing.T) {
	r := rand.New(rand.NewSource(3))
	for _, x := range append([]api.Table{table.Sample(), full()}, randomTables(r, 500)...) {
		for {
			if i, e := validate.Check(x); i != 0 || e != api.OK {
				t.Fatalf("P13.2: %s has the error %d at %d", show(x), e, i)
			}
			// Near entries and aliases can be taken away in any order; locales, when neither is left.
			switch {
			case len(x.Near) > 0 && (r.Intn(2) == 0 || len(x.Aliases) == 0):
				x.Near = x.Near[:len(x.Near)-1]
			case len(x.Aliases) > 0:
				x.Aliases = x.Aliases[:len(x.Aliases)-1]
			default:
				x.Locales = x.Locales[:len(x.Locales)-1]
			}
			if len(x.Locales) == 0 {
				break
			}
		}
	}
}

// randomTables returns changed tables that have no error.
func randomTables(r *rand.Rand, count int) []api.Table {
	var l []api.Table
	for len(l) < count {
		x := changed(r, randomTable(r))
		if _, e := errorOf(x); e == api.OK {
			l = append(l, x)
		}
	}
	return l
}

// TestFirstError replaces what follows behind the part with the error.
func TestFirstError(t *testing.T) {
	r := rand.New(rand.NewSource(4))
	kinds := [3]int{}
	for range 4000 {
		x := changed(r, randomTable(r))
		i, e := validate.Check(x)
		if e == api.OK {
			continue
		}
		for range 3 {
			y, kind := behind(r, x, i)
			kinds[kind]++
			if j, f := validate.Check(y); j != i || f != e {
				t.Fatalf("P13.3: %s has the error %d at %d, and with other parts behind it, %s has the error %d at %d", show(x), e, i, show(y), f, j)
			}
		}
	}
	if slices.Min(kinds[:]) < 300 {
		t.Errorf("%v errors", kinds)
	}
}

// behind returns a table with the same parts up to an index and others behind it, and the kind of the part at the index.
func behind(r *rand.Rand, x api.Table, index int) (api.Table, int) {
	other := changed(r, randomTable(r))
	keep := func(n, most int) int { return min(n, most) }
	locales := keep(index+1, len(x.Locales))
	aliases := keep(max(0, index+1-len(x.Locales)), len(x.Aliases))
	near := max(0, index+1-len(x.Locales)-len(x.Aliases))
	y := api.Table{Locales: slices.Clone(x.Locales[:locales]), Aliases: slices.Clone(x.Aliases[:aliases]), Near: slices.Clone(x.Near[:near])}
	kind := 0
	switch {
	case near > 0:
		kind = 2
	case aliases > 0:
		kind = 1
	}
	if kind == 0 {
		y.Locales = append(y.Locales, other.Locales[r.Intn(len(other.Locales)+1):]...)
	}
	if kind < 2 {
		y.Aliases = append(y.Aliases, other.Aliases...)
	}
	y.Near = append(y.Near, other.Near[r.Intn(len(other.Near)+1):]...)
	return y, kind
}

// TestClasses counts the rules that hold for a number, in tables without an error.
func TestClasses(t *testing.T) {
	r := rand.New(rand.NewSource(5))
	overlaps := 0
	for range 3000 {
		x := api.Table{Locales: []api.Locale{root()}}
		for _, list := range []*[]api.Rule{&x.Locales[0].Cardinal, &x.Locales[0].Ordinal} {
			*list = rules(someOf(r, slices.Concat(oneOf(r, disjoint)[:1], oneOf(r, disjoint)[:1], someOf(r, oneOf(r, disjoint)[:1])))...)
		}
		_, e := validate.Check(x)
		for _, l := range x.Locales {
			if count := max(most(l.Cardinal), most(l.Ordinal)); (count > 1) != (e == api.ErrOverlap) {
				t.Fatalf("P13.5: %s has the error %d, and up to %d rules hold for a number", show(x), e, count)
			}
		}
		if e != api.OK {
			overlaps++
		}
	}
	for _, x := range append(randomTables(r, 500), table.Sample()) {
		_, e := validate.Check(x)
		for _, l := range x.Locales {
			if most(l.Cardinal) > 1 || most(l.Ordinal) > 1 || e != api.OK {
				t.Fatalf("P13.5: two rules of %s hold for a number", show(x))
			}
		}
	}
	if overlaps < 300 || overlaps > 2700 {
		t.Errorf("%d tables with overlaps", overlaps)
	}
}
