package validate_test

import (
	"fmt"
	"slices"
	"strings"
	"testing"

	"calque/api"
	"calque/table"
	"calque/validate"
)

// root returns a root that has only what it must have.
func root() api.Locale {
	return api.Locale{
		Tag: "und", Direction: "ltr", Symbols: api.Symbols{Decimal: "."},
		Lists:  []api.ListPattern{{Style: "and", Two: "{0}{1}", Start: "{1}{0}", Middle: "{0} {1}", End: "{0}, {1}"}},
		Dates:  []api.DatePattern{{Skeleton: "y", Pattern: "y"}},
		Months: make([]string, 12), Days: make([]string, 7),
	}
}

// full returns a table without an error that has several parts of each kind.
func full() api.Table {
	second := root()
	second.Tag, second.Parent, second.Cardinal, second.Ordinal = "en", "und", rules("n = 1", "n = 2"), rules("n = 2", "n = 3")
	second.Units = []api.UnitPattern{{Unit: "km", Class: "one", Pattern: "{0}"}, {Unit: "km", Class: "other", Pattern: "{0}"}}
	return api.Table{
		Locales: []api.Locale{root(), second, {Tag: "de", Parent: "en"}, {Tag: "pl", Parent: "und"}, {Tag: "fr", Parent: "de"}},
		Aliases: []api.Alias{{From: "a", To: "b"}, {From: "b", To: "c"}, {From: "d", To: "a"}, {From: "x", To: "c"}},
		Near:    []api.Near{{From: "a", To: "b", Cost: 1}, {From: "b", To: "c", Cost: 1}, {From: "c", To: "a", Cost: 0}},
	}
}

func TestTables(t *testing.T) {
	for _, c := range []struct {
		name  string
		x     api.Table
		index int
		e     api.Errno
	}{
		{"nothing", api.Table{}, 0, api.ErrData},
		{"empty lists", api.Table{Locales: []api.Locale{}, Aliases: []api.Alias{}, Near: []api.Near{}}, 0, api.ErrData},
		{"no locales, and wrong aliases", api.Table{Aliases: []api.Alias{{From: "a", To: "a"}}, Near: []api.Near{{From: "a", To: "a"}}}, 0, api.ErrData},
		{"no locales, and not valid", api.Table{Near: []api.Near{{From: "a", To: "b", Cost: -1}}}, 0, api.ErrArg},
		{"only a root", api.Table{Locales: []api.Locale{root()}}, 0, api.OK},
		{"full", full(), 0, api.OK},
		{"example", api.Table{Locales: []api.Locale{root(), {Tag: "en", Parent: "de"}}}, 1, api.ErrUnknown},
		{"not valid behind an error", api.Table{Locales: []api.Locale{{Tag: "en"}, {Tag: ""}}}, 0, api.ErrArg},
	} {
		expect(t, c.name, c.x, c.index, c.e)
		check(t, c.name, c.x)
	}
}

// TestNotValid looks at tables that layer 12 does not permit, for all kinds of parts.
func TestNotValid(t *testing.T) {
	for i, change := range []func(x *api.Table){
		func(x *api.Table) { x.Locales[4].Tag = "a b" },
		func(x *api.Table) { x.Locales[0].Parent = "a b" },
		func(x *api.Table) { x.Locales[0].Direction = "up" },
		func(x *api.Table) { x.Locales[1].Cardinal[0].Class = "other" },
		func(x *api.Table) { x.Locales[1].Ordinal[1].Class = x.Locales[1].Ordinal[0].Class },
		func(x *api.Table) { x.Locales[1].Cardinal[0].Cond = nil },
		func(x *api.Table) { x.Locales[0].Symbols = api.Symbols{Group: ","} },
		func(x *api.Table) { x.Locales[0].Lists = append(x.Locales[0].Lists, x.Locales[0].Lists...) },
		func(x *api.Table) { x.Locales[1].Units[0].Class = "other" },
		func(x *api.Table) { x.Locales[0].Dates[0].Skeleton = "" },
		func(x *api.Table) { x.Locales[0].Months = x.Locales[0].Months[:11] },
		func(x *api.Table) { x.Locales[0].Days = append(x.Locales[0].Days, "") },
		func(x *api.Table) { x.Aliases[3].To = "" },
		func(x *api.Table) { x.Near[2].Cost = 1001 },
		func(x *api.Table) { x.Locales = slices.Repeat(x.Locales, 13) },
		func(x *api.Table) { x.Aliases = slices.Repeat(x.Aliases, 51) },
		func(x *api.Table) { x.Near = slices.Repeat(x.Near, 67) },
	} {
		x := full()
		change(&x)
		expect(t, fmt.Sprintf("not valid (%d)", i), x, 0, api.ErrArg)
		x.Locales[0].Tag = "en"
		expect(t, fmt.Sprintf("not valid (%d), and a wrong tag", i), x, 0, api.ErrArg)
	}
}

// TestPlaces looks at tags and parents.
func TestPlaces(t *testing.T) {
	for _, c := range []struct {
		locales string // tags with parents behind slashes
		index   int
		e       api.Errno
	}{
		{"und", 0, api.OK}, {"en", 0, api.ErrData}, {"Und", 0, api.ErrData}, {"und-US", 0, api.ErrData}, {"und/und", 0, api.ErrData}, {"und/en", 0, api.ErrData}, {"und/en en/und", 0, api.ErrData}, {"en/und", 0, api.ErrData}, {"en und", 0, api.ErrData},
		{"und en", 1, api.ErrData}, {"und en/und de", 2, api.ErrData}, {"und und", 1, api.ErrData}, {"und en/und en", 2, api.ErrData},
		{"und und/und", 1, api.ErrDuplicate}, {"und en/und en/und", 2, api.ErrDuplicate}, {"und en/und de/und en/de", 3, api.ErrDuplicate}, {"und en/und und/en", 2, api.ErrDuplicate}, {"und en/und en/fr", 2, api.ErrDuplicate}, {"und und/fr", 1, api.ErrDuplicate}, {"und a/und b/und b/und", 3, api.ErrDuplicate},
		{"und en/und EN/und En/EN", 0, api.OK}, {"und en/und en-US/en en-GB/en-US", 0, api.OK}, {"und a/und b/a c/b d/a", 0, api.OK},
		{"und en/de", 1, api.ErrUnknown}, {"und en/en", 1, api.ErrUnknown}, {"und en/de de/und", 1, api.ErrUnknown}, {"und en/UND", 1, api.ErrUnknown}, {"und en/und de/EN", 2, api.ErrUnknown}, {"und en-US/en", 1, api.ErrUnknown}, {"und en/und de/und fr/de x/y", 4, api.ErrUnknown}, {"und en/und de/d", 2, api.ErrUnknown}, {"und en/und e/en-", 2, api.ErrUnknown},
	} {
		var x api.Table
		for _, s := range strings.Fields(c.locales) {
			l := root()
			l.Tag, l.Parent, _ = strings.Cut(s, "/")
			x.Locales = append(x.Locales, l)
		}
		expect(t, c.locales, x, c.index, c.e)
		check(t, c.locales, x)
	}
}

// TestOverlaps looks at rules at all places of a list, in all locales, cardinal and ordinal.
func TestOverlaps(t *testing.T) {
	separate := []string{"n = 10", "n = 20", "n = 30", "n = 40", "n = 50"}
	for i := range 5 {
		for j := range i {
			for _, c := range [][2]string{{"n = 1", "n = 1,2"}, {"n % 10 = 1", "n % 100 = 11"}, {"t = 5", "f = 50"}, {"i % 100 = 99 and v = 3", "f % 100 = 98 and n != 1"}, {"v = 6 and f = 99", "w = 6"}, {"n % 25 = 24", "n % 4 = 1 and n % 3 = 1"}} {
				texts := slices.Clone(separate)
				texts[i], texts[j] = c[0], c[1]
				for k := range 5 {
					x := full()
					x.Locales[k].Cardinal = rules(texts...)
					expect(t, "cardinal", x, k, api.ErrOverlap)
					x.Locales[k].Cardinal, x.Locales[k].Ordinal = rules(separate...), rules(texts...)
					expect(t, "ordinal", x, k, api.ErrOverlap)
				}
			}
		}
	}
	for _, texts := range [][]string{separate, {}, {"n = 1"}, {"n % 10 = 1", "n % 10 = 2"}, {"v = 0", "v = 1", "v = 2", "v != 0..2"}, {"n = 1 and n = 2", "n = 1"}, {"w = 0 and v != 0", "n = 1 and v = 0"}} {
		x := full()
		x.Locales[1].Cardinal, x.Locales[1].Ordinal = rules(texts...), rules(texts...)
		expect(t, "the same rules for both", x, 0, api.OK)
	}
	x := full()
	x.Locales[1].Cardinal, x.Locales[2].Cardinal, x.Locales[2].Ordinal = rules("n = 1"), rules("n = 1"), rules("n = 1")
	expect(t, "overlaps of different lists", x, 0, api.OK)
}

// TestForms puts a wrong pattern at each place of a locale.
func TestForms(t *testing.T) {
	for i, change := range []func(l *api.Locale){
		func(l *api.Locale) { l.Lists[0].Two = "{0}" },
		func(l *api.Locale) { l.Lists[0].Start = "{0}{1}{2}" },
		func(l *api.Locale) { l.Lists[0].Middle = "{0}{1}{" },
		func(l *api.Locale) { l.Lists[0].End = "" },
		func(l *api.Locale) { l.Lists[1].Two = "{1}{1}" },
		func(l *api.Locale) { l.Lists[1].Start = "{1}{2}" },
		func(l *api.Locale) { l.Lists[1].Middle = "" },
		func(l *api.Locale) { l.Lists[1].End = "{0}{1}{1}" },
		func(l *api.Locale) { l.Units[0].Pattern = "" },
		func(l *api.Locale) { l.Units[0].Pattern = "{0}{1}" },
		func(l *api.Locale) { l.Units[1].Pattern = "{1}" },
		func(l *api.Locale) { l.Units[2].Pattern = "{0}{0}" },
		func(l *api.Locale) { l.Dates[0].Skeleton = "ym" },
		func(l *api.Locale) { l.Dates[0].Skeleton, l.Dates[0].Pattern = "dy", "d y" },
		func(l *api.Locale) { l.Dates[0].Pattern = "" },
		func(l *api.Locale) { l.Dates[1].Pattern = "y M d" },
		func(l *api.Locale) { l.Dates[1].Pattern = "yM" },
	} {
		for k := range 5 {
			x := full()
			l := &x.Locales[k]
			l.Lists = slices.Clone(root().Lists)
			l.Lists = append(l.Lists, l.Lists[0])
			l.Lists[1].Style = "or"
			l.Units = []api.UnitPattern{{Unit: "km", Class: "one", Pattern: "{0}"}, {Unit: "km", Class: "other", Pattern: "a{0}"}, {Unit: "m", Class: "other", Pattern: "{0}a"}}
			l.Dates = []api.DatePattern{{Skeleton: "y", Pattern: "y"}, {Skeleton: "yM", Pattern: "M y"}}
			check(t, "before the change", x)
			change(l)
			expect(t, fmt.Sprintf("pattern %d", i), x, k, api.ErrForm)
		}
	}
}

// TestOther looks at units with and without a pattern for the class other.
func TestOther(t *testing.T) {
	for _, c := range []struct {
		units string // units with classes behind slashes
		e     api.Errno
	}{
		{"", api.OK}, {"km/other", api.OK}, {"km/one km/other", api.OK}, {"km/other km/one km/few", api.OK}, {"m/other km/other m/one km/two", api.OK}, {"m/one km/one km/other m/other", api.OK},
		{"km/one", api.ErrOther}, {"km/one km/two km/few km/many km/zero", api.ErrOther}, {"km/one m/other", api.ErrOther}, {"m/other km/one", api.ErrOther}, {"m/one km/one km/other", api.ErrOther}, {"km/other KM/one", api.ErrOther}, {"m/other km/other m/one x/two", api.ErrOther}, {"other/one one/other", api.ErrOther},
	} {
		for k := range 5 {
			x := full()
			x.Locales[k].Units = nil
			for _, s := range strings.Fields(c.units) {
				unit, class, _ := strings.Cut(s, "/")
				x.Locales[k].Units = append(x.Locales[k].Units, api.UnitPattern{Unit: unit, Class: class, Pattern: "{0}"})
			}
			index := k
			if c.e == api.OK {
				index = 0
			}
			expect(t, c.units, x, index, c.e)
		}
	}
}

// missing returns changes of a locale, by which something is missing that only the root must have.
func missing() map[string]func(l *api.Locale) {
	return map[string]func(l *api.Locale){
		"direction": func(l *api.Locale) { l.Direction = "" },
		"symbols":   func(l *api.Locale) { l.Symbols = api.Symbols{} },
		"lists":     func(l *api.Locale) { l.Lists = nil },
		"dates":     func(l *api.Locale) { l.Dates = []api.DatePattern{} },
		"months":    func(l *api.Locale) { l.Months = nil },
		"days":      func(l *api.Locale) { l.Days = []string{} },
	}
}

func TestRoot(t *testing.T) {
	for name, change := range missing() {
		x := full()
		change(&x.Locales[0])
		expect(t, "root without "+name, x, 0, api.ErrData)
		x = full()
		for i := range x.Locales[1:] {
			change(&x.Locales[1+i])
		}
		expect(t, "no locale but the root with "+name, x, 0, api.OK)
	}
	x := full()
	x.Locales[0].Cardinal, x.Locales[0].Ordinal, x.Locales[0].Units = rules("n = 1"), rules("n = 2"), []api.UnitPattern{{Unit: "m", Class: "other", Pattern: "{0}"}}
	expect(t, "root with what it need not have", x, 0, api.OK)
	x.Locales[0].Direction, x.Locales[0].Months = "rtl", strings.Fields("1 2 3 4 5 6 7 8 9 10 11 12")
	expect(t, "root with other data", x, 0, api.OK)
}

// TestAliases looks at lists of aliases.
func TestAliases(t *testing.T) {
	for _, c := range []struct {
		aliases string // from, to
		index   int    // among the aliases
		e       api.Errno
	}{
		{"", 0, api.OK}, {"a b", 0, api.OK}, {"a b c b", 0, api.OK}, {"a b b c", 0, api.OK}, {"b c a b", 0, api.OK}, {"a b b c c d d e", 0, api.OK}, {"d e c d b c a b", 0, api.OK}, {"c d a b b c", 0, api.OK}, {"a A A B", 0, api.OK}, {"b c a c d c x b y a", 0, api.OK},
		{"a a", 0, api.ErrCycle}, {"a b b b", 1, api.ErrCycle}, {"a b b a", 1, api.ErrCycle}, {"a b b c c a", 2, api.ErrCycle}, {"b c a b c a", 2, api.ErrCycle}, {"c a b c a b", 2, api.ErrCycle}, {"a b b c c b", 2, api.ErrCycle}, {"x a a b b c c a", 3, api.ErrCycle}, {"a b c d e f d a b e f c", 5, api.ErrCycle},
		{"a b a b", 1, api.ErrDuplicate}, {"a b a c", 1, api.ErrDuplicate}, {"a b b c a c", 2, api.ErrDuplicate}, {"a b c d a c", 2, api.ErrDuplicate}, {"a b c b d b c a", 3, api.ErrDuplicate}, {"a b x y x a", 2, api.ErrDuplicate},
		{"a b a a", 1, api.ErrCycle}, {"a b c a a c", 2, api.ErrCycle}, {"a b b c b a", 2, api.ErrCycle}, {"a b c a d c a d", 3, api.ErrCycle}, {"a b b c x a a x", 3, api.ErrCycle},
		{"a b a b c c", 1, api.ErrDuplicate}, {"c c a b a b", 0, api.ErrCycle}, {"a b a c c a", 1, api.ErrDuplicate},
	} {
		x := full()
		x.Aliases = nil
		names := strings.Fields(c.aliases)
		for i := 0; i < len(names); i += 2 {
			x.Aliases = append(x.Aliases, api.Alias{From: names[i], To: names[i+1]})
		}
		index := 0
		if c.e != api.OK {
			index = 5 + c.index
		}
		expect(t, c.aliases, x, index, c.e)
		check(t, c.aliases, x)
	}
}

// lengthened checks a table and, as long as it has no error, those with one more part, and counts the errors.
func lengthened(t *testing.T, x api.Table, left int, longer []func(x *api.Table), counts map[api.Errno]int) {
	e := check(t, "all lists", x)
	counts[e]++
	if left == 0 || e != api.OK || t.Failed() {
		return
	}
	for _, more := range longer {
		y := x
		more(&y)
		lengthened(t, y, left-1, longer, counts)
	}
}

// TestAllLists looks at all lists of at most four aliases, or near entries, between four names.
func TestAllLists(t *testing.T) {
	var aliases, near []func(x *api.Table)
	for i := range 16 {
		from, to := "abcd"[i%4:i%4+1], "abcd"[i/4:i/4+1]
		aliases = append(aliases, func(x *api.Table) {
			x.Aliases = append(slices.Clip(x.Aliases), api.Alias{From: from, To: to})
		})
		near = append(near, func(x *api.Table) {
			x.Near = append(slices.Clip(x.Near), api.Near{From: from, To: to, Cost: i * len(x.Near)})
		})
	}
	x := api.Table{Locales: []api.Locale{root()}}
	counts := map[api.Errno]int{}
	lengthened(t, x, 4, aliases, counts)
	if counts[api.OK] < 400 || counts[api.ErrCycle] < 1000 || counts[api.ErrDuplicate] < 1000 || len(counts) != 3 {
		t.Errorf("lists of aliases: %v", counts)
	}
	counts = map[api.Errno]int{}
	lengthened(t, x, 4, near, counts)
	if counts[api.OK] < 1000 || counts[api.ErrForm] < 500 || counts[api.ErrDuplicate] < 500 || len(counts) != 3 {
		t.Errorf("lists of near entries: %v", counts)
	}
}

// TestLongLists looks at tables with as many parts as there may be, the last of which closes a cycle or is there twice.
func TestLongLists(t *testing.T) {
	name := func(i int) string { return fmt.Sprintf("n%d", i) }
	x := api.Table{Locales: []api.Locale{root()}}
	for i := range 59 {
		x.Locales = append(x.Locales, api.Locale{Tag: name(i), Parent: x.Locales[i].Tag})
	}
	for i := range 200 {
		x.Aliases = append(x.Aliases, api.Alias{From: name(i * 77 % 200), To: name(i*77%200 + 1)})
		x.Near = append(x.Near, api.Near{From: name(i), To: name(i + 1)})
	}
	expect(t, "long lists", x, 0, api.OK)
	for i, change := range []func(x *api.Table){
		func(x *api.Table) { x.Near[199] = api.Near{From: "n1", To: "n0"} },
		func(x *api.Table) { x.Near[199].To = x.Near[199].From },
		func(x *api.Table) { x.Near[0].To = "n0"; x.Near[199] = x.Near[3] },
		func(x *api.Table) { x.Aliases[199].From = x.Aliases[0].From },
		func(x *api.Table) { x.Aliases[199].To = x.Aliases[199].From },
		func(x *api.Table) { x.Aliases[0].To = x.Aliases[0].From },
		func(x *api.Table) { x.Locales[59].Parent = name(58) },
		func(x *api.Table) { x.Locales[59].Tag = "und" },
	} {
		y := copyOf(x)
		change(&y)
		e := []api.Errno{api.ErrDuplicate, api.ErrForm, api.ErrForm, api.ErrDuplicate, api.ErrCycle, api.ErrCycle, api.ErrUnknown, api.ErrDuplicate}[i]
		expect(t, fmt.Sprintf("long lists (%d)", i), y, []int{459, 459, 260, 259, 259, 60, 59, 59}[i], e)
	}
	for i := range 200 {
		y := copyOf(x)
		for j := range y.Aliases {
			if y.Aliases[j].From == name(199) {
				y.Aliases[j].To = name(i)
				expect(t, "a cycle of many steps", y, 60+max(j, last(y.Aliases, i)), api.ErrCycle)
			}
		}
	}
}

// last returns the index of the last alias that is one of the steps between the names of a number and a greater one.
func last(aliases []api.Alias, number int) int {
	at := 0
	for i, a := range aliases {
		var from int
		fmt.Sscanf(a.From, "n%d", &from)
		if from >= number {
			at = i
		}
	}
	return at
}

func TestSample(t *testing.T) {
	if i, e := validate.Check(table.Sample()); i != 0 || e != api.OK {
		t.Errorf("P13.4: the sample table has the error %d at %d", e, i)
	}
	check(t, "sample", table.Sample())
}
