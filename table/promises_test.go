package table_test

import (
	"fmt"
	"math/rand"
	"slices"
	"strings"
	"testing"

	"calque/api"
	"calque/table"
)

func TestInverse(t *testing.T) {
	for _, s := range []string{
		"", "alias a b;", " near a b 3;#", "locale a{}", whole, `locale a { cardinal one " n=1..1 or\tv=0"; }`,
		`locale a { months "\x41" "\u00e4" "\=" "a	b" "\n" "" "" "" "" "" "" ""; direction ltr; }`, `near b a 0; alias x y; locale q { } alias x z;`,
	} {
		first := parse(s)
		text, e := table.Print(first.table)
		second := parse(text)
		again, _ := table.Print(second.table)
		if first.e != api.OK || e != api.OK || !second.equals(first) || again != text {
			t.Errorf("P12.2: %q is printed as %q with error %d, and then as %q", s, text, e, again)
		}
	}
	r := rand.New(rand.NewSource(2))
	for range 2000 {
		x := randomTable(r)
		text, e := table.Print(x)
		if e != api.OK && len(textOf(x)) <= 200000 {
			t.Fatalf("P12.2: Print(%s) has the error %d", show(x), e)
		}
		if back := parse(text); e == api.OK && (!back.equals(result{table: x}) || !table.Equal(back.table, x)) {
			t.Fatalf("P12.2: %s is printed as %.3000q, and read as %s at %d with error %d", show(x), text, show(back.table), back.at, back.e)
		}
	}
}

// TestTablesBehindEachOther joins the texts of two tables.
func TestTablesBehindEachOther(t *testing.T) {
	r := rand.New(rand.NewSource(3))
	ends := []string{"", " ", "#", " # }", "\n", "\r"}
	for range 2000 {
		x, y := randomTable(r), randomTable(r)
		first, second := exchanged(r, x)+oneOf(r, ends), oneOf(r, ends[4:])+exchanged(r, y)
		want := api.Table{Locales: slices.Concat(x.Locales, y.Locales), Aliases: slices.Concat(x.Aliases, y.Aliases), Near: slices.Concat(x.Near, y.Near)}
		got := parse(first + "\n" + second)
		if len(first)+1+len(second) > 200000 {
			continue
		}
		if !got.equals(result{table: want}) {
			t.Fatalf("P12.3: %.3000q and %.3000q are read as %s at %d with error %d", first, second, show(got.table), got.at, got.e)
		}
	}
}

func TestTooManyBehindEachOther(t *testing.T) {
	for _, c := range []struct {
		s    string
		most int
	}{{"locale a { direction ltr; }", 60}, {"alias a b;", 200}, {"near a b 1;", 200}} {
		for _, n := range []int{0, 1, c.most / 2, c.most - 1, c.most} {
			first, second := strings.Repeat(c.s, n), strings.Repeat(c.s, c.most-n)
			got := check(t, first+"\n"+second)
			if len(got.table.Locales)+len(got.table.Aliases)+len(got.table.Near) != c.most {
				t.Errorf("P12.3: %d and %d times %s: at %d with error %d", n, c.most-n, c.s, got.at, got.e)
			}
			more := "alias x y; near x y 1; locale x {}"
			text := first + "\n" + second + c.s
			got = check(t, first+"\n"+second+c.s+more)
			if !got.equals(result{at: len(text) - len(c.s), e: api.ErrLimit}) {
				t.Errorf("P12.3: %d and %d times %s: at %d with error %d", n, c.most-n+1, c.s, got.at, got.e)
			}
		}
	}
}

// TestExchanged reads texts with another order of items and parts of different kinds.
func TestExchanged(t *testing.T) {
	r := rand.New(rand.NewSource(4))
	for range 1000 {
		x := randomTable(r)
		for range 3 {
			s := exchanged(r, x)
			if len(s) > 200000 {
				continue
			}
			if got := parse(s); !got.equals(result{table: x}) {
				t.Fatalf("P12.4: %s has the text %.3000q, which is read as %s at %d with error %d", show(x), s, show(got.table), got.at, got.e)
			}
		}
	}
}

// TestTwoExchanged puts each item of a locale in front of each other one.
func TestTwoExchanged(t *testing.T) {
	items := itemsOf(full().Locales[0])
	read := func() result {
		return parse("near a b 1; locale en parent und { " + strings.Join(items, ";") + "; } alias c d;")
	}
	want := read()
	for i := range items {
		for j := range i {
			a, _, _ := strings.Cut(items[i], " ")
			b, _, _ := strings.Cut(items[j], " ")
			items[i], items[j] = items[j], items[i]
			// The order of two items of one kind counts.
			changes := a == b
			for _, s := range items[j+1 : i] {
				between, _, _ := strings.Cut(s, " ")
				changes = changes || between == a || between == b
			}
			if got := read(); want.e != api.OK || got.e != api.OK || got.equals(want) == changes {
				t.Errorf("P12.4: with %s and %s exchanged, the table is %s at %d with error %d", a, b, show(got.table), got.at, got.e)
			}
			items[i], items[j] = items[j], items[i]
		}
	}
}

// names returns names that are one letter with numbers behind it.
func names(letter string, count int) []string {
	var l []string
	for i := range count {
		l = append(l, letter+fmt.Sprintf("%0*d", len(fmt.Sprint(count)), i+1))
	}
	return l
}

// rules returns rules from pairs of a class and a condition.
func rules(pairs ...string) (l []api.Rule) {
	for i := 0; i < len(pairs); i += 2 {
		l = append(l, api.Rule{Class: pairs[i], Cond: cond(pairs[i+1])})
	}
	return l
}

// four returns a list pattern from its parts.
func four(style, two, start, end string) api.ListPattern {
	return api.ListPattern{Style: style, Two: two, Start: start, Middle: start, End: end}
}

// sampleTable is the table that the chapter shows.
func sampleTable() api.Table {
	english := strings.Fields("January February March April May June July August September October November December")
	week := strings.Fields("Monday Tuesday Wednesday Thursday Friday Saturday Sunday")
	return api.Table{
		Locales: []api.Locale{{
			Tag: "und", Direction: "ltr", Symbols: api.Symbols{Decimal: ".", Group: ",", Minus: "-", Percent: "%", Primary: 3, Secondary: 3},
			Lists:  []api.ListPattern{four("and", "{0}, {1}", "{0}, {1}", "{0}, {1}"), four("or", "{0} / {1}", "{0} / {1}", "{0} / {1}")},
			Units:  []api.UnitPattern{{Unit: "km", Class: "other", Pattern: "{0} km"}, {Unit: "day", Class: "other", Pattern: "{0} d"}},
			Dates:  []api.DatePattern{{Skeleton: "yMd", Pattern: "y-MM-dd"}, {Skeleton: "yMMMd", Pattern: "y MMM d"}},
			Months: names("M", 12), Days: names("D", 7),
		}, {
			Tag: "en", Parent: "und", Cardinal: rules("one", "i = 1 and v = 0"),
			Ordinal: rules("one", "n % 10 = 1 and n % 100 != 11", "two", "n % 10 = 2 and n % 100 != 12", "few", "n % 10 = 3 and n % 100 != 13"),
			Lists:   []api.ListPattern{four("and", "{0} and {1}", "{0}, {1}", "{0}, and {1}"), four("or", "{0} or {1}", "{0}, {1}", "{0}, or {1}")},
			Units:   []api.UnitPattern{{Unit: "day", Class: "one", Pattern: "{0} day"}, {Unit: "day", Class: "other", Pattern: "{0} days"}},
			Dates:   []api.DatePattern{{Skeleton: "yMMMd", Pattern: "MMM d, y"}, {Skeleton: "yMMMEd", Pattern: "E, MMM d, y"}},
			Months:  english, Days: week,
		}, {
			Tag: "en-GB", Parent: "en", Lists: []api.ListPattern{four("and", "{0} and {1}", "{0}, {1}", "{0} and {1}")},
			Dates: []api.DatePattern{{Skeleton: "yMd", Pattern: "dd/MM/y"}, {Skeleton: "yMMMd", Pattern: "d MMM y"}},
		}, {
			Tag: "pl", Parent: "und",
			Cardinal: rules("one", "i = 1 and v = 0", "few", "v = 0 and i % 10 = 2..4 and i % 100 != 12..14", "many", "v = 0 and i != 1 and i % 10 = 0,1,5..9 or v = 0 and i % 100 = 12..14"),
			Symbols:  api.Symbols{Decimal: ",", Group: " ", Minus: "-", Percent: "%", Primary: 3, Secondary: 3},
			Lists:    []api.ListPattern{four("and", "{0} i {1}", "{0}, {1}", "{0} i {1}")},
			Units:    []api.UnitPattern{{Unit: "day", Class: "one", Pattern: "{0} dzien"}, {Unit: "day", Class: "few", Pattern: "{0} dni"}, {Unit: "day", Class: "many", Pattern: "{0} dni"}, {Unit: "day", Class: "other", Pattern: "{0} dnia"}},
			Dates:    []api.DatePattern{{Skeleton: "yMd", Pattern: "d.MM.y"}},
		}, {
			Tag: "ar", Parent: "und", Direction: "rtl",
			Cardinal: rules("zero", "n = 0", "one", "n = 1", "two", "n = 2", "few", "n % 100 = 3..10", "many", "n % 100 = 11..99"),
			Symbols:  api.Symbols{Decimal: ".", Minus: "-", Percent: "%"},
			Lists:    []api.ListPattern{four("and", `{0} \ {1}`, `{0} \ {1}`, `{0} \ {1}`)},
		}, {
			Tag: "ja", Parent: "und", Symbols: api.Symbols{Decimal: ".", Group: ",", Minus: "-", Percent: "%", Primary: 4, Secondary: 4},
			Units: []api.UnitPattern{{Unit: "day", Class: "other", Pattern: "{0}\u65e5"}},
			Dates: []api.DatePattern{{Skeleton: "yMMMd", Pattern: "y\u5e74M\u6708d\u65e5"}},
		}},
		Aliases: []api.Alias{{From: "iw", To: "he"}, {From: "in", To: "id"}, {From: "no", To: "nb"}},
		Near:    []api.Near{{From: "ar", To: "he", Cost: 80}, {From: "en", To: "pl", Cost: 60}, {From: "GB", To: "US", Cost: 5}},
	}
}

func TestSample(t *testing.T) {
	x := table.Sample()
	if want := sampleTable(); !same(x, want) || !table.Equal(x, want) {
		t.Errorf("P12.5: the sample table is %+v, want %+v", x, want)
	}
	if !table.Valid(x) {
		t.Error("P12.5: the sample table is not valid")
	}
	text, e := table.Print(x)
	if text != textOf(sampleTable()) || e != api.OK || strings.Count(text, "\n") != 64 || !strings.HasSuffix(text, "\t"+`date yMMMd "y年M月d日";`+"\n}\nalias iw he;\nalias in id;\nalias no nb;\nnear ar he 80;\nnear en pl 60;\nnear GB US 5;\n") {
		t.Errorf("P12.5: the sample table has the text %q with error %d", text, e)
	}
	x.Locales[1].Months[0], x.Locales[0].Tag, x.Aliases[0].To = "", "", ""
	x.Locales[3].Cardinal[0].Cond[0][0].Spans[0].From = 0
	if !same(table.Sample(), sampleTable()) {
		t.Error("P12.5: a change of the sample table changes the next one")
	}
}
