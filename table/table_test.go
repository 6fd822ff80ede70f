package table_test

import (
	"math"
	"math/rand"
	"reflect"
	"slices"
	"strings"
	"testing"

	"calque/api"
	"calque/table"
)

// full returns a valid table that has something everywhere.
func full() api.Table {
	l := api.Locale{
		Tag: "en", Parent: "und", Direction: "rtl",
		Cardinal: []api.Rule{{Class: "one", Cond: cond("n = 1 and v = 0 or t % 10 != 2..3,5")}, {Class: "two", Cond: cond("n = 2")}},
		Ordinal:  []api.Rule{{Class: "zero", Cond: cond("i = 0")}, {Class: "few", Cond: cond("i = 3")}},
		Symbols:  api.Symbols{Decimal: ".", Group: ",", Minus: "-", Percent: "%", Primary: 3, Secondary: 2},
		Lists:    []api.ListPattern{{Style: "and", Two: "1", Start: "2", Middle: "3", End: "4"}, {Style: "or", Two: "5", Start: "6", Middle: "7", End: "8"}},
		Units:    []api.UnitPattern{{Unit: "km", Class: "other", Pattern: "{0} km"}, {Unit: "km", Class: "many", Pattern: "{0}"}},
		Dates:    []api.DatePattern{{Skeleton: "yMd", Pattern: "d.M.y"}, {Skeleton: "yMMMd", Pattern: "d. MMM y"}},
		Months:   []string{"1", "2", "3", "4", "5", "6", "7", "8", "9", "10", "11", "12"},
		Days:     []string{"a", "b", "c", "d", "e", "f", "g"},
	}
	second := copyOf(l)
	second.Tag, second.Parent, second.Direction = "pl", "en", "ltr"
	return api.Table{
		Locales: []api.Locale{l, second},
		Aliases: []api.Alias{{From: "iw", To: "he"}, {From: "no", To: "nb"}},
		Near:    []api.Near{{From: "ar", To: "he", Cost: 80}, {From: "GB", To: "US", Cost: 0}},
	}
}

const fullText = `locale en parent und {
	direction rtl;
	cardinal one "n = 1 and v = 0 or t % 10 != 2..3,5";
	cardinal two "n = 2";
	ordinal zero "i = 0";
	ordinal few "i = 3";
	symbols "." "," "-" "%" 3 2;
	list and "1" "2" "3" "4";
	list or "5" "6" "7" "8";
	unit km other "{0} km";
	unit km many "{0}";
	date yMd "d.M.y";
	date yMMMd "d. MMM y";
	months "1" "2" "3" "4" "5" "6" "7" "8" "9" "10" "11" "12";
	days "a" "b" "c" "d" "e" "f" "g";
}
`

func TestPrint(t *testing.T) {
	both := fullText + strings.NewReplacer("locale en parent und", "locale pl parent en", "rtl", "ltr").Replace(fullText) + "alias iw he;\nalias no nb;\nnear ar he 80;\nnear GB US 0;\n"
	for _, c := range []struct {
		x    api.Table
		text string
	}{
		{api.Table{}, ""},
		{api.Table{Locales: []api.Locale{}, Aliases: []api.Alias{}, Near: []api.Near{}}, ""},
		{full(), both},
		{one(api.Locale{Tag: "und"}), "locale und {\n}\n"},
		{one(api.Locale{Tag: "parent", Parent: "locale"}), "locale parent parent locale {\n}\n"},
		{one(api.Locale{Tag: "a", Months: []string{}, Days: []string{}, Cardinal: []api.Rule{}, Lists: []api.ListPattern{}}), "locale a {\n}\n"},
		{one(api.Locale{Tag: "a", Symbols: api.Symbols{Decimal: " "}}), "locale a {\n\tsymbols \" \" \"\" \"\" \"\" 0 0;\n}\n"},
		{one(api.Locale{Tag: "a", Symbols: api.Symbols{Decimal: "\"", Group: "\\", Minus: "\n", Percent: "\x07日", Primary: 9, Secondary: 9}}), "locale a {\n\tsymbols \"\\\"\" \"\\\\\" \"\\n\" \"\\x07日\" 9 9;\n}\n"},
		{one(api.Locale{Tag: "a", Days: make([]string, 7)}), "locale a {\n\tdays \"\" \"\" \"\" \"\" \"\" \"\" \"\";\n}\n"},
		{api.Table{Near: []api.Near{{From: "a", To: "b", Cost: 1000}}, Aliases: []api.Alias{{From: "c", To: "d"}}}, "alias c d;\nnear a b 1000;\n"},
	} {
		if text, e := table.Print(c.x); text != c.text || e != api.OK {
			t.Errorf("P12.1: Print(%s): %q with error %d, want %q", show(c.x), text, e, c.text)
		}
		checkTable(t, c.x)
	}
}

// TestChangedFields puts good and bad values into each field of a table.
func TestChangedFields(t *testing.T) {
	words := []string{"x", "", "a b", "a.b", "é", "\xff", " a", "a\n", ";", "{", `"a"`, a(40), a(41), "-", "0"}
	texts := []string{"", "x", "{", `"\`, "\n\x00", a(400), a(401), strings.Repeat("é", 200), strings.Repeat("é", 200) + "a", "\xff", "a\xc3", "\xed\xa0\x80", a(400) + "\xff"}
	names := []string{"", "ltr", "rtl", "LTR", "up", "ltr ", "zero", "one", "two", "few", "many", "other", "One", "none", "\xff"}
	numbers := []int{0, 1, 8, 9, 10, 11, 999, 1000, 1001, 1000000, -1, -9, math.MaxInt, math.MinInt, 1 << 32, 1<<32 + 5}
	valid, rejected := 0, 0
	try := func(x api.Table) {
		checkTable(t, x)
		if isValid(x) {
			valid++
		} else {
			rejected++
		}
	}
	x := full()
	eachField(reflect.ValueOf(&x).Elem(), func(field reflect.Value) {
		before := reflect.ValueOf(copyOf(field.Interface()))
		switch field.Kind() {
		case reflect.String:
			for _, s := range slices.Concat(words, texts, names) {
				field.SetString(s)
				try(x)
			}
		case reflect.Int:
			for _, n := range numbers {
				field.SetInt(int64(n))
				try(x)
			}
		case reflect.Slice:
			for n := range before.Len() + 1 {
				field.Set(before.Slice(0, n))
				try(x)
				field.Set(reflect.AppendSlice(copyOfValue(before.Slice(0, n)), before.Slice(0, min(1, before.Len()))))
				try(x)
			}
			field.Set(reflect.Zero(field.Type()))
			try(x)
		}
		field.Set(before)
	})
	if !same(x, full()) || valid < 500 || rejected < 1000 {
		t.Errorf("%d valid tables, %d others", valid, rejected)
	}
}

// eachField calls a function with all fields and elements of a value, at any depth.
func eachField(v reflect.Value, f func(reflect.Value)) {
	switch v.Kind() {
	case reflect.Struct:
		for i := range v.NumField() {
			eachField(v.Field(i), f)
		}
		return
	case reflect.Slice:
		for i := range v.Len() {
			eachField(v.Index(i), f)
		}
	}
	f(v)
}

func TestSymbolsWithoutDecimal(t *testing.T) {
	for _, s := range []api.Symbols{{Group: ","}, {Minus: "-"}, {Percent: "%"}, {Primary: 1}, {Secondary: 1}, {Group: ",", Minus: "-", Percent: "%", Primary: 3, Secondary: 3}} {
		x := one(api.Locale{Tag: "a", Symbols: s})
		if text, e := table.Print(x); table.Valid(x) || text != "" || e != api.ErrArg {
			t.Errorf("P12.1: the symbols %+v are printed as %q with error %d", s, text, e)
		}
	}
}

// TestNumbersOfElements looks at tables with as many elements as there may be, and with one more.
func TestNumbersOfElements(t *testing.T) {
	for more := range 2 {
		l := api.Locale{Tag: "a"}
		var all []api.Table
		for i := range 10 + more {
			l.Lists = append(l.Lists, api.ListPattern{Style: "l" + string(rune('a'+i))})
		}
		all, l = append(all, one(l)), api.Locale{Tag: "a"}
		for i := range 100 + more {
			l.Units = append(l.Units, api.UnitPattern{Unit: a(1 + i%40), Class: append(classes, "other")[i/40]})
		}
		all, l = append(all, one(l)), api.Locale{Tag: "a"}
		for i := range 30 + more {
			l.Dates = append(l.Dates, api.DatePattern{Skeleton: a(1 + i)})
		}
		all = append(all, one(l),
			api.Table{Locales: slices.Repeat([]api.Locale{{Tag: "a"}}, 60+more)},
			api.Table{Aliases: slices.Repeat([]api.Alias{{From: "a", To: "b"}}, 200+more)},
			api.Table{Near: slices.Repeat([]api.Near{{From: "a", To: "b"}}, 200+more)})
		for i, x := range all {
			checkTable(t, x)
			if table.Valid(x) != (more == 0) {
				t.Errorf("P12.1: Valid is %v for the kind %d with %d more than permitted", more > 0, i, more)
			}
		}
	}
}

func TestMuchTooMany(t *testing.T) {
	l := full().Locales[0]
	for i, x := range []api.Table{
		{Locales: slices.Repeat([]api.Locale{l}, 100000)},
		{Aliases: slices.Repeat([]api.Alias{{From: "a", To: "b"}}, 1000000)},
		{Near: slices.Repeat([]api.Near{{From: "a", To: "b"}}, 1000000)},
		one(api.Locale{Tag: "a", Cardinal: slices.Repeat(l.Cardinal, 100000)}),
		one(api.Locale{Tag: "a", Ordinal: slices.Repeat(l.Ordinal, 100000)}),
		one(api.Locale{Tag: "a", Lists: slices.Repeat(l.Lists, 100000)}),
		one(api.Locale{Tag: "a", Units: slices.Repeat(l.Units, 100000)}),
		one(api.Locale{Tag: "a", Dates: slices.Repeat(l.Dates, 100000)}),
		one(api.Locale{Tag: "a", Months: make([]string, 1000000)}),
		one(api.Locale{Tag: "a", Days: make([]string, 1000000)}),
		one(api.Locale{Tag: a(10000000)}),
		one(api.Locale{Tag: "a", Dates: []api.DatePattern{{Skeleton: "y", Pattern: a(10000000)}}}),
	} {
		if text, e := table.Print(x); table.Valid(x) || text != "" || e != api.ErrArg {
			t.Errorf("P12.1: the large table %d is printed with %d bytes and error %d", i, len(text), e)
		}
	}
}

// TestPrintLimit prints tables whose texts have about as many bytes as a file may have.
func TestPrintLimit(t *testing.T) {
	x := api.Table{}
	for i := range 5 {
		l := api.Locale{Tag: a(1 + i)}
		for j := range 96 {
			l.Units = append(l.Units, api.UnitPattern{Unit: a(1 + j/6), Class: append(classes, "other")[j%6], Pattern: a(380)})
		}
		x.Locales = append(x.Locales, l)
	}
	size := len(textOf(x))
	for i := 0; size < 200010; i++ {
		pattern := &x.Locales[i%5].Units[i/5%96].Pattern
		for len(*pattern) < 400 {
			*pattern += "b"
			size++
			if size < 199990 {
				continue
			}
			checkTable(t, x)
			text, e := table.Print(x)
			if size <= 200000 && (len(text) != size || e != api.OK) || size > 200000 && (text != "" || e != api.ErrLimit) {
				t.Errorf("P12.1: a table with a text of %d bytes is printed with %d bytes and error %d", size, len(text), e)
			}
		}
	}
}

func TestPrintOfLongTables(t *testing.T) {
	x := api.Table{Locales: slices.Repeat(full().Locales[:1], 60)}
	for i := range x.Locales {
		for j := range x.Locales[i].Months {
			x.Locales[i].Months[j] = strings.Repeat("\x01", 100)
		}
	}
	checkTable(t, x)
	if _, e := table.Print(x); e != api.ErrLimit {
		t.Errorf("P12.1: a text that is long only because of its sequences: error %d", e)
	}
	x.Near = []api.Near{{From: "a", To: "b", Cost: 1001}}
	if _, e := table.Print(x); e != api.ErrArg {
		t.Errorf("P12.1: a table that is not valid and has a long text: error %d", e)
	}
}

func TestEqual(t *testing.T) {
	x, y := full(), full()
	if !table.Equal(x, y) || !table.Equal(api.Table{}, api.Table{}) || table.Equal(x, api.Table{}) || table.Equal(api.Table{}, x) {
		t.Error("P12.1: Equal of equal tables, or of one and an empty one")
	}
	fields := 0
	eachField(reflect.ValueOf(&y).Elem(), func(field reflect.Value) {
		before := reflect.ValueOf(copyOf(field.Interface()))
		differ := func() {
			fields++
			if table.Equal(x, y) || table.Equal(y, x) || !table.Equal(y, copyOf(y)) {
				t.Errorf("P12.1: Equal of tables with %v and %v", before, field)
			}
		}
		switch field.Kind() {
		case reflect.String:
			for _, s := range []string{before.String() + "x", strings.ToUpper(before.String()) + "\x00", "\xff"} {
				field.SetString(s)
				differ()
			}
		case reflect.Int:
			for _, d := range []int64{1, -1, 1 << 32} {
				field.SetInt(before.Int() + d)
				differ()
			}
		case reflect.Bool:
			field.SetBool(!before.Bool())
			differ()
		case reflect.Slice:
			field.Set(reflect.AppendSlice(copyOfValue(before), before.Slice(0, 1)))
			differ()
			field.Set(before.Slice(0, before.Len()-1))
			differ()
			field.Set(reflect.Zero(field.Type()))
			differ()
		}
		field.Set(before)
	})
	if fields < 300 || !table.Equal(x, y) {
		t.Errorf("%d changes", fields)
	}
}

func TestEqualLooksAtOrder(t *testing.T) {
	x := full()
	eachField(reflect.ValueOf(&x).Elem(), func(field reflect.Value) {
		if field.Kind() != reflect.Slice || field.Len() < 2 {
			return
		}
		reflect.Swapper(field.Interface())(0, 1)
		if table.Equal(x, full()) {
			t.Errorf("P12.1: Equal does not look at the order of %v", field)
		}
		reflect.Swapper(field.Interface())(0, 1)
	})
}

func TestEqualTakesEmptyAsNil(t *testing.T) {
	x := api.Table{Locales: []api.Locale{{Cardinal: []api.Rule{{}}}}}
	y := api.Table{Locales: []api.Locale{{Cardinal: []api.Rule{{Cond: api.Cond{}}}, Ordinal: []api.Rule{}, Lists: []api.ListPattern{}, Units: []api.UnitPattern{}, Dates: []api.DatePattern{}, Months: []string{}, Days: []string{}}}, Aliases: []api.Alias{}, Near: []api.Near{}}
	if !table.Equal(x, y) || !table.Equal(y, x) {
		t.Error("P12.1: Equal tells nil slices from empty ones")
	}
}

// places returns where the slices of a value begin and end, as far as there may be elements behind their ends.
func places(v reflect.Value) (all [][2]uintptr) {
	eachField(v, func(field reflect.Value) {
		if field.Kind() == reflect.Slice && field.Cap() > 0 {
			all = append(all, [2]uintptr{field.Pointer(), field.Pointer() + uintptr(field.Cap())*field.Type().Elem().Size()})
		}
	})
	slices.SortFunc(all, func(a, b [2]uintptr) int { return int(a[0]) - int(b[0]) })
	return all
}

func TestNewMemory(t *testing.T) {
	text := textOf(full())
	x, y := parse(text).table, parse(text).table
	sample, again := table.Sample(), table.Sample()
	both := []api.Table{x, y, sample, again}
	all := places(reflect.ValueOf(both))
	if len(all) < 100 {
		t.Errorf("only %d slices", len(all))
	}
	for i := range all[1:] {
		if all[i][1] > all[i+1][0] {
			t.Error("P12.1: two slices of results of Parse or Sample share memory")
		}
	}
}

// TestRandomTables looks at valid tables, and at ones with some fields changed.
func TestRandomTables(t *testing.T) {
	r := rand.New(rand.NewSource(1))
	valid := 0
	for range 3000 {
		x := randomTable(r)
		checkTable(t, x)
		if !isValid(x) {
			t.Fatalf("%s is not valid", show(x))
		}
		y := copyOf(x)
		var fields []reflect.Value
		eachField(reflect.ValueOf(&y).Elem(), func(field reflect.Value) { fields = append(fields, field) })
		spoil(r, oneOf(r, fields))
		checkTable(t, y)
		if isValid(y) {
			valid++
		}
		if table.Equal(x, y) != same(x, y) || table.Equal(y, x) != same(x, y) || !table.Equal(x, x) {
			t.Fatalf("P12.1: Equal of %s and %s: %v", show(x), show(y), !same(x, y))
		}
	}
	if valid < 300 {
		t.Errorf("only %d changed tables are valid", valid)
	}
}

// spoil changes a field.
func spoil(r *rand.Rand, field reflect.Value) {
	switch field.Kind() {
	case reflect.String:
		field.SetString(oneOf(r, []string{"", "x", "ltr", "one", "other", "a b", "\xff", a(41), a(401), "w0"}))
	case reflect.Int:
		field.SetInt(int64(oneOf(r, []int{0, 1, 9, 10, 1000, 1001, -1})))
	case reflect.Bool:
		field.SetBool(!field.Bool())
	case reflect.Slice:
		i := r.Intn(field.Len() + 1)
		j := i + r.Intn(field.Len()-i+1)
		field.Set(reflect.AppendSlice(copyOfValue(field.Slice(0, j)), field.Slice(i, field.Len())))
	}
}
