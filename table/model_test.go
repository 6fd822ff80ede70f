package table_test

import (
	"fmt"
	"reflect"
	"regexp"
	"slices"
	"strconv"
	"strings"
	"testing"
	stdutf8 "unicode/utf8"

	"calque/api"
	"calque/condition"
	"calque/escape"
	"calque/lexeme"
	"calque/table"
)

// result is what Parse returns.
type result struct {
	table api.Table
	at    int
	e     api.Errno
}

// parse is what Parse returns for a text.
func parse(s string) result {
	t, at, e := table.Parse(s)
	return result{t, at, e}
}

func (r result) equals(other result) bool {
	return same(r.table, other.table) && r.at == other.at && r.e == other.e
}

// same reports whether two values agree, except that a nil slice and an empty one are the same.
func same(a, b any) bool {
	return sameValue(reflect.ValueOf(a), reflect.ValueOf(b))
}

func sameValue(a, b reflect.Value) bool {
	switch a.Kind() {
	case reflect.Slice:
		for i := 0; i < a.Len() && i < b.Len(); i++ {
			if !sameValue(a.Index(i), b.Index(i)) {
				return false
			}
		}
		return a.Len() == b.Len()
	case reflect.Struct:
		for i := range a.NumField() {
			if !sameValue(a.Field(i), b.Field(i)) {
				return false
			}
		}
		return true
	}
	return a.Interface() == b.Interface()
}

// copyOf returns a value that shares no memory with another one.
func copyOf[T any](x T) T {
	c := copyOfValue(reflect.ValueOf(x))
	return c.Interface().(T)
}

func copyOfValue(v reflect.Value) reflect.Value {
	c := reflect.New(v.Type()).Elem()
	switch v.Kind() {
	case reflect.Slice:
		for i := range v.Len() {
			c = reflect.Append(c, copyOfValue(v.Index(i)))
		}
	case reflect.Struct:
		for i := range v.NumField() {
			c.Field(i).Set(copyOfValue(v.Field(i)))
		}
	default:
		c.Set(v)
	}
	return c
}

// show returns the beginning of what a table has.
func show(t api.Table) string {
	return fmt.Sprintf("%.3000s", fmt.Sprintf("%+v", t))
}

// quote returns how a text is written.
func quote(s string) string {
	return `"` + escape.Escape(escape.Quote, s) + `"`
}

// quoted returns how texts are written.
func quoted(l ...string) string {
	var all []string
	for _, s := range l {
		all = append(all, quote(s))
	}
	return strings.Join(all, " ")
}

// textOf returns the text of a valid table.
func textOf(t api.Table) string {
	var b strings.Builder
	for _, l := range t.Locales {
		fmt.Fprintf(&b, "locale %s {\n", strings.TrimSuffix(l.Tag+" parent "+l.Parent, " parent "))
		for _, s := range itemsOf(l) {
			fmt.Fprintf(&b, "\t%s;\n", s)
		}
		b.WriteString("}\n")
	}
	for _, a := range t.Aliases {
		fmt.Fprintf(&b, "alias %s %s;\n", a.From, a.To)
	}
	for _, n := range t.Near {
		fmt.Fprintf(&b, "near %s %s %d;\n", n.From, n.To, n.Cost)
	}
	return b.String()
}

// itemsOf returns the items of a valid locale in their order, without tabs and semicolons.
func itemsOf(l api.Locale) (items []string) {
	write := func(layout string, values ...any) { items = append(items, fmt.Sprintf(layout, values...)) }
	if l.Direction != "" {
		write("direction %s", l.Direction)
	}
	for i, rules := range [][]api.Rule{l.Cardinal, l.Ordinal} {
		for _, r := range rules {
			text, _ := condition.Print(r.Cond)
			write("%s %s %s", []string{"cardinal", "ordinal"}[i], r.Class, quote(text))
		}
	}
	if s := l.Symbols; s.Decimal != "" {
		write("symbols %s %d %d", quoted(s.Decimal, s.Group, s.Minus, s.Percent), s.Primary, s.Secondary)
	}
	for _, p := range l.Lists {
		write("list %s %s", p.Style, quoted(p.Two, p.Start, p.Middle, p.End))
	}
	for _, u := range l.Units {
		write("unit %s %s %s", u.Unit, u.Class, quote(u.Pattern))
	}
	for _, d := range l.Dates {
		write("date %s %s", d.Skeleton, quote(d.Pattern))
	}
	if len(l.Months) > 0 {
		write("months %s", quoted(l.Months...))
	}
	if len(l.Days) > 0 {
		write("days %s", quoted(l.Days...))
	}
	return items
}

var isWord = regexp.MustCompile(`\A[A-Za-z0-9_-]{1,40}\z`).MatchString

// classes are those of rules.
var classes = []string{"zero", "one", "two", "few", "many"}

// parts are what has to be true of the parts of a table.
type parts struct {
	words, texts []string
	ids          []string // must differ
	ok           bool     // all else
}

// isValid reports whether a table is valid.
func isValid(t api.Table) bool {
	p := parts{ok: len(t.Locales) <= 60 && len(t.Aliases) <= 200 && len(t.Near) <= 200}
	for i, l := range t.Locales {
		p.addLocale(l, fmt.Sprint(i, " "))
	}
	for _, a := range t.Aliases {
		p.words = append(p.words, a.From, a.To)
	}
	for _, n := range t.Near {
		p.words = append(p.words, n.From, n.To)
		p.ok = p.ok && 0 <= n.Cost && n.Cost <= 1000
	}
	for _, w := range p.words {
		p.ok = p.ok && isWord(w)
	}
	for _, s := range p.texts {
		p.ok = p.ok && len(s) <= 400 && stdutf8.ValidString(s)
	}
	slices.Sort(p.ids)
	return p.ok && len(slices.Compact(slices.Clone(p.ids))) == len(p.ids)
}

// addLocale adds what has to be true of a locale.
func (p *parts) addLocale(l api.Locale, id string) {
	p.words = append(p.words, l.Tag)
	if l.Parent != "" {
		p.words = append(p.words, l.Parent)
	}
	for kind, rules := range map[string][]api.Rule{"c": l.Cardinal, "o": l.Ordinal} {
		for _, r := range rules {
			p.ids = append(p.ids, id+kind+r.Class)
			p.ok = p.ok && slices.Contains(classes, r.Class) && condition.Valid(r.Cond)
		}
	}
	s := l.Symbols
	p.texts = append(p.texts, s.Decimal, s.Group, s.Minus, s.Percent)
	for _, x := range l.Lists {
		p.ids = append(p.ids, id+"l"+x.Style)
		p.words, p.texts = append(p.words, x.Style), append(p.texts, x.Two, x.Start, x.Middle, x.End)
	}
	for _, x := range l.Units {
		p.ids = append(p.ids, id+"u"+x.Unit+" "+x.Class)
		p.words, p.texts = append(p.words, x.Unit), append(p.texts, x.Pattern)
		p.ok = p.ok && (x.Class == "other" || slices.Contains(classes, x.Class))
	}
	for _, x := range l.Dates {
		p.ids = append(p.ids, id+"d"+x.Skeleton)
		p.words, p.texts = append(p.words, x.Skeleton), append(p.texts, x.Pattern)
	}
	p.texts = slices.Concat(p.texts, l.Months, l.Days)
	p.ok = p.ok && slices.Contains([]string{"", "ltr", "rtl"}, l.Direction) &&
		(s.Decimal != "" || s == api.Symbols{}) && 0 <= min(s.Primary, s.Secondary) && max(s.Primary, s.Secondary) <= 9 &&
		len(l.Lists) <= 10 && len(l.Units) <= 100 && len(l.Dates) <= 30 &&
		(len(l.Months) == 0 || len(l.Months) == 12) && (len(l.Days) == 0 || len(l.Days) == 7)
}

// shapes are what is behind the keywords of statements.
var shapes = map[string]string{
	"locale": "word brace", "alias": "word word ;", "near": "word word 1000 ;",
	"direction": "direction ;", "cardinal": "class condition ;", "ordinal": "class condition ;",
	"symbols": "decimal text text text 9 9 ;", "list": "word text text text text ;", "unit": "word anyclass text ;", "date": "word text ;",
	"months": strings.Repeat("text ", 12) + ";", "days": strings.Repeat("text ", 7) + ";",
}

// mosts are how many statements there may be.
var mosts = map[string]int{"locale": 60, "alias": 200, "near": 200, "list": 10, "unit": 100, "date": 30}

// uniques are how many words at the beginning of an item no other item of the locale may have.
var uniques = map[string]int{"direction": 1, "cardinal": 2, "ordinal": 2, "symbols": 1, "list": 2, "unit": 3, "date": 2, "months": 1, "days": 1}

// statement is what the model has read of a statement.
type statement struct {
	from   int      // where the keyword is
	values []string // the keyword, and what is behind it
	slots  []string // what has yet to come
}

// model is fed with one token after the other.
type model struct {
	table   api.Table
	inside  bool // a locale, the last one of the table
	outer   statement
	current statement
	parts   map[string]int  // how many locales, aliases and near entries are complete
	items   map[string]int  // how many items of a kind the locale has
	seen    map[string]bool // the items that the locale cannot have again
}

// expect is what Parse has to return for a text.
func expect(s string) result {
	if len(s) > 200000 {
		return result{e: api.ErrLimit}
	}
	tokens, at, e := lexeme.Tokens(s)
	if e != api.OK {
		return result{at: at, e: e}
	}
	m := model{parts: map[string]int{}}
	for _, t := range tokens {
		if at, e := m.feed(t); e != api.OK {
			return result{at: at, e: e}
		}
	}
	if m.inside || len(m.current.slots) > 0 {
		return result{at: len(s), e: api.ErrSyntax}
	}
	return result{table: m.table}
}

// feed takes one more token, or returns where an error is.
func (m *model) feed(t lexeme.Token) (at int, e api.Errno) {
	if len(m.current.slots) == 0 {
		return m.begin(t)
	}
	slot := m.current.slots[0]
	if slot == "brace" && t.Kind == lexeme.Word && t.Text == "parent" && len(m.current.values) == 2 {
		m.current.values, m.current.slots = append(m.current.values, ""), []string{"word", "brace"}
		return 0, api.OK
	}
	if e := fits(slot, t); e != api.OK {
		return t.From, e
	}
	m.current.values, m.current.slots = append(m.current.values, t.Text), m.current.slots[1:]
	if len(m.current.slots) > 0 {
		return 0, api.OK
	}
	if slot == "brace" {
		m.enter()
		return 0, api.OK
	}
	return m.current.from, m.complete(m.current)
}

// begin takes a token at which a statement begins, or a locale ends.
func (m *model) begin(t lexeme.Token) (at int, e api.Errno) {
	if m.inside && t.Kind == lexeme.Mark && t.Text == "}" {
		m.inside = false
		return m.outer.from, m.complete(m.outer)
	}
	shape, found := shapes[t.Text]
	isOuter := slices.Contains([]string{"locale", "alias", "near"}, t.Text)
	if t.Kind != lexeme.Word || !found || isOuter == m.inside {
		return t.From, api.ErrSyntax
	}
	m.current = statement{from: t.From, values: []string{t.Text}, slots: strings.Fields(shape)}
	return 0, api.OK
}

// enter takes the first brace of a locale.
func (m *model) enter() {
	m.inside, m.outer = true, m.current
	l := api.Locale{Tag: m.current.values[1]}
	if len(m.current.values) > 3 {
		l.Parent = m.current.values[3]
	}
	m.table.Locales = append(m.table.Locales, l)
	m.items, m.seen = map[string]int{}, map[string]bool{}
}

// unless returns an error, unless something is true.
func unless(ok bool, e api.Errno) api.Errno {
	if ok {
		return api.OK
	}
	return e
}

var isNumber = regexp.MustCompile(`\A(0|[1-9][0-9]{0,5})\z`).MatchString

// fits returns the error of a token that should fill a slot.
func fits(slot string, t lexeme.Token) api.Errno {
	kind, found := map[string]int{"text": lexeme.String, "decimal": lexeme.String, "condition": lexeme.String, ";": lexeme.Mark, "brace": lexeme.Mark}[slot]
	if found && t.Kind != kind || !found && t.Kind != lexeme.Word {
		return api.ErrSyntax
	}
	switch slot {
	case "decimal":
		return unless(t.Text != "", api.ErrSyntax)
	case ";":
		return unless(t.Text == ";", api.ErrSyntax)
	case "brace":
		return unless(t.Text == "{", api.ErrSyntax)
	case "direction":
		return unless(t.Text == "ltr" || t.Text == "rtl", api.ErrUnknown)
	case "class":
		return unless(slices.Contains(classes, t.Text), api.ErrUnknown)
	case "anyclass":
		return unless(slices.Contains(classes, t.Text) || t.Text == "other", api.ErrUnknown)
	case "condition":
		_, _, e := condition.Parse(t.Text)
		return e
	case "9", "1000":
		n, _ := strconv.Atoi(t.Text)
		most, _ := strconv.Atoi(slot)
		if !isNumber(t.Text) {
			return api.ErrSyntax
		}
		return unless(n <= most, api.ErrRange)
	}
	return api.OK
}

// complete takes a whole statement into the table.
func (m *model) complete(s statement) api.Errno {
	v, counts := s.values, m.parts
	if m.inside {
		counts = m.items
		key := fmt.Sprintf("%q", v[:uniques[v[0]]])
		if m.seen[key] {
			return api.ErrDuplicate
		}
		m.seen[key] = true
	}
	if counts[v[0]]++; mosts[v[0]] > 0 && counts[v[0]] > mosts[v[0]] {
		return api.ErrLimit
	}
	m.take(v)
	return api.OK
}

// take takes the values of a statement into the table; a locale is there already.
func (m *model) take(v []string) {
	number := func(s string) int {
		n, _ := strconv.Atoi(s)
		return n
	}
	switch v[0] {
	case "alias":
		m.table.Aliases = append(m.table.Aliases, api.Alias{From: v[1], To: v[2]})
	case "near":
		m.table.Near = append(m.table.Near, api.Near{From: v[1], To: v[2], Cost: number(v[3])})
	}
	if len(m.table.Locales) == 0 {
		return
	}
	l := &m.table.Locales[len(m.table.Locales)-1]
	switch v[0] {
	case "direction":
		l.Direction = v[1]
	case "cardinal":
		c, _, _ := condition.Parse(v[2])
		l.Cardinal = append(l.Cardinal, api.Rule{Class: v[1], Cond: c})
	case "ordinal":
		c, _, _ := condition.Parse(v[2])
		l.Ordinal = append(l.Ordinal, api.Rule{Class: v[1], Cond: c})
	case "symbols":
		l.Symbols = api.Symbols{Decimal: v[1], Group: v[2], Minus: v[3], Percent: v[4], Primary: number(v[5]), Secondary: number(v[6])}
	case "list":
		l.Lists = append(l.Lists, api.ListPattern{Style: v[1], Two: v[2], Start: v[3], Middle: v[4], End: v[5]})
	case "unit":
		l.Units = append(l.Units, api.UnitPattern{Unit: v[1], Class: v[2], Pattern: v[3]})
	case "date":
		l.Dates = append(l.Dates, api.DatePattern{Skeleton: v[1], Pattern: v[2]})
	case "months":
		l.Months = v[1:13]
	case "days":
		l.Days = v[1:8]
	}
}

// check compares Parse with the model, and checks what is promised of a table that is read.
func check(t *testing.T, s string) result {
	t.Helper()
	got, want := parse(s), expect(s)
	if !got.equals(want) {
		t.Fatalf("P12.1: Parse(%.3000q): %s at %d with error %d, want %s at %d with error %d", s, show(got.table), got.at, got.e, show(want.table), want.at, want.e)
	}
	if got.e == api.OK {
		checkTable(t, got.table)
	}
	return got
}

// checkTable compares Valid and Print with the definitions, and reads the text of a valid table.
func checkTable(t *testing.T, x api.Table) {
	t.Helper()
	before := copyOf(x)
	valid := isValid(x)
	if table.Valid(x) != valid {
		t.Fatalf("P12.1: Valid(%s): %v", show(x), !valid)
	}
	want, wantError := "", api.ErrArg
	if valid {
		want, wantError = textOf(x), api.OK
	}
	if len(want) > 200000 {
		want, wantError = "", api.ErrLimit
	}
	text, e := table.Print(x)
	if text != want || e != wantError {
		t.Fatalf("P12.1: Print(%s): %.3000q with error %d, want %.3000q with error %d", show(x), text, e, want, wantError)
	}
	if !same(x, before) {
		t.Fatalf("P12.1: %s is changed to %s", show(before), show(x))
	}
	if e != api.OK {
		return
	}
	if back := parse(text); !back.equals(result{table: x}) {
		t.Fatalf("P12.2: the table %s has the text %.3000q, which is read as %s at %d with error %d", show(x), text, show(back.table), back.at, back.e)
	}
}
