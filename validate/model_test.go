package validate_test

import (
	"fmt"
	"reflect"
	"regexp"
	"slices"
	"strings"
	"testing"

	"calque/api"
	"calque/condition"
	"calque/table"
	"calque/validate"
)

// The definitions of patterns, as regular expressions.
var (
	aSkeleton = regexp.MustCompile(`^y?(?:M{1,3})?E?(?:d{1,2})?$`)
	divided   = regexp.MustCompile(`y+|M+|E+|d+`)
	aField    = regexp.MustCompile(`^(?:y|M{1,3}|E|d{1,2})$`)
	runs      = regexp.MustCompile(`[A-Za-z]+`)
	places    = regexp.MustCompile(`\{[0-9]\}|[{}]`)
)

// fieldsOf returns what Fields returns by its definition.
func fieldsOf(s string) ([]string, api.Errno) {
	if s == "" || !aSkeleton.MatchString(s) {
		return nil, api.ErrSyntax
	}
	return divided.FindAllString(s, -1), api.OK
}

// kindsOf returns the letters of fields, sorted; and false, if a string is no field, or if two are of one kind.
func kindsOf(l []string) (string, bool) {
	var kinds []string
	for _, f := range l {
		if !aField.MatchString(f) || slices.Contains(kinds, f[:1]) {
			return "", false
		}
		kinds = append(kinds, f[:1])
	}
	slices.Sort(kinds)
	return strings.Join(kinds, ""), true
}

// fits returns what Date returns by its definition.
func fits(skeleton, pattern string) bool {
	l, e := fieldsOf(skeleton)
	want, _ := kindsOf(l)
	got, ok := kindsOf(runs.FindAllString(pattern, -1))
	return e == api.OK && ok && got == want
}

// isPattern returns what Pattern returns by its definition.
func isPattern(s string, n int) bool {
	if n < 1 || n > 9 {
		return false
	}
	got := places.FindAllString(s, -1)
	slices.Sort(got)
	return slices.Equal(got, []string{"{0}", "{1}", "{2}", "{3}", "{4}", "{5}", "{6}", "{7}", "{8}"}[:n])
}

// someNumbers are numbers among which there is one for which two conditions of the tests hold, if there is any.
func someNumbers() []string {
	var l []string
	for i := range 230 {
		l = append(l, fmt.Sprint(i))
	}
	for _, fraction := range strings.Fields("0 00 000 1 10 01 11 2 20 02 12 3 13 4 14 5 15 9 09 19 001 002 003 0001 1000") {
		for _, whole := range strings.Fields("0 1 2 3 4 5 9 10 11 12 13 14 15 21 22 100 101 111") {
			l = append(l, whole+"."+fraction)
		}
	}
	return l
}

var numbers = someNumbers()

// known has, by the text of a condition, for which of the numbers it holds.
var known = map[string][]bool{}

// holding returns for which of the numbers a condition holds.
func holding(c api.Cond) []bool {
	text, _ := condition.Print(c)
	if l, ok := known[text]; ok {
		return l
	}
	var l []bool
	for _, n := range numbers {
		ok, _ := condition.Holds(c, n)
		l = append(l, ok)
	}
	known[text] = l
	return l
}

// most returns how many of some rules hold for a number, if there are as many for no other number.
func most(rules []api.Rule) int {
	count := make([]int, len(numbers))
	for _, r := range rules {
		for i, ok := range holding(r.Cond) {
			if ok {
				count[i]++
			}
		}
	}
	return slices.Max(count)
}

// errorOfLocale returns the first error of a locale by the definitions.
func errorOfLocale(locales []api.Locale, i int) api.Errno {
	l := locales[i]
	tags := map[string]bool{}
	for _, other := range locales[:i] {
		tags[other.Tag] = true
	}
	others := map[string]bool{}
	badForm, badUnit := false, false
	for _, u := range l.Units {
		badForm = badForm || !isPattern(u.Pattern, 1)
		others[u.Unit] = others[u.Unit] || u.Class == "other"
	}
	for _, has := range others {
		badUnit = badUnit || !has
	}
	for _, p := range l.Lists {
		badForm = badForm || !isPattern(p.Two, 2) || !isPattern(p.Start, 2) || !isPattern(p.Middle, 2) || !isPattern(p.End, 2)
	}
	for _, d := range l.Dates {
		badForm = badForm || !fits(d.Skeleton, d.Pattern)
	}
	switch {
	case i == 0 && (l.Tag != "und" || l.Parent != ""), i > 0 && l.Parent == "":
		return api.ErrData
	case tags[l.Tag]:
		return api.ErrDuplicate
	case i > 0 && !tags[l.Parent]:
		return api.ErrUnknown
	case most(l.Cardinal) > 1, most(l.Ordinal) > 1:
		return api.ErrOverlap
	case badForm:
		return api.ErrForm
	case badUnit:
		return api.ErrOther
	case i == 0 && slices.Contains([]int{len(l.Direction), len(l.Symbols.Decimal), len(l.Lists), len(l.Dates), len(l.Months), len(l.Days)}, 0):
		return api.ErrData
	}
	return api.OK
}

// errorOfAlias returns the first error of an alias by the definitions.
func errorOfAlias(l []api.Alias, i int) api.Errno {
	var names []string
	leads := map[[2]string]bool{}
	for _, a := range l[:i+1] {
		names = append(names, a.From, a.To)
		leads[[2]string{a.From, a.To}] = true
	}
	slices.Sort(names)
	names = slices.Compact(names)
	for _, by := range names {
		for _, from := range names {
			for _, to := range names {
				if leads[[2]string{from, by}] && leads[[2]string{by, to}] {
					leads[[2]string{from, to}] = true
				}
			}
		}
	}
	if slices.ContainsFunc(names, func(s string) bool { return leads[[2]string{s, s}] }) {
		return api.ErrCycle
	}
	for _, a := range l[:i] {
		if a.From == l[i].From {
			return api.ErrDuplicate
		}
	}
	return api.OK
}

// errorOfNear returns the first error of a near entry by the definitions.
func errorOfNear(l []api.Near, i int) api.Errno {
	pair := func(n api.Near) [2]string { return [2]string{min(n.From, n.To), max(n.From, n.To)} }
	if p := pair(l[i]); p[0] == p[1] {
		return api.ErrForm
	}
	for _, n := range l[:i] {
		if pair(n) == pair(l[i]) {
			return api.ErrDuplicate
		}
	}
	return api.OK
}

// errorOf returns what Check returns by its definition.
func errorOf(x api.Table) (int, api.Errno) {
	if !table.Valid(x) {
		return 0, api.ErrArg
	}
	if len(x.Locales) == 0 {
		return 0, api.ErrData
	}
	for i := range x.Locales {
		if e := errorOfLocale(x.Locales, i); e != api.OK {
			return i, e
		}
	}
	for i := range x.Aliases {
		if e := errorOfAlias(x.Aliases, i); e != api.OK {
			return len(x.Locales) + i, e
		}
	}
	for i := range x.Near {
		if e := errorOfNear(x.Near, i); e != api.OK {
			return len(x.Locales) + len(x.Aliases) + i, e
		}
	}
	return 0, api.OK
}

// expect compares what Check returns with what is expected.
func expect(t *testing.T, what string, x api.Table, index int, e api.Errno) {
	t.Helper()
	before := copyOf(x)
	i, got := validate.Check(x)
	if i != index || got != e {
		t.Errorf("P13.1: %s: Check gives %d, %d, want %d, %d: %s", what, i, got, index, e, show(x))
	}
	if !reflect.DeepEqual(x, before) {
		t.Errorf("P13.1: %s: Check has changed its argument to %s", what, show(x))
	}
}

// check compares what Check returns with the definitions.
func check(t *testing.T, what string, x api.Table) api.Errno {
	t.Helper()
	i, e := errorOf(x)
	expect(t, what, x, i, e)
	return e
}

// copyOf returns a copy that shares no memory.
func copyOf[T any](x T) T {
	return copyOfValue(reflect.ValueOf(x)).Interface().(T)
}

func copyOfValue(v reflect.Value) reflect.Value {
	c := reflect.New(v.Type()).Elem()
	switch v.Kind() {
	case reflect.Slice:
		if !v.IsNil() {
			c.Set(reflect.MakeSlice(v.Type(), 0, v.Len()))
		}
		for i := range v.Len() {
			c.Set(reflect.Append(c, copyOfValue(v.Index(i))))
		}
	case reflect.Struct:
		for i := range v.NumField() {
			c.Field(i).Set(copyOfValue(v.Field(i)))
		}
	default:
		c.Set(v)
	}
	return c
}

// show returns the beginning of a table.
func show(x api.Table) string {
	return fmt.Sprintf("%.3000s", fmt.Sprintf("%+v", x))
}

// rules returns rules of different classes with conditions.
func rules(texts ...string) []api.Rule {
	var l []api.Rule
	for i, s := range texts {
		c, _, e := condition.Parse(s)
		if e != api.OK {
			panic(s)
		}
		l = append(l, api.Rule{Class: []string{"few", "one", "many", "zero", "two"}[i], Cond: c})
	}
	return l
}
