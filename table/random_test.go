package table_test

import (
	"fmt"
	"math/rand"
	"slices"
	"strings"

	"calque/api"
	"calque/condition"
)

// The texts and words of tables without a pattern, those at the limits and those that look like tokens among them.
var (
	someWords = []string{
		"a", "b", "und", "en", "en-GB", "es-419", "0", "007", "-", "_", "yMd", "locale", "parent", "alias", "near", "direction", "ltr", "one", "other", "months", a(40), strings.Repeat("9", 40),
	}
	someTexts = []string{
		"", "", " ", "{0}", "{0} and {1}", `\`, `"`, `\"`, "#", "# a", ";", "}", "a\nb", "\r\n", "\t", "\x00", "\x1f", "\x7f", "日", "\xef\xbf\xbd", "\xf4\x8f\xbf\xbf", "n = 1", `\n`, `\u00e4`, a(400), strings.Repeat("\n", 400),
	}
	someConditions = []string{
		"n = 1", "i = 1 and v = 0", "n % 10 = 2..4 and n % 100 != 12..14", "v != 0 or t = 3,5..7", "f % 100 = 100", "n = 0 or n = 1 or n = 2 or n = 3 or n = 4 or n = 5",
		"n % 100 != 10..100,20..100,30..100,40..100 and " + strings.Repeat("i % 100 != 10..100,20..100,30..100,40..100 and ", 4) + "t % 100 != 10..100,20..100,30..100,40..100",
	}
)

// a returns a word of so many letters.
func a(size int) string {
	return strings.Repeat("a", size)
}

// oneOf returns an element of a list.
func oneOf[T any](r *rand.Rand, l []T) T {
	return l[r.Intn(len(l))]
}

// some returns so many texts.
func some(r *rand.Rand, count int) []string {
	var l []string
	for range count {
		l = append(l, oneOf(r, someTexts))
	}
	return l
}

// few returns a number of elements that is mostly small, and sometimes the greatest one.
func few(r *rand.Rand, most int) int {
	return []int{0, 0, 1, 1, 2, min(3, most), r.Intn(most + 1), most}[r.Intn(8)]
}

// randomRules returns rules of different classes.
func randomRules(r *rand.Rand) (rules []api.Rule) {
	for _, i := range r.Perm(5)[:r.Intn(6)] {
		c, _, _ := condition.Parse(oneOf(r, someConditions))
		rules = append(rules, api.Rule{Class: classes[i], Cond: c})
	}
	return rules
}

// different returns so many different words.
func different(r *rand.Rand, count int) []string {
	var l []string
	for i := range count {
		l = append(l, oneOf(r, []string{"w", "0", "-", "date", a(36)})+fmt.Sprint(i))
	}
	if count > 0 && r.Intn(2) == 0 {
		l[0] = oneOf(r, someWords)
	}
	return l
}

// randomLocale returns a valid locale.
func randomLocale(r *rand.Rand) api.Locale {
	l := api.Locale{Tag: oneOf(r, someWords), Direction: oneOf(r, []string{"", "ltr", "rtl"}), Cardinal: randomRules(r), Ordinal: randomRules(r)}
	if r.Intn(2) == 0 {
		l.Parent = oneOf(r, someWords)
	}
	if r.Intn(2) == 0 {
		l.Symbols = api.Symbols{Decimal: oneOf(r, someTexts[2:]), Group: oneOf(r, someTexts), Minus: oneOf(r, someTexts), Percent: oneOf(r, someTexts), Primary: r.Intn(10), Secondary: r.Intn(10)}
	}
	for _, style := range different(r, few(r, 10)) {
		p := some(r, 4)
		l.Lists = append(l.Lists, api.ListPattern{Style: style, Two: p[0], Start: p[1], Middle: p[2], End: p[3]})
	}
	for i, unit := range different(r, few(r, 100)/3) {
		for _, j := range r.Perm(6)[:1+i%3] {
			l.Units = append(l.Units, api.UnitPattern{Unit: unit, Class: append([]string{"other"}, classes...)[j], Pattern: oneOf(r, someTexts)})
		}
	}
	for _, skeleton := range different(r, few(r, 30)) {
		l.Dates = append(l.Dates, api.DatePattern{Skeleton: skeleton, Pattern: oneOf(r, someTexts)})
	}
	if r.Intn(2) == 0 {
		l.Months = some(r, 12)
	}
	if r.Intn(2) == 0 {
		l.Days = some(r, 7)
	}
	return l
}

// randomTable returns a valid table.
func randomTable(r *rand.Rand) (t api.Table) {
	for range r.Intn(4) {
		t.Locales = append(t.Locales, randomLocale(r))
	}
	for range r.Intn(4) {
		t.Aliases = append(t.Aliases, api.Alias{From: oneOf(r, someWords), To: oneOf(r, someWords)})
	}
	for range r.Intn(4) {
		t.Near = append(t.Near, api.Near{From: oneOf(r, someWords), To: oneOf(r, someWords), Cost: oneOf(r, []int{0, 1, 80, 999, 1000})})
	}
	return t
}

// merged returns the elements of some lists in an order without a pattern, which keeps that of each list.
func merged(r *rand.Rand, lists ...[]string) (l []string) {
	var order []int
	for i, list := range lists {
		order = append(order, slices.Repeat([]int{i}, len(list))...)
	}
	r.Shuffle(len(order), func(i, j int) { order[i], order[j] = order[j], order[i] })
	places := make([]int, len(lists))
	for _, i := range order {
		l = append(l, lists[i][places[i]])
		places[i]++
	}
	return l
}

// exchanged returns a text of a valid table with another order of what may be exchanged.
func exchanged(r *rand.Rand, t api.Table) string {
	var locales, aliases, near []string
	for _, l := range t.Locales {
		kinds := map[string][]string{}
		for _, s := range itemsOf(l) {
			keyword, _, _ := strings.Cut(s, " ")
			kinds[keyword] = append(kinds[keyword], s+";")
		}
		items := merged(r, kinds["direction"], kinds["cardinal"], kinds["ordinal"], kinds["symbols"], kinds["list"], kinds["unit"], kinds["date"], kinds["months"], kinds["days"])
		head := strings.TrimSuffix(l.Tag+" parent "+l.Parent, " parent ")
		locales = append(locales, "locale "+head+"{"+strings.Join(items, oneOf(r, []string{"", " ", "\n", "#;\n"}))+"}")
	}
	for _, x := range t.Aliases {
		aliases = append(aliases, "alias "+x.From+" "+x.To+";")
	}
	for _, x := range t.Near {
		near = append(near, fmt.Sprintf("near %s %s %d;", x.From, x.To, x.Cost))
	}
	return strings.Join(merged(r, locales, aliases, near), oneOf(r, []string{"", " ", "\n", "# } \"\n"}))
}
