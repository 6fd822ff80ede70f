package table_test

import (
	"fmt"
	"math/rand"
	"slices"
	"strings"
	"testing"

	"calque/api"
	"calque/condition"
	"calque/lexeme"
	"calque/table"
)

// cond returns the condition with a text.
func cond(s string) api.Cond {
	c, _, _ := condition.Parse(s)
	return c
}

// one returns a table of one locale.
func one(l api.Locale) api.Table {
	return api.Table{Locales: []api.Locale{l}}
}

func TestParse(t *testing.T) {
	twelve := []string{"1", "2", "3", "4", "5", "6", "7", "8", "9", "10", "11", ""}
	for _, c := range []struct {
		name, s string
		want    api.Table
	}{
		{"nothing", "", api.Table{}},
		{"only a comment", " # locale\n\t\r\n#", api.Table{}},
		{"alias", "alias iw he;", api.Table{Aliases: []api.Alias{{From: "iw", To: "he"}}}},
		{"near", "near ar he 80;", api.Table{Near: []api.Near{{From: "ar", To: "he", Cost: 80}}}},
		{"least cost", "near 1 2 0;", api.Table{Near: []api.Near{{From: "1", To: "2"}}}},
		{"greatest cost", "near a a 1000;", api.Table{Near: []api.Near{{From: "a", To: "a", Cost: 1000}}}},
		{"locale", "locale und { }", one(api.Locale{Tag: "und"})},
		{"locale without blanks", "locale x{}", one(api.Locale{Tag: "x"})},
		{"parent", "locale en parent und { }", one(api.Locale{Tag: "en", Parent: "und"})},
		{"keywords as tags", "locale parent parent parent {} alias alias near; near locale near 1;", api.Table{
			Locales: []api.Locale{{Tag: "parent", Parent: "parent"}}, Aliases: []api.Alias{{From: "alias", To: "near"}}, Near: []api.Near{{From: "locale", To: "near", Cost: 1}}}},
		{"keyword as a tag without a parent", "locale parent {}", one(api.Locale{Tag: "parent"})},
		{"itself as the parent", "locale a parent a {}", one(api.Locale{Tag: "a", Parent: "a"})},
		{"left to right", "locale a { direction ltr; }", one(api.Locale{Tag: "a", Direction: "ltr"})},
		{"right to left", "locale a { direction rtl; }", one(api.Locale{Tag: "a", Direction: "rtl"})},
		{"rules", `locale a { cardinal one " n=1"; ordinal one "n = 2"; cardinal zero "n=3"; cardinal two "n=4"; ordinal many "n=5"; cardinal few "n=6"; }`, one(api.Locale{Tag: "a",
			Cardinal: []api.Rule{{Class: "one", Cond: cond("n = 1")}, {Class: "zero", Cond: cond("n = 3")}, {Class: "two", Cond: cond("n = 4")}, {Class: "few", Cond: cond("n = 6")}},
			Ordinal:  []api.Rule{{Class: "one", Cond: cond("n = 2")}, {Class: "many", Cond: cond("n = 5")}}})},
		{"rule with escape sequences", `locale a { cardinal one "n\n\x3d\t1"; }`, one(api.Locale{Tag: "a", Cardinal: []api.Rule{{Class: "one", Cond: cond("n = 1")}}})},
		{"symbols", `locale a { symbols "." "," "-" "%" 3 2; }`, one(api.Locale{Tag: "a", Symbols: api.Symbols{Decimal: ".", Group: ",", Minus: "-", Percent: "%", Primary: 3, Secondary: 2}})},
		{"symbols at the limits", `locale a { symbols "x" "" "" "" 9 0; } locale b { symbols " " "" "" "" 0 9; }`, api.Table{
			Locales: []api.Locale{{Tag: "a", Symbols: api.Symbols{Decimal: "x", Primary: 9}}, {Tag: "b", Symbols: api.Symbols{Decimal: " ", Secondary: 9}}}}},
		{"lists", `locale a { list or "1" "2" "3" "4"; list and "" "" "" "\"\\"; }`, one(api.Locale{Tag: "a", Lists: []api.ListPattern{{Style: "or", Two: "1", Start: "2", Middle: "3", End: "4"}, {Style: "and", End: `"\`}}})},
		{"units", `locale a { unit km other "{0}"; unit km zero "0"; unit h zero "1"; unit km one "";}`, one(api.Locale{Tag: "a",
			Units: []api.UnitPattern{{Unit: "km", Class: "other", Pattern: "{0}"}, {Unit: "km", Class: "zero", Pattern: "0"}, {Unit: "h", Class: "zero", Pattern: "1"}, {Unit: "km", Class: "one"}}})},
		{"dates", `locale a { date yMd "d.M.y"; date YMD ""; }`, one(api.Locale{Tag: "a", Dates: []api.DatePattern{{Skeleton: "yMd", Pattern: "d.M.y"}, {Skeleton: "YMD"}}})},
		{"months", "locale a { months " + quoted(twelve...) + "; }", one(api.Locale{Tag: "a", Months: twelve})},
		{"days", "locale a { days " + quoted(twelve[5:]...) + "; }", one(api.Locale{Tag: "a", Days: twelve[5:]})},
		{"empty names", `locale a { days "" "" "" "" "" "" ""; }`, one(api.Locale{Tag: "a", Days: make([]string, 7)})},
		{"the same items in two locales", `locale a { direction ltr; list l "" "" "" ""; } locale a { direction rtl; list l "" "" "" ""; }`, api.Table{
			Locales: []api.Locale{{Tag: "a", Direction: "ltr", Lists: []api.ListPattern{{Style: "l"}}}, {Tag: "a", Direction: "rtl", Lists: []api.ListPattern{{Style: "l"}}}}}},
		{"the same parts", "alias a b;alias a b;near a b 1;near a b 1;", api.Table{Aliases: []api.Alias{{From: "a", To: "b"}, {From: "a", To: "b"}}, Near: []api.Near{{From: "a", To: "b", Cost: 1}, {From: "a", To: "b", Cost: 1}}}},
		{"parts that alternate", "near a b 1; locale x {} alias c d; near b a 2; alias d c; locale y {}", api.Table{
			Locales: []api.Locale{{Tag: "x"}, {Tag: "y"}}, Aliases: []api.Alias{{From: "c", To: "d"}, {From: "d", To: "c"}}, Near: []api.Near{{From: "a", To: "b", Cost: 1}, {From: "b", To: "a", Cost: 2}}}},
	} {
		if got := check(t, c.s); !got.equals(result{table: c.want}) {
			t.Errorf("P12.1: %s: Parse(%q): %s at %d with error %d, want %s", c.name, c.s, show(got.table), got.at, got.e, show(c.want))
		}
	}
}

// failure is a text with a mark in front of the place of its error.
type failure struct {
	s  string
	e  api.Errno
	is string
}

// checkErrors checks where the errors of texts are.
func checkErrors(t *testing.T, failures []failure) {
	t.Helper()
	for _, c := range failures {
		before, behind, _ := strings.Cut(c.s, "@")
		s, at := before+behind, len(before)
		if got := check(t, s); !got.equals(result{at: at, e: c.e}) {
			t.Errorf("P12.1: %s: Parse(%q): at %d with error %d, want %d with error %d", c.is, s, got.at, got.e, at, c.e)
		}
	}
}

func TestErrorsOfParts(t *testing.T) {
	checkErrors(t, []failure{
		{`alias a b; @=`, api.ErrSyntax, "a byte with which no token begins"},
		{`x @= direction`, api.ErrSyntax, "that byte goes ahead of a keyword that is not permitted"},
		{`locale a { direction up; } @"`, api.ErrSyntax, "a string without an end goes ahead"},
		{`alias a b c; @` + a(41), api.ErrLimit, "a word that is too long goes ahead"},
		{`alias; @"` + "\xff" + `"`, api.ErrForm, "a text that is not valid goes ahead"},
		{`locale a { date yMd x "@\q"; }`, api.ErrSyntax, "a wrong sequence goes ahead"},
		{`@x`, api.ErrSyntax, "no keyword"},
		{`@"alias" a b;`, api.ErrSyntax, "a text that is no keyword"},
		{`@Alias a b;`, api.ErrSyntax, "an upper case letter"},
		{`@direction ltr;`, api.ErrSyntax, "an item that is in no locale"},
		{`@}`, api.ErrSyntax, "a brace without a locale"},
		{`@;`, api.ErrSyntax, "a semicolon without a statement"},
		{`alias a b;@;`, api.ErrSyntax, "one more semicolon"},
		{`locale a {}@;`, api.ErrSyntax, "a semicolon behind a locale"},
		{`locale a {}@}`, api.ErrSyntax, "one more brace"},
		{`alias a b@`, api.ErrSyntax, "an end ahead of the semicolon"},
		{`alias a  # b;` + "\n @", api.ErrSyntax, "an end behind a comment"},
		{`alias@`, api.ErrSyntax, "an end behind the keyword"},
		{`alias a @"b";`, api.ErrSyntax, "a text for a word"},
		{`alias a b @c;`, api.ErrSyntax, "one word too many"},
		{`near a b@;`, api.ErrSyntax, "no number"},
		{`near a b @c;`, api.ErrSyntax, "a word for a number"},
		{`near a b @"1";`, api.ErrSyntax, "a text for a number"},
		{`near a b @01;`, api.ErrSyntax, "a needless zero"},
		{`near a b @-1;`, api.ErrSyntax, "a sign"},
		{`near a b @1000000;`, api.ErrSyntax, "seven digits"},
		{`near a b @1001;`, api.ErrRange, "a number that is too great"},
		{`near a b @999999;`, api.ErrRange, "a number that is much too great"},
		{`near a b @1001 c`, api.ErrRange, "a number that is too great in front of another error"},
		{`near a b 1 @1001;`, api.ErrSyntax, "one number too many"},
	})
}

func TestErrorsOfLocales(t *testing.T) {
	checkErrors(t, []failure{
		{`locale @{}`, api.ErrSyntax, "no tag"},
		{`locale @"a" {}`, api.ErrSyntax, "a text for a tag"},
		{`locale a @b {}`, api.ErrSyntax, "no keyword in front of the parent"},
		{`locale a @"parent" b {}`, api.ErrSyntax, "a text that is not the keyword"},
		{`locale a parent @{}`, api.ErrSyntax, "no parent"},
		{`locale a parent b @parent c {}`, api.ErrSyntax, "two parents"},
		{`locale a parent b@`, api.ErrSyntax, "an end ahead of the brace"},
		{`locale a @;`, api.ErrSyntax, "no brace"},
		{`locale a @}`, api.ErrSyntax, "the other brace"},
		{`locale a {@`, api.ErrSyntax, "an end ahead of the items"},
		{`locale a { direction ltr; # }` + "\n@", api.ErrSyntax, "an end behind an item"},
		{`locale a { @alias a b; }`, api.ErrSyntax, "an alias in a locale"},
		{`locale a { @locale b {} }`, api.ErrSyntax, "a locale in a locale"},
		{`locale a { @{} }`, api.ErrSyntax, "a brace in a locale"},
		{`locale a { @; }`, api.ErrSyntax, "a semicolon in a locale"},
		{`locale a { @"days" }`, api.ErrSyntax, "a text in a locale"},
	})
}

func TestErrorsOfItems(t *testing.T) {
	checkErrors(t, []failure{
		{`locale a { direction@; }`, api.ErrSyntax, "no direction"},
		{`locale a { direction @"ltr"; }`, api.ErrSyntax, "a text for a direction"},
		{`locale a { direction @up; }`, api.ErrUnknown, "no such direction"},
		{`locale a { direction @LTR; }`, api.ErrUnknown, "a direction with upper case letters"},
		{`locale a { direction ltr @rtl; }`, api.ErrSyntax, "two directions in one item"},
		{`locale a { cardinal @other "n = 1"; }`, api.ErrUnknown, "the class other in a rule"},
		{`locale a { ordinal @other "n = 1"; }`, api.ErrUnknown, "the class other in an ordinal rule"},
		{`locale a { cardinal @One 1; }`, api.ErrUnknown, "no such class in front of another error"},
		{`locale a { cardinal @"one" "n = 1"; }`, api.ErrSyntax, "a text for a class"},
		{`locale a { cardinal one @n; }`, api.ErrSyntax, "a word for a condition"},
		{`locale a { cardinal one @"n = x"; }`, api.ErrSyntax, "no condition"},
		{`locale a { cardinal one @""; }`, api.ErrSyntax, "an empty condition"},
		{`locale a { ordinal one @"n = 101"; }`, api.ErrRange, "a number of a condition that is too great"},
		{`locale a { ordinal one @"n % 7 = 1" x }`, api.ErrRange, "a divisor that is not permitted in front of another error"},
		{`locale a { cardinal one @"n = 1,2,3,4,5"; }`, api.ErrLimit, "a condition with too many spans"},
		{`locale a { cardinal one "n = 1"@}`, api.ErrSyntax, "no semicolon behind a rule"},
		{`locale a { symbols @"" "" "" "" 0 0; }`, api.ErrSyntax, "an empty decimal symbol"},
		{`locale a { symbols @"" x; }`, api.ErrSyntax, "an empty decimal symbol in front of another error"},
		{`locale a { symbols @x "" "" "" 0 0; }`, api.ErrSyntax, "a word for a symbol"},
		{`locale a { symbols "." "" "" @0 0; }`, api.ErrSyntax, "three symbols"},
		{`locale a { symbols "." "" "" "" @"" 0 0; }`, api.ErrSyntax, "five symbols"},
		{`locale a { symbols "." "" "" "" @10 0; }`, api.ErrRange, "groups that are too long"},
		{`locale a { symbols "." "" "" "" 9 @10; }`, api.ErrRange, "other groups that are too long"},
		{`locale a { symbols "." "" "" "" @10 x; }`, api.ErrRange, "groups that are too long in front of another error"},
		{`locale a { symbols "." "" "" "" 3@; }`, api.ErrSyntax, "one number"},
		{`locale a { symbols "." "" "" "" @00 3; }`, api.ErrSyntax, "a needless zero in symbols"},
		{`locale a { list @"x" "" "" "" ""; }`, api.ErrSyntax, "no style"},
		{`locale a { list x "" "" ""@; }`, api.ErrSyntax, "three patterns"},
		{`locale a { list x "" "" "" "" @""; }`, api.ErrSyntax, "five patterns"},
		{`locale a { unit km @Other ""; }`, api.ErrUnknown, "no such class in a unit"},
		{`locale a { unit km @""; }`, api.ErrSyntax, "no class in a unit"},
		{`locale a { unit km @"other" ""; }`, api.ErrSyntax, "a text for a class in a unit"},
		{`locale a { unit km other@; }`, api.ErrSyntax, "no pattern in a unit"},
		{`locale a { date @"yMd"; }`, api.ErrSyntax, "no skeleton"},
		{`locale a { date yMd @yMd; }`, api.ErrSyntax, "a word for a pattern"},
		{`locale a { months "1" "2" "3" "4" "5" "6" "7" "8" "9" "10" "11"@; }`, api.ErrSyntax, "eleven months"},
		{`locale a { months "1" "2" "3" "4" "5" "6" "7" "8" "9" "10" "11" "12" @"13"; }`, api.ErrSyntax, "thirteen months"},
		{`locale a { months@; }`, api.ErrSyntax, "no months"},
		{`locale a { days "1" "2" "3" "4" "5" "6"@; }`, api.ErrSyntax, "six days"},
		{`locale a { days "1" "2" "3" "4" "5" "6" "7" @"8"; }`, api.ErrSyntax, "eight days"},
	})
}

func TestParseDuplicates(t *testing.T) {
	days, months := "days "+strings.Repeat(`"" `, 7)+";", "months "+strings.Repeat(`"" `, 12)+";"
	for _, c := range []struct {
		before, item, behind string // in a locale
		at                   int    // in item, if it is not the keyword; without an error -1
		e                    api.Errno
	}{
		{`direction ltr;`, `direction rtl;`, "", 0, api.ErrDuplicate},
		{`direction ltr;`, `direction ltr;`, "=", 14, api.ErrSyntax},
		{`direction ltr;`, `direction ltr;`, "x", 0, api.ErrDuplicate},
		{`direction ltr;`, `direction up;`, "", 10, api.ErrUnknown},
		{`direction ltr;`, `direction rtl x`, "", 14, api.ErrSyntax},
		{`direction ltr; list x "" "" "" "";`, `direction rtl;`, "", 0, api.ErrDuplicate},
		{`symbols "." "" "" "" 0 0;`, `symbols "." "" "" "" 0 0;`, "", 0, api.ErrDuplicate},
		{`symbols "." "" "" "" 0 0;`, `symbols "" "" "" "" 0 0;`, "", 8, api.ErrSyntax},
		{`symbols "." "" "" "" 0 0;`, `symbols "." "" "" "" 0 11;`, "", 23, api.ErrRange},
		{`symbols "." "" "" "" 0 0;`, `symbols "." "" "" "" 0 0 1`, "", 25, api.ErrSyntax},
		{days, days, "", 0, api.ErrDuplicate},
		{days, months, "", -1, api.OK},
		{days, days[:len(days)-2], "", 25, api.ErrSyntax},
		{months, months, "", 0, api.ErrDuplicate},
		{`cardinal one "n = 1";`, `cardinal one "n = 2";`, "", 0, api.ErrDuplicate},
		{`cardinal one "n = 1";`, `cardinal one "n = 1";`, "", 0, api.ErrDuplicate},
		{`cardinal one "n = 1";`, `cardinal one "n = 101";`, "", 13, api.ErrRange},
		{`cardinal one "n = 1";`, `ordinal one "n = 1";`, "", -1, api.OK},
		{`cardinal one "n = 1";`, `cardinal two "n = 1";`, "", -1, api.OK},
		{`cardinal one "n = 1"; cardinal two "n = 1";`, `cardinal one "n = 2";`, "", 0, api.ErrDuplicate},
		{`ordinal few "n = 1";`, `ordinal few "n = 2";`, "", 0, api.ErrDuplicate},
		{`list a "" "" "" "";`, `list a "1" "2" "3" "4";`, "", 0, api.ErrDuplicate},
		{`list a "" "" "" "";`, `list A "" "" "" "";`, "", -1, api.OK},
		{`unit a one "";`, `unit a one "{0}";`, "", 0, api.ErrDuplicate},
		{`unit a one "";`, `unit a two "";`, "", -1, api.OK},
		{`unit a one "";`, `unit b one "";`, "", -1, api.OK},
		{`unit a other "";`, `unit a other "";`, "", 0, api.ErrDuplicate},
		{`date a "";`, `date a "y";`, "", 0, api.ErrDuplicate},
		{`date a "";`, `date b "";`, "", -1, api.OK},
	} {
		head := "alias x y; locale q { " + c.before + " "
		s := head + c.item + c.behind + "}"
		want := len(head) + c.at
		if c.e == api.OK {
			want = 0
		}
		if got := check(t, s); got.at != want || got.e != c.e {
			t.Errorf("P12.1: Parse(%q): at %d with error %d, want %d with error %d", s, got.at, got.e, want, c.e)
		}
	}
}

// TestTooMany reads as many statements as there may be, one more, and one more that is wrong otherwise.
func TestTooMany(t *testing.T) {
	for _, c := range []struct {
		most                 int
		before, layout, last string // the layout has %d for a number
		again                bool   // a statement may be the same as another one
	}{
		{60, "", "locale a%d {}", "", true},
		{60, "near x y 1; ", "locale a%d parent a { direction ltr; }", "", true},
		{200, "locale a {} ", "alias a%d b;", "", true},
		{200, "alias x y; ", "near a b%d 3;", "", true},
		{10, "locale a { ", `list l%d "" "" "" "";`, "}", false},
		{100, "locale a { ", `unit u%d few "";`, "}", false},
		{30, "locale a { ", `date d%d "";`, "}", false},
	} {
		text := c.before
		for i := range c.most {
			text += fmt.Sprintf(c.layout, i)
		}
		if got := check(t, text+c.last); got.e != api.OK {
			t.Errorf("P12.1: %d times %s: at %d with error %d", c.most, c.layout, got.at, got.e)
		}
		more := fmt.Sprintf(c.layout, c.most)
		for _, end := range []string{c.last, "", "x", ";"} {
			if got := check(t, text+more+end); !got.equals(result{at: len(text), e: api.ErrLimit}) {
				t.Errorf("P12.1: %d times %s and %q: at %d with error %d", c.most+1, c.layout, end, got.at, got.e)
			}
		}
		wrong := more[:len(more)-1]
		if got := check(t, text+wrong); !got.equals(result{at: len(text + wrong), e: api.ErrSyntax}) {
			t.Errorf("P12.1: %d times %s, which does not end: at %d with error %d", c.most+1, c.layout, got.at, got.e)
		}
		want := api.ErrDuplicate
		if c.again {
			want = api.ErrLimit
		}
		if got := check(t, text+fmt.Sprintf(c.layout, 1)); !got.equals(result{at: len(text), e: want}) {
			t.Errorf("P12.1: %d times %s, the last one twice: at %d with error %d, want error %d", c.most+1, c.layout, got.at, got.e, want)
		}
	}
}

func TestErrorInLocaleThatIsTooMuch(t *testing.T) {
	text := strings.Repeat("locale a {}", 60)
	for _, c := range []struct {
		item string
		at   int
		e    api.Errno
	}{{"", 0, api.ErrLimit}, {"direction up;", 21, api.ErrUnknown}, {"direction ltr;direction ltr;", 25, api.ErrDuplicate}, {"x", 11, api.ErrSyntax}} {
		if got := check(t, text+"locale x { "+c.item+"}"); !got.equals(result{at: len(text) + c.at, e: c.e}) {
			t.Errorf("P12.1: 61 locales, the last one with %q: at %d with error %d", c.item, got.at-len(text), got.e)
		}
	}
}

func TestLongTexts(t *testing.T) {
	for _, c := range []struct {
		s    string
		size int
		at   int
		e    api.Errno
	}{
		{"alias a b;", 200000, 0, api.OK}, {"alias a b;", 200001, 0, api.ErrLimit}, {"alias a b; x", 200000, 11, api.ErrSyntax}, {"alias a b; x", 200001, 0, api.ErrLimit},
		{"=", 200000, 0, api.ErrSyntax}, {"=", 200001, 0, api.ErrLimit}, {"alias a b", 200000, 200000, api.ErrSyntax}, {a(41), 200000, 0, api.ErrLimit}, {" " + a(41), 200001, 0, api.ErrLimit}, {"", 200000, 0, api.OK}, {"", 5000000, 0, api.ErrLimit},
	} {
		for _, blank := range []string{" ", "\n", "#"} {
			s := c.s + strings.Repeat(blank, c.size-len(c.s))
			got := check(t, s)
			if got.at != c.at || got.e != c.e || got.e != api.OK && !same(got.table, api.Table{}) {
				t.Errorf("P12.1: %q with %d bytes: at %d with error %d, want %d with error %d", c.s, c.size, got.at, got.e, c.at, c.e)
			}
		}
	}
}

// sequences calls a function with all sequences of at most so many words, with spaces between them.
func sequences(words []string, most int, f func(string)) {
	f("")
	if most > 0 {
		for _, w := range words {
			sequences(words, most-1, func(s string) { f(w + " " + s) })
		}
	}
}

func TestShortTexts(t *testing.T) {
	good := 0
	count := func(s string) {
		if check(t, s).e == api.OK {
			good++
		}
	}
	sequences([]string{"locale", "alias", "near", "parent", "direction", "x", "5", "1001", `"n=1"`, "{", "}", ";"}, 5, count)
	for _, head := range []string{"locale a { ", "locale a { direction ltr; cardinal one \"n=1\"; unit one one \"\"; "} {
		inner := []string{"direction", "cardinal", "ordinal", "symbols", "list", "unit", "date", "months", "days", "one", "other", "rtl", "7", "10", `""`, `"n=2"`, "}", ";", "{"}
		sequences(inner, 4, func(s string) {
			if strings.Contains(s, ";") {
				count(head + s + "}")
			}
		})
	}
	if good < 150 {
		t.Errorf("only %d texts have a table", good)
	}
}

// whole has all kinds of statements, in the smallest number.
const whole = `near a b 7 ; locale en parent und { direction rtl ; cardinal one "n = 1" ; ordinal few "n = 2" ; symbols "." "" "-" "%" 3 2 ; list and "1" "2" "3" "4" ; unit km other "{0}" ; unit km many "{0}" ; date yMd "y" ; months "1" "2" "3" "4" "5" "6" "7" "8" "9" "10" "11" "12" ; days "1" "2" "3" "4" "5" "6" "7" ; } alias c d ; locale de { }`

// tokensOf returns the tokens of a text as they are written.
func tokensOf(t *testing.T, s string) (l []string) {
	t.Helper()
	tokens, _, e := lexeme.Tokens(s)
	if e != api.OK {
		t.Fatalf("%q has the error %d", s, e)
	}
	for _, token := range tokens {
		text, _ := lexeme.Spell([]lexeme.Token{token})
		l = append(l, text)
	}
	return l
}

func TestOneOtherToken(t *testing.T) {
	tokens := tokensOf(t, whole)
	others := []string{
		"{", "}", ";", `""`, `"n = 1"`, `"n = 101"`, `"n = 1,2,3,4,5"`, `"x"`, "x", "parent", "locale", "alias", "near", "direction", "cardinal", "ordinal", "symbols", "list", "unit", "date", "months", "days",
		"ltr", "rtl", "zero", "one", "two", "few", "many", "other", "0", "9", "10", "1000", "1001", "000", "999999", "1000000", "=", `"`, "#",
	}
	for i := range tokens {
		check(t, strings.Join(slices.Delete(slices.Clone(tokens), i, i+1), " "))
		check(t, strings.Join(tokens[:i], " "))
		check(t, strings.Join(tokens[i:], " "))
		for _, other := range others {
			check(t, strings.Join(slices.Concat(tokens[:i], []string{other}, tokens[i:]), " "))
			check(t, strings.Join(slices.Concat(tokens[:i], []string{other}, tokens[i+1:]), " "))
		}
		for j := range tokens {
			moved := slices.Clone(tokens)
			moved[i], moved[j] = moved[j], moved[i]
			check(t, strings.Join(moved, " "))
		}
	}
}

func TestOneOtherByte(t *testing.T) {
	for _, s := range []string{whole, strings.ReplaceAll(whole, " ", "\n")} {
		for i := range s {
			check(t, s[:i])
			check(t, s[:i]+s[i+1:])
			for c := range 256 {
				check(t, s[:i]+string([]byte{byte(c)})+s[i+1:])
			}
		}
	}
}

func TestSampleWithOtherBytes(t *testing.T) {
	s, _ := table.Print(table.Sample())
	for i := range s {
		check(t, s[:i])
		check(t, s[i:])
		for _, other := range []string{"", "{", ";", `"`, "x", "1", " ", "\n", "#"} {
			check(t, s[:i]+other+s[i+1:])
		}
	}
}

// TestRandomTexts reads texts of valid tables, with some tokens changed.
func TestRandomTexts(t *testing.T) {
	r := rand.New(rand.NewSource(12))
	errors := map[api.Errno]int{}
	for range 5000 {
		x := api.Table{Locales: []api.Locale{randomLocale(r)}, Near: []api.Near{{From: "a", To: "b", Cost: 5}}}
		tokens := tokensOf(t, textOf(x))
		for range r.Intn(3) {
			i := r.Intn(len(tokens))
			from, to := statementAt(tokens, i)
			switch r.Intn(5) {
			case 0:
				tokens[i] = tokens[r.Intn(len(tokens))]
			case 1, 2:
				tokens[i] = likeToken(r, tokens[i])
			case 3:
				tokens = slices.Insert(tokens, to, slices.Clone(tokens[from:to])...)
			case 4:
				tokens = slices.Delete(tokens, i, min(i+1+r.Intn(2), len(tokens)-1))
			}
		}
		errors[check(t, strings.Join(tokens, oneOf(r, []string{" ", "\n", " # a\n", "\t"}))).e]++
	}
	for _, e := range []api.Errno{api.OK, api.ErrSyntax, api.ErrUnknown, api.ErrRange, api.ErrDuplicate, api.ErrLimit} {
		if errors[e] < 15 {
			t.Errorf("only %d texts with the error %d", errors[e], e)
		}
	}
}

// likeToken returns another token of the same kind.
func likeToken(r *rand.Rand, token string) string {
	switch {
	case isNumber(token):
		return oneOf(r, []string{"0", "9", "10", "1000", "1001", "01", "1000000"})
	case strings.HasPrefix(token, `"`):
		return oneOf(r, []string{`""`, `"n = 1"`, `"i % 7 = 1"`, `"n = 1,2,3,4,5"`, `"v=0..6 or v=7"`, quote(a(400))})
	case isWord(token):
		return oneOf(r, []string{"one", "two", "other", "ltr", "rtl", "x", "list", "date", "w0", "w1", "-0"})
	}
	return oneOf(r, []string{"{", "}", ";"})
}

// statementAt returns where the item or the part around a token begins and ends.
func statementAt(tokens []string, i int) (from, to int) {
	for from = i; from > 0 && tokens[from-1] != ";" && tokens[from-1] != "{"; {
		from--
	}
	for to = i + 1; to < len(tokens) && tokens[to-1] != ";" && tokens[to-1] != "}"; {
		to++
	}
	return from, to
}
