package table

import (
	"slices"
	"strconv"
	"strings"

	"calque/api"
	"calque/condition"
	"calque/lexeme"
)

// Print returns the text of a table.
func Print(t api.Table) (string, api.Errno) {
	if !Valid(t) {
		return "", api.ErrArg
	}
	text := join(t.Locales, localeText) + join(t.Aliases, aliasLine) + join(t.Near, nearLine)
	if len(text) > api.MaxFile {
		return "", api.ErrLimit
	}
	return text, api.OK
}

// join returns the texts of the elements of a list, one after the other.
func join[T any](l []T, text func(T) string) string {
	var b strings.Builder
	for _, x := range l {
		b.WriteString(text(x))
	}
	return b.String()
}

// line returns the line with some tokens.
func line(tokens ...[]lexeme.Token) string {
	text, _ := lexeme.Spell(slices.Concat(tokens...))
	return text + ";\n"
}

// item returns the line with some tokens in a locale.
func item(tokens ...[]lexeme.Token) string {
	return "\t" + line(tokens...)
}

// words returns the tokens of words.
func words(l ...string) []lexeme.Token {
	return tokensOf(lexeme.Word, l)
}

// texts returns the tokens of texts.
func texts(l ...string) []lexeme.Token {
	return tokensOf(lexeme.String, l)
}

// tokensOf returns tokens of a kind.
func tokensOf(kind int, l []string) []lexeme.Token {
	tokens := make([]lexeme.Token, len(l))
	for i, s := range l {
		tokens[i] = lexeme.Token{Kind: kind, Text: s}
	}
	return tokens
}

// number returns the token of a number.
func number(n int) []lexeme.Token {
	return words(strconv.Itoa(n))
}

// localeText returns the text of a locale.
func localeText(l api.Locale) string {
	head := "locale " + l.Tag
	if l.Parent != "" {
		head += " parent " + l.Parent
	}
	return head + " {\n" +
		directionItem(l.Direction) +
		join(l.Cardinal, func(r api.Rule) string { return ruleItem("cardinal", r) }) +
		join(l.Ordinal, func(r api.Rule) string { return ruleItem("ordinal", r) }) +
		symbolsItem(l.Symbols) +
		join(l.Lists, listItem) +
		join(l.Units, unitItem) +
		join(l.Dates, dateItem) +
		namesItem("months", l.Months) +
		namesItem("days", l.Days) +
		"}\n"
}

// The following functions return the lines of items, or nothing for what a locale does not have.

func directionItem(direction string) string {
	if direction == "" {
		return ""
	}
	return item(words("direction", direction))
}

func ruleItem(keyword string, r api.Rule) string {
	text, _ := condition.Print(r.Cond)
	return item(words(keyword, r.Class), texts(text))
}

func symbolsItem(s api.Symbols) string {
	if s.Decimal == "" {
		return ""
	}
	return item(words("symbols"), texts(s.Decimal, s.Group, s.Minus, s.Percent), number(s.Primary), number(s.Secondary))
}

func listItem(l api.ListPattern) string {
	return item(words("list", l.Style), texts(l.Two, l.Start, l.Middle, l.End))
}

func unitItem(u api.UnitPattern) string {
	return item(words("unit", u.Unit, u.Class), texts(u.Pattern))
}

func dateItem(d api.DatePattern) string {
	return item(words("date", d.Skeleton), texts(d.Pattern))
}

func namesItem(keyword string, names []string) string {
	if len(names) == 0 {
		return ""
	}
	return item(words(keyword), texts(names...))
}

// aliasLine returns the line of an alias.
func aliasLine(a api.Alias) string {
	return line(words("alias", a.From, a.To))
}

// nearLine returns the line of a near entry.
func nearLine(n api.Near) string {
	return line(words("near", n.From, n.To), number(n.Cost))
}
