package table

import (
	"slices"

	"calque/api"
	"calque/condition"
	"calque/lexeme"
)

// Parse returns the table with a text.
func Parse(s string) (t api.Table, at int, e api.Errno) {
	if len(s) > api.MaxFile {
		return api.Table{}, 0, api.ErrLimit
	}
	tokens, at, e := lexeme.Tokens(s)
	if e != api.OK {
		return api.Table{}, at, e
	}
	p := parser{tokens: append(tokens, lexeme.Token{From: len(s)})}
	p.table()
	if p.failure != api.OK {
		return api.Table{}, p.at, p.failure
	}
	return p.result, 0, api.OK
}

// parser reads tokens one by one. When it has failed, it stays at the current one, and what it reads does not matter.
type parser struct {
	tokens  []lexeme.Token // from the current one on; the last one has no kind, and is the end of the text
	result  api.Table
	current api.Locale // the one that is being read
	at      int        // the offset of the first error
	failure api.Errno  // the first error, which stays
}

// statement is a part of a table or an item of a locale.
// Its method reads what is behind the keyword, and returns what is wrong with the whole.
type statement struct {
	keyword string
	read    func(*parser) api.Errno
}

// parts returns the parts that a table may have.
func parts() []statement {
	return []statement{
		{"locale", (*parser).locale},
		{"alias", (*parser).alias},
		{"near", (*parser).near},
	}
}

// items returns the items that a locale may have.
func items() []statement {
	return []statement{
		{"direction", (*parser).direction},
		{"cardinal", (*parser).cardinal},
		{"ordinal", (*parser).ordinal},
		{"symbols", (*parser).symbols},
		{"list", (*parser).list},
		{"unit", (*parser).unit},
		{"date", (*parser).date},
		{"months", (*parser).months},
		{"days", (*parser).days},
	}
}

// fail keeps an error, if there is one and it is the first.
func (p *parser) fail(at int, e api.Errno) {
	if p.failure == api.OK && e != api.OK {
		p.at, p.failure = at, e
	}
}

// require lets the parser fail at the current token, unless something is true.
func (p *parser) require(ok bool, e api.Errno) {
	if !ok {
		p.fail(p.tokens[0].From, e)
	}
}

// is reports whether the current token has a kind and a text.
func (p *parser) is(kind int, text string) bool {
	return p.tokens[0].Kind == kind && p.tokens[0].Text == text
}

// expect returns the text of the current token, which must have a kind.
// It stays there, as there may be more to check.
func (p *parser) expect(kind int) string {
	p.require(p.tokens[0].Kind == kind, api.ErrSyntax)
	return p.tokens[0].Text
}

// next goes to the next token.
func (p *parser) next() {
	if p.failure == api.OK {
		p.tokens = p.tokens[1:]
	}
}

// mark reads a certain mark.
func (p *parser) mark(mark string) {
	p.require(p.expect(lexeme.Mark) == mark, api.ErrSyntax)
	p.next()
}

// word reads any word.
func (p *parser) word() string {
	word := p.expect(lexeme.Word)
	p.next()
	return word
}

// choice reads a word that must be one of those permitted.
func (p *parser) choice(isPermitted func(string) bool) string {
	word := p.expect(lexeme.Word)
	p.require(isPermitted(word), api.ErrUnknown)
	p.next()
	return word
}

// number reads a number that must not be too great.
func (p *parser) number(most int) int {
	n, ok := lexeme.Number(p.expect(lexeme.Word))
	p.require(ok, api.ErrSyntax)
	p.require(n <= most, api.ErrRange)
	p.next()
	return n
}

// text reads any text.
func (p *parser) text() string {
	text := p.expect(lexeme.String)
	p.next()
	return text
}

// texts reads so many texts.
func (p *parser) texts(count int) []string {
	l := make([]string, count)
	for i := range l {
		l[i] = p.text()
	}
	return l
}

// condition reads a text that must be that of a condition.
func (p *parser) condition() api.Cond {
	c, _, e := condition.Parse(p.expect(lexeme.String))
	p.fail(p.tokens[0].From, e)
	p.next()
	return c
}

// table reads the whole text.
func (p *parser) table() {
	choices := parts()
	for p.failure == api.OK && len(p.tokens) > 1 {
		p.statement(choices)
	}
}

// statement reads one of the statements that are permitted here.
func (p *parser) statement(choices []statement) {
	at := p.tokens[0].From
	i := slices.IndexFunc(choices, func(s statement) bool { return p.is(lexeme.Word, s.keyword) })
	if i < 0 {
		p.fail(at, api.ErrSyntax)
		return
	}
	p.next()
	p.fail(at, choices[i].read(p))
}

// add adds an element to the end of a list, if the list has none like it and is not full.
func add[T any](l *[]T, x T, most int, alike func(a, b T) bool) api.Errno {
	switch {
	case has(*l, x, alike):
		return api.ErrDuplicate
	case len(*l) >= most:
		return api.ErrLimit
	}
	*l = append(*l, x)
	return api.OK
}

// once returns the error of an item that a locale may have once, if it is there already.
func once(isThere bool) api.Errno {
	if isThere {
		return api.ErrDuplicate
	}
	return api.OK
}

// The following methods are those of the statements.

func (p *parser) locale() api.Errno {
	p.current = api.Locale{Tag: p.word()}
	if p.is(lexeme.Word, "parent") {
		p.next()
		p.current.Parent = p.word()
	}
	p.mark("{")
	choices := items()
	for p.failure == api.OK && !p.is(lexeme.Mark, "}") {
		p.statement(choices)
	}
	p.mark("}")
	return add(&p.result.Locales, p.current, api.MaxLocales, never)
}

func (p *parser) alias() api.Errno {
	a := api.Alias{From: p.word(), To: p.word()}
	p.mark(";")
	return add(&p.result.Aliases, a, mostAliases, never)
}

func (p *parser) near() api.Errno {
	n := api.Near{From: p.word(), To: p.word(), Cost: p.number(mostCost)}
	p.mark(";")
	return add(&p.result.Near, n, mostNear, never)
}

func (p *parser) direction() api.Errno {
	e := once(p.current.Direction != "")
	p.current.Direction = p.choice(isDirection)
	p.mark(";")
	return e
}

func (p *parser) cardinal() api.Errno {
	return add(&p.current.Cardinal, p.rule(), mostRules, sameClass)
}

func (p *parser) ordinal() api.Errno {
	return add(&p.current.Ordinal, p.rule(), mostRules, sameClass)
}

// rule reads the rest of a rule of either kind.
func (p *parser) rule() api.Rule {
	r := api.Rule{Class: p.choice(isRuleClass), Cond: p.condition()}
	p.mark(";")
	return r
}

func (p *parser) symbols() api.Errno {
	e := once(p.current.Symbols != api.Symbols{})
	p.require(p.tokens[0].Text != "", api.ErrSyntax)
	p.current.Symbols = api.Symbols{
		Decimal: p.text(), Group: p.text(), Minus: p.text(), Percent: p.text(),
		Primary: p.number(mostInGroup), Secondary: p.number(mostInGroup),
	}
	p.mark(";")
	return e
}

func (p *parser) list() api.Errno {
	l := api.ListPattern{Style: p.word(), Two: p.text(), Start: p.text(), Middle: p.text(), End: p.text()}
	p.mark(";")
	return add(&p.current.Lists, l, mostLists, sameStyle)
}

func (p *parser) unit() api.Errno {
	u := api.UnitPattern{Unit: p.word(), Class: p.choice(isClass), Pattern: p.text()}
	p.mark(";")
	return add(&p.current.Units, u, mostUnits, sameUnit)
}

func (p *parser) date() api.Errno {
	d := api.DatePattern{Skeleton: p.word(), Pattern: p.text()}
	p.mark(";")
	return add(&p.current.Dates, d, mostDates, sameSkeleton)
}

func (p *parser) months() api.Errno {
	e := once(len(p.current.Months) > 0)
	p.current.Months = p.texts(monthsOfYear)
	p.mark(";")
	return e
}

func (p *parser) days() api.Errno {
	e := once(len(p.current.Days) > 0)
	p.current.Days = p.texts(daysOfWeek)
	p.mark(";")
	return e
}
