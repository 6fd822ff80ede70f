package decide

import (
	"slices"
	"strings"

	"calque/api"
	"calque/condition"
)

// firsts has for each set of conditions the first number for which these hold and no others, or an empty string.
// The numbers have the characters of symbols.
type firsts []string

// firstsOf returns the first numbers for all sets of some conditions. As the lengths of the parts of a number add up,
// the first one of all numbers with such whole parts and such fractions has the first ones of these.
func firstsOf(conditions []api.Cond) (firsts, api.Errno) {
	isInvalid := func(c api.Cond) bool { return !condition.Valid(c) }
	if len(conditions) > mostConditions || slices.ContainsFunc(conditions, isInvalid) {
		return nil, api.ErrArg
	}
	r := relationsOf(conditions)
	l, fractions := make(firsts, 1<<len(conditions)), r.fractions()
	// The first reading is that of no digits.
	for _, whole := range r.search(r.start(atStart), digits, api.MaxDigits)[1:] {
		for _, f := range fractions {
			c := r.conditions(whole.reading.hold&f.kept | f.hold)
			if number := whole.word + f.text; isBefore(number, l[c]) {
				l[c] = number
			}
		}
	}
	return l, api.OK
}

// isBefore reports whether a number is in front of another one, which may be missing.
func isBefore(number, other string) bool {
	return other == "" || len(number) < len(other) || len(number) == len(other) && number < other
}

// where returns the first number for which something is true of the conditions that hold, or an empty string.
func (l firsts) where(is func(hold set) bool) string {
	first := ""
	for c, number := range l {
		if number != "" && is(set(c)) && isBefore(number, first) {
			first = number
		}
	}
	return strings.ReplaceAll(first, characters[point:], ".")
}

// fraction is the first one of some fractions that are alike for the relations.
type fraction struct {
	text       string // with the point, if there is one
	hold, kept set    // the relations that hold with it, whatever is ahead of it, and those that it leaves as they are
}

// fractions returns the first fractions of all kinds.
func (r *relations) fractions() []fraction {
	var l []fraction
	for _, x := range r.search(r.start(atPoint), digits, api.MaxFraction) {
		f := fraction{x.word, x.reading.hold, r.on(api.OperandI)}
		if x.word != "" {
			f.text = characters[point:] + x.word
		}
		if x.reading.isInteger {
			f.kept |= r.on(api.OperandN)
		}
		l = append(l, f)
	}
	return l
}
