package decide

import (
	"slices"

	"calque/api"
)

// set is a set of relations, or of conditions, by their indices.
type set uint64

// relations are those of some valid conditions, 60 at most.
type relations struct {
	all   []api.Relation
	lists [][]set // for each condition, the relations of each of its lists

	// The scales of the whole part, of the number of digits behind the point, and of these digits.
	ofWhole, ofCount, ofFraction scale
}

// relationsOf returns the relations of valid conditions.
func relationsOf(conditions []api.Cond) *relations {
	r := &relations{}
	for _, c := range conditions {
		var lists []set
		for _, l := range c {
			lists = append(lists, (set(1)<<len(l)-1)<<len(r.all))
			r.all = append(r.all, l...)
		}
		r.lists = append(r.lists, lists)
	}
	r.ofWhole = r.scaleOf(api.OperandN, api.OperandI)
	r.ofCount = r.scaleOf(api.OperandV, api.OperandW)
	r.ofFraction = r.scaleOf(api.OperandF, api.OperandT)
	return r
}

// scale divides the integers from 0 on into classes: those below lead are alone, and the others are together
// if they differ by a multiple of period. With one more digit, or increased by 1, the integers of a class are in
// one class again; so its first integer can stand for all of them.
type scale struct{ lead, period int }

// scaleOf returns a scale such that each relation on some operands holds for a whole class, or for none of it.
func (r *relations) scaleOf(operands ...int) scale {
	s := scale{period: 1}
	for _, x := range r.all {
		switch {
		case !slices.Contains(operands, x.Operand):
		case x.Mod == 0:
			s.lead = max(s.lead, greatest(x)+1)
		default:
			s.period = commonMultiple(s.period, x.Mod)
		}
	}
	return s
}

// commonMultiple returns the least common multiple of two positive integers.
func commonMultiple(a, b int) int {
	n := a
	for n%b != 0 {
		n += a
	}
	return n
}

// first returns the first integer of the class of an integer.
func (s scale) first(n int) int {
	if n < s.lead {
		return n
	}
	return s.lead + (n-s.lead)%s.period
}

// on returns the set of the relations on an operand.
func (r *relations) on(operand int) set {
	var l set
	for i, x := range r.all {
		if x.Operand == operand {
			l |= 1 << i
		}
	}
	return l
}

// update returns what becomes of the relations that hold, if an operand gets another value.
func (r *relations) update(hold set, operand, value int) set {
	for i, x := range r.all {
		switch {
		case x.Operand != operand:
		case holds(x, value):
			hold |= 1 << i
		default:
			hold &^= 1 << i
		}
	}
	return hold
}

// holds reports whether a relation holds for the value of its operand.
func holds(x api.Relation, value int) bool {
	if x.Mod != 0 {
		value %= x.Mod
	}
	lies := slices.ContainsFunc(x.Spans, func(s api.Span) bool { return s.From <= value && value <= s.To })
	return lies != x.Not
}

// conditions returns the set of the conditions that hold, if exactly these relations do.
func (r *relations) conditions(hold set) set {
	var l set
	for i, lists := range r.lists {
		if slices.ContainsFunc(lists, func(all set) bool { return all&^hold == 0 }) {
			l |= 1 << i
		}
	}
	return l
}
