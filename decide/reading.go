package decide

import (
	"calque/api"
	"calque/automaton"
)

// characters are those of the symbols. The point is another one here, which is greater than the digits, so
// that words of the same length are ordered as strings.
const characters = "0123456789:"

// The digits are the symbols ahead of the point.
const (
	point  = automaton.Symbols - 1
	digits = point
)

// noValue stands for the operand n of a number that has none. It lies in no span, whatever the modulus is.
const noValue = -1

// The places of a decimal word.
const (
	atStart = iota
	inWhole
	atPoint
	inFraction
	wrong // no decimal word begins like this
)

// reading is what there is to know of the beginning of a word. Its integers are the first ones of their classes.
// Two words with the same reading are alike for the relations, whatever follows behind them.
type reading struct {
	place     int
	hold      set // the relations that hold, if this is the word
	count     int // of the digits of the fraction
	tenfold   int // the digits of the whole part, or of the fraction, with a 0 behind them
	isInteger bool
}

// start returns the reading at the start, or at the point behind a whole part for which no relation holds.
func (r *relations) start(place int) reading {
	x := reading{place: place, isInteger: true}
	for _, operand := range []int{api.OperandV, api.OperandW, api.OperandF, api.OperandT} {
		x.hold = r.update(x.hold, operand, 0)
	}
	return x
}

// next returns the reading with one more symbol.
func (r *relations) next(x reading, symbol int) reading {
	switch {
	case symbol == point && x.place == inWhole:
		x.place, x.tenfold = atPoint, 0
		return x
	case symbol == point || x.place == wrong:
		return reading{place: wrong}
	case x.place == atStart || x.place == inWhole:
		return r.nextOfWhole(x, symbol)
	}
	return r.nextOfFraction(x, symbol)
}

// nextOfWhole returns the reading with one more digit of the whole part.
func (r *relations) nextOfWhole(x reading, digit int) reading {
	n := x.tenfold + digit
	x.hold = r.update(x.hold, api.OperandN, n)
	x.hold = r.update(x.hold, api.OperandI, n)
	x.place, x.tenfold = inWhole, r.ofWhole.first(10*n)
	return x
}

// nextOfFraction returns the reading with one more digit of the fraction.
func (r *relations) nextOfFraction(x reading, digit int) reading {
	n := x.tenfold + digit
	x.place, x.tenfold = inFraction, r.ofFraction.first(10*n)
	x.count = r.ofCount.first(x.count + 1)
	x.hold = r.update(x.hold, api.OperandV, x.count)
	x.hold = r.update(x.hold, api.OperandF, n)
	if digit != 0 {
		x.isInteger = false
		x.hold = r.update(x.hold, api.OperandN, noValue)
		x.hold = r.update(x.hold, api.OperandW, x.count)
		x.hold = r.update(x.hold, api.OperandT, n)
	}
	return x
}

// arrival is a reading with the first word that leads to it.
type arrival struct {
	word    string
	reading reading
}

// search returns all readings to which words with some of the symbols lead from a given one, in the order of the first
// such words. None of the words is longer than so many symbols.
func (r *relations) search(from reading, symbols, longest int) []arrival {
	queue, known := []arrival{{"", from}}, map[reading]bool{from: true}
	for i := 0; i < len(queue); i++ {
		x := queue[i]
		if len(x.word) == longest {
			break
		}
		for c := range symbols {
			next := r.next(x.reading, c)
			if !known[next] {
				known[next] = true
				queue = append(queue, arrival{x.word + characters[c:c+1], next})
			}
		}
	}
	return queue
}

// automaton returns the minimal automaton of the only condition, whose weight is at most MaxWeight: this leaves about
// a thousand readings at most, so that neither they nor the automaton exceed the limit of layer 9.
func (r *relations) automaton() (automaton.DFA, api.Errno) {
	states := r.search(r.start(atStart), automaton.Symbols, automaton.MaxStates)
	numbers := map[reading]int{}
	for s, x := range states {
		numbers[x.reading] = s
	}
	d := automaton.DFA{Next: make([][]int, len(states)), Accept: make([]bool, len(states))}
	for s, x := range states {
		for c := range automaton.Symbols {
			d.Next[s] = append(d.Next[s], numbers[r.next(x.reading, c)])
		}
		isWord := x.reading.place == inWhole || x.reading.place == inFraction
		d.Accept[s] = isWord && r.conditions(x.reading.hold) == 1
	}
	return automaton.Minimal(d)
}
