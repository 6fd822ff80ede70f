package automaton

import (
	"calque/api"
)

// graph has the states that can be reached from the state 0, in the order of the first words that lead to them.
// There may be many more of them than an automaton has, so their numbers are small.
type graph struct {
	next   [][Symbols]int32
	accept []bool
}

// graphOf returns the graph of a valid automaton.
func graphOf(d DFA) graph {
	return explore(d.Start,
		func(s, c int) int { return d.Next[s][c] },
		func(s int) bool { return d.Accept[s] },
	)
}

// explore returns the graph of all that can be reached from a start by steps.
func explore[K comparable](start K, step func(k K, c int) K, accepts func(k K) bool) graph {
	var g graph
	numbers, found := map[K]int32{start: 0}, []K{start}
	for s := 0; s < len(found); s++ {
		var row [Symbols]int32
		for c := range row {
			k := step(found[s], c)
			number, ok := numbers[k]
			if !ok {
				number = int32(len(found))
				numbers[k] = number
				found = append(found, k)
			}
			row[c] = number
		}
		g.next = append(g.next, row)
		g.accept = append(g.accept, accepts(found[s]))
	}
	return g
}

// arrow leads from a state by a symbol.
type arrow struct{ from, symbol int }

// firstWord returns the first word that leads to a state.
func (g graph) firstWord(s int) string {
	// arrows has for each state the one by which it was found, as states are numbered in that order.
	arrows, found := make([]arrow, len(g.next)), 0
	for from, row := range g.next {
		for c, t := range row {
			if int(t) > found {
				found = int(t)
				arrows[t] = arrow{from, c}
			}
		}
	}
	word := ""
	for ; s > 0; s = arrows[s].from {
		c := arrows[s].symbol
		word = characters[c:c+1] + word
	}
	return word
}

// minimal returns the minimal automaton of a graph, or ErrLimit.
func (g graph) minimal() (DFA, api.Errno) {
	p := g.classes()
	if len(p.blocks) > MaxStates {
		return DFA{}, api.ErrLimit
	}
	// The first words lead to the classes in the same order as to the first states of these, so that no
	// other search is needed.
	numbers := make([]int, len(p.blocks))
	var firsts []int
	for s := range g.next {
		if b := p.blockOf[s]; numbers[b] == 0 {
			firsts = append(firsts, s)
			numbers[b] = len(firsts)
		}
	}
	d := DFA{Next: rows(len(firsts)), Accept: make([]bool, len(firsts))}
	for i, s := range firsts {
		for c, t := range g.next[s] {
			d.Next[i][c] = numbers[p.blockOf[t]] - 1
		}
		d.Accept[i] = g.accept[s]
	}
	return d, api.OK
}

// rows returns a number of rows in one array. Each has a capacity of its own, so that nothing that is
// appended to it is written into the next one.
func rows(n int) [][]int {
	cells, l := make([]int, n*Symbols), make([][]int, n)
	for i := range l {
		l[i] = cells[i*Symbols : (i+1)*Symbols : (i+1)*Symbols]
	}
	return l
}
