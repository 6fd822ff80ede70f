package automaton

// partition divides states into blocks.
type partition struct {
	order   []int32 // the states, block by block
	place   []int32 // the index of each state in order
	blockOf []int32 // the block of each state
	blocks  []block
	touched []int32 // the blocks with marked states
}

// block is a range of the order of a partition. Its marked states are at its beginning.
type block struct{ from, to, marked int32 }

// whole returns the partition of some states that has one block.
func whole(states int) *partition {
	p := &partition{
		order:   make([]int32, states),
		place:   make([]int32, states),
		blockOf: make([]int32, states),
		blocks:  []block{{to: int32(states)}},
	}
	for s := range int32(states) {
		p.order[s], p.place[s] = s, s
	}
	return p
}

// mark marks a state that is not marked.
func (p *partition) mark(s int32) {
	b := &p.blocks[p.blockOf[s]]
	if b.marked == 0 {
		p.touched = append(p.touched, p.blockOf[s])
	}
	i, j := p.place[s], b.from+b.marked
	t := p.order[j]
	p.order[i], p.order[j] = t, s
	p.place[t], p.place[s] = i, j
	b.marked++
}

// split divides each block that has marked states and others. The smaller part of it becomes a new block.
func (p *partition) split() {
	for _, i := range p.touched {
		b := &p.blocks[i]
		middle, marked := b.from+b.marked, b.marked
		b.marked = 0
		switch others := b.to - middle; {
		case others == 0:
		case marked < others:
			part := block{from: b.from, to: middle}
			b.from = middle
			p.add(part)
		default:
			part := block{from: middle, to: b.to}
			b.to = middle
			p.add(part)
		}
	}
	p.touched = p.touched[:0]
}

// add adds a block.
func (p *partition) add(b block) {
	for _, s := range p.order[b.from:b.to] {
		p.blockOf[s] = int32(len(p.blocks))
	}
	p.blocks = append(p.blocks, b)
}

// states returns the states of a block.
func (p *partition) states(i int) []int32 {
	b := p.blocks[i]
	return append([]int32(nil), p.order[b.from:b.to]...)
}

// classes returns the partition of a graph into the classes of equivalent states, or some partition with
// more than MaxStates blocks, if there are more classes than that.
//
// The states of a block are divided if a symbol leads from some of them, but not from all, into some block.
// Each block is used only once for this, with the states that it has then; as a smaller part of it becomes a
// new block, which is used later, the rest needs no second look. So no state is looked at more often than
// its block can be halved (Hopcroft's algorithm). The first block begins with all states, into which each
// symbol leads from all of them, so it is not used at all.
func (g graph) classes() *partition {
	p := whole(len(g.next))
	for s, accepts := range g.accept {
		if accepts {
			p.mark(int32(s))
		}
	}
	p.split()
	back := g.reversed()
refine:
	for i := 1; i < len(p.blocks); i++ {
		targets := p.states(i)
		for c := range Symbols {
			if len(p.blocks) > MaxStates {
				break refine
			}
			for _, t := range targets {
				for s := back.first[t][c]; s != none; s = back.other[s][c] {
					p.mark(s)
				}
			}
			p.split()
		}
	}
	return p
}

// none stands for no state.
const none = -1

// sources has lists of the states from which a symbol leads to a state.
type sources struct {
	first [][Symbols]int32 // for the state, the first one of the list, or none
	other [][Symbols]int32 // for a state of the list, the next one, or none
}

// reversed returns the sources of the states of a graph.
func (g graph) reversed() sources {
	l := sources{make([][Symbols]int32, len(g.next)), make([][Symbols]int32, len(g.next))}
	for t := range l.first {
		for c := range Symbols {
			l.first[t][c] = none
		}
	}
	for s, row := range g.next {
		for c, t := range row {
			l.other[s][c] = l.first[t][c]
			l.first[t][c] = int32(s)
		}
	}
	return l
}
