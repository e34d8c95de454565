package build

import (
	"fairlead/amount"
	"fairlead/bits"
	"fairlead/header"
)

// none is no node, no place, and no label.
const none = -1

// node is a point on the way between places. Which of some ways it is may be open
// still there, so that unlike ways of a row have it in common. What they have in
// common is told ahead of it, so that rows that differ in that alone have it in
// common, too.
type node struct {
	ways  []way // what is left of them
	moves []move
}

// lays: is nothing to be taken away any more at a node? Then it needs no state of
// its own: there is a label on top that was laid there, and tells what is left.
func (n node) lays() bool { return n.ways[0].deep == "" }

// move is what one may do at a node.
type move struct {
	tops  []int  // the labels that may be taken away; where one only lays, the node's own
	push  string // what is laid on in its stead, as in a way's word
	to    int    // the node behind it; none: a place
	out   int    // the place's link
	needs bits.Set
	cost  uint64
}

// tells: the move, that tells what a way asks.
func (m move) tells(w way) move {
	m.needs = m.needs.Or(w.needs)
	m.cost = amount.Add(m.cost, w.cost)
	return m
}

// plan has all nodes that there are, whatever the paths, and however many links are
// counted as failed.
type plan struct {
	kinds  []int
	labels [header.Mid + 1][]int // of each kind
	nodes  []node
	known  map[string]int // nodes, by what is left at them
	ids    map[way]int    // numbers of ways
	asks   [levels][]ask
}

// planOf: with the nodes of the links first, at which their rows' ways begin.
func planOf(kinds []int, links [][]row) *plan {
	p := &plan{kinds: kinds, known: map[string]int{}, ids: map[way]int{}}
	for label, kind := range kinds {
		p.labels[kind] = append(p.labels[kind], label)
	}
	p.nodes = make([]node, len(links))
	for link, rows := range links {
		for _, r := range rows {
			p.goOn(link, []int{r.top}, r.ways)
		}
	}
	for at := levels - 1; at >= 0; at-- {
		p.decide(p.asks[at])
	}
	return p
}

// goOn: the moves of a node once one of some labels was taken away, and there are
// those ways.
func (p *plan) goOn(from int, tops []int, ways []way) {
	var deep []way
	var first [same + 1][]way // by what is laid on first
	for _, w := range ways {
		switch {
		case w.deep != "":
			deep = append(deep, w)
		case len(w.word) <= 2:
			p.add(from, move{tops: tops, push: w.word, to: none, out: w.out}.tells(w))
		default:
			label := w.word[0]
			w.word = w.word[1:]
			first[label] = append(first[label], w)
		}
	}
	p.ask(from, move{tops: tops}, deep)
	for label, ways := range first {
		p.ask(from, move{tops: tops, push: string([]byte{byte(label)})}, ways)
	}
}

// add: a move of a node.
func (p *plan) add(from int, m move) {
	p.nodes[from].moves = append(p.nodes[from].moves, m)
}

// node: the one at which some ways are left.
func (p *plan) node(ways []way) int {
	key := p.key(ways)
	if at, ok := p.known[key]; ok {
		return at
	}
	at := len(p.nodes)
	p.known[key] = at
	p.nodes = append(p.nodes, node{ways: ways})
	if ways[0].deep == "" {
		p.goOn(at, nil, ways)
		return at
	}
	for kind, labels := range p.labels {
		if len(labels) > 0 {
			p.dig(at, labels, under(ways, kind))
		}
	}
	return at
}

// dig: the moves of a node by which labels of a kind are taken away.
func (p *plan) dig(at int, labels []int, ways []way) {
	var deep, fresh, again []way
	for _, w := range ways {
		switch {
		case w.deep != "":
			deep = append(deep, w)
		case w.word != "" && w.word[0] == same:
			again = append(again, w)
		default:
			fresh = append(fresh, w)
		}
	}
	p.ask(at, move{tops: labels}, deep)
	p.lay(at, labels, 0, fresh)
	p.lay(at, labels, 1, again)
}

// lay: the moves behind which one lays on, whose words have so many labels ahead
// that are laid on at once. Of many labels and many ways there would be a rule of
// each with each; so one label is laid on first, which stands for any of them.
func (p *plan) lay(at int, labels []int, ahead int, ways []way) {
	if len(labels)*len(ways) <= 8*(len(labels)+len(ways)) {
		p.goOn(at, labels, ways)
		return
	}
	m := move{tops: labels, push: ways[0].word[:ahead]}
	for i, w := range ways {
		ways[i].word = w.word[ahead:]
	}
	p.ask(at, m, ways)
}

// under: the ways that are left once a label of a kind was taken away.
func under(ways []way, kind int) []way {
	var l []way
	for _, w := range ways {
		kinds := bits.Set{uint64(w.deep[0])}
		if kinds.Has(kind) {
			w.deep = w.deep[1:]
			l = append(l, w)
		}
	}
	return l
}
