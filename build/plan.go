package build

import (
	"slices"

	"fairlead/api"
	"fairlead/bits"
	"fairlead/cover"
	"fairlead/header"
)

// none is no node, no place, and no label.
const none = -1

// node is a point on the way between places. Which of some ways it is may be open
// still there, so that unlike ways of a row have it in common; or it is one way
// alone, of which all is told, so that rows have it in common.
type node struct {
	ways  []way // what is left of them
	moves []move
}

// lays: is nothing to be taken away any more at a node? Then it needs no state of
// its own: there is a label on top that was laid there, and tells what is left.
func (n node) lays() bool { return n.ways[0].deep == "" }

// move is what one may do at a node.
type move struct {
	tops []int  // the labels that may be taken away; where one only lays, the node's own
	push string // what is laid on in its stead, as in a way's word
	to   int    // the node behind it; none: a place of the link of the way that is told
	told way    // the way that it is, where that is told with the move
}

// plan has all nodes that there are, whatever the paths, and however many links are
// counted as failed.
type plan struct {
	kinds  []int
	labels [header.Mid + 1][]int // of each kind
	nodes  []node
	known  map[string]int // nodes, by what is left at them
	ids    map[way]int    // numbers of ways, of which what is left is told
	asks   [levels][]ask
}

// ask is a move behind which there are several ways, so that it isn't told yet
// whether it leads to one node, or to one of each way.
type ask struct {
	from int
	move move
	ways []way
}

// levels: of nodes. There is always less left behind a move.
const levels = 2 * (api.MaxOps + 2)

// level: what is taken away comes ahead of all that is laid on.
func level(ways []way) int {
	most := 0
	for _, w := range ways {
		if w.deep != "" {
			most = max(most, api.MaxOps+2+len(w.deep))
		}
		most = max(most, len(w.word))
	}
	return most
}

// planOf: with the nodes of the links first, at which their rows' ways begin.
func planOf(kinds []int, links [][]row) *plan {
	p := &plan{kinds: kinds, known: map[string]int{}, ids: map[way]int{}}
	for label, kind := range kinds {
		p.labels[kind] = append(p.labels[kind], label)
	}
	p.nodes = make([]node, len(links))
	for link, rows := range links {
		for _, r := range rows {
			p.goOn(link, []int{r.top}, r.ways)
		}
	}
	for at := levels - 1; at >= 0; at-- {
		p.decide(p.asks[at])
	}
	return p
}

// goOn: the moves of a node once one of some labels was taken away, and there are
// those ways.
func (p *plan) goOn(from int, tops []int, ways []way) {
	var deep []way
	var first [same + 1][]way // by what is laid on first
	for _, w := range ways {
		switch {
		case w.deep != "":
			deep = append(deep, w)
		case len(w.word) <= 2:
			p.add(from, move{tops: tops, push: w.word, to: none, told: w})
		default:
			label := w.word[0]
			w.word = w.word[1:]
			first[label] = append(first[label], w)
		}
	}
	p.ask(from, move{tops: tops}, deep)
	for label, ways := range first {
		p.ask(from, move{tops: tops, push: string([]byte{byte(label)})}, ways)
	}
}

// add: a move of a node.
func (p *plan) add(from int, m move) {
	p.nodes[from].moves = append(p.nodes[from].moves, m)
}

// ask: a move behind which there are some ways.
func (p *plan) ask(from int, m move, ways []way) {
	switch {
	case len(ways) == 0:
	case len(p.members(ways)) == 1:
		p.apart(ask{from, m, ways})
	default:
		at := level(ways)
		p.asks[at] = append(p.asks[at], ask{from, m, ways})
	}
}

// apart: a move to the node of each way, that tells what its entry asks.
func (p *plan) apart(a ask) {
	for _, w := range a.ways {
		a.move.told = w
		a.move.to = p.node([]way{{rest: w.rest}})
		p.add(a.from, a.move)
	}
}

// decide: whether the ways behind moves go on together, so that there are as few
// nodes as can be: for each of them there are as many states as there are lists of
// states of the paths, and counts of failed links.
func (p *plan) decide(asks []ask) {
	var sets [][]int
	of := map[string]int{} // the sets of what is left
	for _, a := range asks {
		key := p.key(a.ways)
		if _, ok := of[key]; !ok {
			of[key] = len(sets)
			sets = append(sets, p.missing(a.ways))
		}
	}
	apart := cover.Split(sets, len(p.ids))
	for _, a := range asks {
		if apart[of[p.key(a.ways)]] {
			p.apart(a)
			continue
		}
		a.move.to = p.node(a.ways)
		p.add(a.from, a.move)
	}
}

// node: the one at which some ways are left.
func (p *plan) node(ways []way) int {
	key := p.key(ways)
	if at, ok := p.known[key]; ok {
		return at
	}
	at := len(p.nodes)
	p.known[key] = at
	p.nodes = append(p.nodes, node{ways: ways})
	if ways[0].deep == "" {
		p.goOn(at, nil, ways)
		return at
	}
	for kind, labels := range p.labels {
		if len(labels) > 0 {
			p.dig(at, labels, under(ways, kind))
		}
	}
	return at
}

// dig: the moves of a node by which labels of a kind are taken away.
func (p *plan) dig(at int, labels []int, ways []way) {
	var deep, fresh, again []way
	for _, w := range ways {
		switch {
		case w.deep != "":
			deep = append(deep, w)
		case w.word != "" && w.word[0] == same:
			again = append(again, w)
		default:
			fresh = append(fresh, w)
		}
	}
	p.ask(at, move{tops: labels}, deep)
	p.lay(at, labels, 0, fresh)
	p.lay(at, labels, 1, again)
}

// lay: the moves behind which one lays on, whose words have so many labels ahead
// that are laid on at once. Of many labels and many ways there would be a rule of
// each with each; so one label is laid on first, which stands for any of them.
func (p *plan) lay(at int, labels []int, ahead int, ways []way) {
	if len(labels)*len(ways) <= 8*(len(labels)+len(ways)) {
		p.goOn(at, labels, ways)
		return
	}
	m := move{tops: labels, push: ways[0].word[:ahead]}
	for i, w := range ways {
		ways[i].word = w.word[ahead:]
	}
	p.ask(at, m, ways)
}

// under: the ways that are left once a label of a kind was taken away.
func under(ways []way, kind int) []way {
	var l []way
	for _, w := range ways {
		kinds := bits.Set{uint64(w.deep[0])}
		if kinds.Has(kind) {
			w.deep = w.deep[1:]
			l = append(l, w)
		}
	}
	return l
}

// members: the numbers of what is left of ways, each once, whatever else they ask.
func (p *plan) members(ways []way) []int {
	var l []int
	for _, w := range ways {
		l = append(l, p.id(way{rest: w.rest}))
	}
	slices.Sort(l)
	return slices.Compact(l)
}

// missing: those of them that have no node alone yet.
func (p *plan) missing(ways []way) []int {
	return slices.DeleteFunc(p.members(ways), func(id int) bool {
		_, ok := p.known[keyOf(id)]
		return ok
	})
}

// id: a way's number.
func (p *plan) id(w way) int {
	id, ok := p.ids[w]
	if !ok {
		id = len(p.ids)
		p.ids[w] = id
	}
	return id
}

// key: the same text of the same ways, in whatever order.
func (p *plan) key(ways []way) string {
	var l []int
	for _, w := range ways {
		l = append(l, p.id(w))
	}
	slices.Sort(l)
	return keyOf(l...)
}

// keyOf: a text of numbers.
func keyOf(l ...int) string {
	var key []byte
	for _, x := range l {
		key = append(key, byte(x>>24), byte(x>>16), byte(x>>8), byte(x))
	}
	return string(key)
}
