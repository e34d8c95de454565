package build

import (
	"slices"

	"fairlead/api"
	"fairlead/bits"
	"fairlead/cover"
)

// ask is a move behind which there are several ways, so that it isn't told yet
// whether it leads to one node, or to several, each of some of them.
type ask struct {
	from int
	move move
	ways []way
}

// levels: of nodes. There is always less left behind a move.
const levels = 2 * (api.MaxOps + 2)

// level: what is taken away comes ahead of all that is laid on.
func level(ways []way) int {
	most := 0
	for _, w := range ways {
		if w.deep != "" {
			most = max(most, api.MaxOps+2+len(w.deep))
		}
		most = max(most, len(w.word))
	}
	return most
}

// ask: a move behind which there are some ways.
func (p *plan) ask(from int, m move, ways []way) {
	switch {
	case len(ways) == 0:
	case len(ways) == 1:
		p.enter(from, m, ways)
	default:
		told, ways := shared(ways)
		at := level(ways)
		p.asks[at] = append(p.asks[at], ask{from, m.tells(told), ways})
	}
}

// enter: a move to one node, that tells what the ways have in common; but if they
// differ in nothing else than what they ask, that is told of each.
func (p *plan) enter(from int, m move, ways []way) {
	groups := [][]way{ways}
	if !slices.ContainsFunc(ways, func(w way) bool { return w.rest != ways[0].rest }) {
		groups = slices.Collect(slices.Chunk(ways, 1))
	}
	for _, group := range groups {
		told, left := shared(group)
		x := m.tells(told)
		x.to = p.node(left)
		p.add(from, x)
	}
}

// shared: what ways have in common of what they ask, and the ways without it.
func shared(ways []way) (way, []way) {
	told := way{needs: ways[0].needs, cost: ways[0].cost}
	for _, w := range ways {
		told.needs = told.needs.And(w.needs)
		told.cost = min(told.cost, w.cost)
	}
	left := slices.Clone(ways)
	for i, w := range ways {
		left[i].needs = w.needs.Less(told.needs)
		left[i].cost = w.cost - told.cost
	}
	return told, left
}

// decide: which ways behind moves go on together, so that there are as few nodes as
// can be: for each of them there are as many states as there are lists of states of
// the paths, and counts of failed links.
func (p *plan) decide(asks []ask) {
	var sets [][]cover.Member
	of := map[string]int{} // the sets of what is left
	tones := tones{first: map[int]uint64{}, known: map[tone]int{}}
	for _, a := range asks {
		key := p.key(a.ways)
		if _, ok := of[key]; !ok {
			of[key] = len(sets)
			sets = append(sets, p.open(a.ways, tones))
		}
	}
	parts := cover.Parts(sets)
	for _, a := range asks {
		p.split(a, parts[of[p.key(a.ways)]])
	}
}

// split: the moves to the nodes of parts; to one of all, where they are nil.
func (p *plan) split(a ask, parts [][]int) {
	if parts == nil {
		p.enter(a.from, a.move, a.ways)
		return
	}
	in := map[int]int{}
	for i, part := range parts {
		for _, id := range part {
			in[id] = i + 1
		}
	}
	groups := make([][]way, len(parts)+1)
	for _, w := range a.ways {
		at := in[p.id(way{rest: w.rest})]
		groups[at] = append(groups[at], w)
	}
	for _, w := range groups[0] { // of these there are nodes
		p.enter(a.from, a.move, []way{w})
	}
	for _, group := range groups[1:] {
		p.enter(a.from, a.move, group)
	}
}

// tones are what ways with the same rests ask, so that what they ask differs by the
// same, wherever they are, from what others do.
type tones struct {
	first map[int]uint64 // of each rest the cost that was met first
	known map[tone]int
}

type tone struct {
	needs bits.Set
	more  int64
}

// of: the tone of a way whose rest has a number.
func (t tones) of(id int, w way) int {
	first, ok := t.first[id]
	if !ok {
		first = w.cost
		t.first[id] = first
	}
	x := tone{w.needs, int64(w.cost) - int64(first)}
	at, ok := t.known[x]
	if !ok {
		at = len(t.known)
		t.known[x] = at
	}
	return at
}

// open: the members of what is left that have no node alone yet.
func (p *plan) open(ways []way, t tones) []cover.Member {
	var l []cover.Member
	for _, w := range ways {
		id := p.id(way{rest: w.rest})
		if _, ok := p.known[keyOf(id)]; !ok {
			l = append(l, cover.Member{ID: id, Tone: t.of(id, w)})
		}
	}
	return l
}

// id: a way's number.
func (p *plan) id(w way) int {
	id, ok := p.ids[w]
	if !ok {
		id = len(p.ids)
		p.ids[w] = id
	}
	return id
}

// key: the same text of the same ways, in whatever order.
func (p *plan) key(ways []way) string {
	var l []int
	for _, w := range ways {
		l = append(l, p.id(w))
	}
	slices.Sort(l)
	return keyOf(l...)
}

// keyOf: a text of numbers.
func keyOf(l ...int) string {
	var key []byte
	for _, x := range l {
		key = append(key, byte(x>>24), byte(x>>16), byte(x>>8), byte(x))
	}
	return string(key)
}
