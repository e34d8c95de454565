package build_test

import (
	"math/rand"
	"slices"
	"strconv"
	"strings"
	"testing"

	"fairlead/api"
	"fairlead/bits"
	"fairlead/build"
	"fairlead/net"
	"fairlead/nfa"
	"fairlead/ops"
	"fairlead/table"
	"fairlead/topo"
)

// wide makes networks of one router, as many links from it to itself as there may
// be, and rows of each link, of the first mpls labels (2 on; 0 is an ip, 1 an smpls).
// The entry k of all goes out by a link, by a chain.
type wide struct {
	labels, tops, groups, entries int
	out                           func(in, top, group, k int) int
	ops                           func(in, k int) []ops.Op
}

func (w wide) network() net.Net {
	var n net.Net
	n.Topo.Routers = []string{"r"}
	two := func(i int) string { return string([]byte{byte('0' + i/10), byte('0' + i%10)}) }
	for i := range api.MaxThings {
		n.Topo.Links = append(n.Topo.Links, topo.Link{Name: "l" + two(i)})
	}
	for i := range w.labels {
		n.Labels = append(n.Labels, net.Label{Name: "x" + two(i), Kind: min(i, 2) + 1})
	}
	k := 0
	for in := range api.MaxThings {
		for top := range w.tops {
			row := table.Row{In: in, Top: 2 + top}
			for g := range w.groups {
				var group []table.Entry
				for range w.entries {
					out := w.out(in, top, g, k) % api.MaxThings
					group = append(group, table.Entry{Out: out, Ops: w.ops(in, k)})
					k++
				}
				row.Groups = append(row.Groups, group)
			}
			n.Rows = append(n.Rows, row)
		}
	}
	return n
}

// perGroup: each group has a link of its own, other ones behind each link.
func perGroup(in, _, group, _ int) int { return in + 1 + group }

// pops: so many.
func pops(n int) []ops.Op { return slices.Repeat([]ops.Op{{Kind: ops.Pop}}, n) }

// unlike: a chain that takes so many labels away, puts an smpls in the place of that
// below, and lays three mpls onto it, of each number k others, as there are labels.
func unlike(n, k, labels int) []ops.Op {
	chain := append(pops(n), ops.Op{Kind: ops.Swap, Label: 1})
	for range 3 {
		chain = append(chain, ops.Op{Kind: ops.Push, Label: 2 + k%(labels-2)})
		k /= labels - 2
	}
	return chain
}

// dear: the same chain, with so many labels laid on, and taken away, ahead of it.
func dear(n int, chain []ops.Op) []ops.Op {
	ahead := []ops.Op{{Kind: ops.Push, Label: 2}, {Kind: ops.Pop}}
	return append(slices.Repeat(ahead, n), chain...)
}

// round: an automaton of paths: 0 goes to each state, each other one to the one
// behind it, the last one to the first; by any link.
func round(states int) nfa.NFA {
	p := nfa.NFA{On: []bits.Set{{}}, Next: [][]int{nil}, Final: []bool{false}}
	for at := 1; at < states; at++ {
		p.On = append(p.On, bits.Upto(api.MaxThings))
		p.Next[0] = append(p.Next[0], at)
		p.Next = append(p.Next, []int{at%(states-1) + 1})
		p.Final = append(p.Final, true)
	}
	return p
}

// many is a wide network, in a mode, and what its model must be.
type many struct {
	asked
	f finder
}

func manyOf(t *testing.T, w wide, p nfa.NFA, kind, fails int) many {
	t.Helper()
	a := asked{n: w.network(), p: p, w: all(), m: build.Mode{Kind: kind, Fails: fails}}
	checkNil(t, "the network may be", a.n.Check())
	return many{a, findIn(t, a.n, a.model())}
}

// holds: one comes on from some places, with some headers, to what is asked.
func (m many) holds(t *testing.T, places []build.Place, headers ...string) {
	t.Helper()
	steps := 0
	for _, p := range places {
		for _, text := range headers {
			var h []int
			for _, word := range strings.Fields(text) {
				x, err := strconv.Atoi(word)
				checkNil(t, word, err)
				h = append(h, x)
			}
			want := m.asked.steps(p, h)
			check(t, "steps with "+text, strings.Join(m.f.steps(p, h), ", "), strings.Join(want, ", "))
			steps += len(want)
		}
	}
	check(t, "there are steps", steps > 0, true)
}

// more: how many states are no places.
func (m many) more() int {
	n := 0
	for state := range m.f.s.States {
		if _, ok := m.f.m.Place(state); !ok {
			n++
		}
	}
	return n
}

// atMost: that are no more than so many.
func (m many) atMost(t *testing.T, most int) {
	t.Helper()
	if n := m.more(); n > most {
		t.Errorf("%d states that are no places, more than %d", n, most)
	}
}

// P28.1: the system may be, where chains of many rows are unlike each other, and
// each takes several labels away, at many places. (Were there states of each chain
// for each place to which it leads, they would be too many.)
func TestManyUnlike(t *testing.T) {
	for _, c := range []struct{ kind, fails, groups, states, pops int }{
		{build.Over, 64, 8, 100, 2},
		{build.Over, 64, 8, 100, 4},
		{build.Under, 4, 2, 100, 2},
		{build.Under, 9, 2, 40, 3},
	} {
		chain := func(_, k int) []ops.Op { return unlike(c.pops, k, 8) }
		w := wide{labels: 8, tops: 4, groups: c.groups, entries: 4, out: perGroup, ops: chain}
		m := manyOf(t, w, round(c.states), c.kind, c.fails)
		last := c.fails * (c.kind - 1) // Over counts none
		if c.kind == build.Over {
			last = 0
		}
		m.holds(t, []build.Place{{Link: 0, At: 1}, {Link: 63, At: c.states - 1}, {Link: 7, At: 5, Fails: last}},
			"2 3 1 0", "3 4 5 1 0", "5 2 2 7 1 0", "4 2 2 2 2 1 0", "2 1 0", "6 1 0", "0")
	}
}

// P28.1: the system may be, where all chains are alike, and take several labels
// away, but each row goes by other links. (Were there states of each row, at each
// place, they would be too many.)
func TestManyAlike(t *testing.T) {
	w := wide{labels: 6, tops: 4, groups: 2, entries: 1,
		out: func(in, top, group, _ int) int { return in + 5*top + 17*group + 3*group*top },
		ops: func(_, _ int) []ops.Op { return pops(5) }}
	m := manyOf(t, w, round(100), build.Under, 11)
	m.holds(t, []build.Place{{Link: 0, At: 1}, {Link: 63, At: 99}, {Link: 7, At: 5, Fails: 10}, {Link: 7, At: 5, Fails: 11}},
		"2 3 4 5 1 0", "3 4 5 3 2 2 1 0", "5 2 2 1 0", "0")
}

// someOf: the numbers of those of seven lists that a number tells by its bits, rising.
func someOf(lists [7][]int, which int) []int {
	var l []int
	for bit, list := range lists {
		if which>>bit&1 == 1 {
			l = append(l, list...)
		}
	}
	slices.Sort(l)
	return l
}

// P28.1: it takes few states, where one comes to the same states of the paths from
// all of them, and where one comes from each of them to others of a few, or to
// others of a few lists.
func TestManyPaths(t *testing.T) {
	chain := func(_, k int) []ops.Op { return unlike(2, k, 6) }
	w := wide{labels: 6, tops: 4, groups: 1, entries: 4, out: perGroup, ops: chain}
	headers := []string{"2 3 1 0", "3 4 5 1 0", "5 2 2 3 1 0", "4 2 2 1 0", "2 1 0", "0"}
	var few, lists [7][]int
	for at := 1; at < 150; at++ {
		lists[at%7] = append(lists[at%7], at)
		if at < 8 {
			few[at-1] = []int{at}
		}
	}
	for _, c := range []struct {
		next func(at int) []int
		most int // lists of states of the paths
	}{
		{func(at int) []int { return round(150).Next[0] }, 1},
		{func(at int) []int { return someOf(few, at%128) }, 7},
		{func(at int) []int { return someOf(lists, at%128) }, 7},
	} {
		p := round(150)
		for at := 1; at < p.Len(); at++ {
			p.Next[at] = c.next(at)
		}
		m := manyOf(t, w, p, build.Over, 0)
		// two labels of each row are taken away, and some are laid on
		m.atMost(t, 256*c.most*2+256*7)
		m.holds(t, []build.Place{{Link: 0, At: 1}, {Link: 63, At: 149}, {Link: 7, At: 5}}, headers...)
	}
}

// P28.1: it takes few states, where the states to which one comes are others each
// time, but of each link the same.
func TestManyOfLinks(t *testing.T) {
	p := round(11 + 64)
	for at := 1; at < p.Len(); at++ {
		p.Next[at] = nil
		if at > 10 {
			p.On[at] = bits.Of(at - 11)
			continue
		}
		for to := 11; to < p.Len(); to++ {
			if to != 10+at {
				p.Next[at] = append(p.Next[at], to)
			}
		}
	}
	w := wide{labels: 6, tops: 4, groups: 1, entries: 2,
		out: func(in, top, _, k int) int { return in + 5*top + (1+top)*(k%2) },
		ops: func(_, _ int) []ops.Op { return pops(3) }}
	m := manyOf(t, w, p, build.Over, 0)
	m.atMost(t, 64*2)
	m.holds(t, []build.Place{{Link: 0, At: 1}, {Link: 63, At: 10}, {Link: 7, At: 5}, {Link: 7, At: 18}}, "2 3 4 1 0", "3 4 5 1 0", "4 5 1 0")
}

// P28.1: words that are laid on take few states, where rows lay on one word each,
// over whichever link, and where all rows lay on the same one.
func TestManyWords(t *testing.T) {
	for _, words := range []int{1, 256} {
		w := wide{labels: 6, tops: 4, groups: 8, entries: 8,
			out: func(in, _, group, k int) int { return in + 8*group + k%8 },
			ops: func(_, k int) []ops.Op {
				var chain []ops.Op
				for k = k / 64 % words; len(chain) < 8; k /= 4 {
					chain = append(chain, ops.Op{Kind: ops.Push, Label: 2 + k%4})
				}
				return chain
			}}
		m := manyOf(t, w, round(3), build.Over, 64)
		// of each of 256 rows, or 64 links, seven words, of each of two states; by six labels
		m.atMost(t, 2*min(words*64, 256)*7/6+2)
		m.holds(t, []build.Place{{Link: 0, At: 1}, {Link: 63, At: 2}}, "2 3 1 0", "5 1 0")
	}
}

// P28.1: where there are many labels that may be taken away, and many entries that
// take any of them away, there aren't as many rules as there are pairs of these.
func TestManyLabels(t *testing.T) {
	r := rand.New(rand.NewSource(287))
	w := wide{labels: 62, tops: 4, groups: 8, entries: 8, out: perGroup,
		ops: func(_, _ int) []ops.Op {
			chain := append(pops(1), ops.Op{Kind: 1 + r.Intn(3), Label: 2 + r.Intn(60)})
			for range r.Intn(4) {
				chain = append(chain, ops.Op{Kind: ops.Push, Label: 2 + r.Intn(60)})
			}
			return chain
		}}
	m := manyOf(t, w, round(4), build.Over, 64)
	most := 3 * 256 * (64*4 + 62*6)
	check(t, "few rules: "+strconv.Itoa(len(m.f.s.Rules)), len(m.f.s.Rules) < most, true)
	m.holds(t, []build.Place{{Link: 0, At: 1}, {Link: 63, At: 2}, {Link: 7, At: 3}},
		"2 3 1 0", "5 1 0", "4 2 2 3 1 0", "3 61 60 1 0", "2 9 1 0", "2 1 0", "0")
}

// P28.1: there are no more states than it takes.
func TestFewStates(t *testing.T) {
	little := func(_, k int) []ops.Op {
		push := func(label int) ops.Op { return ops.Op{Kind: ops.Push, Label: label} }
		return [][]ops.Op{nil, pops(1), {push(2)}, {push(3), {Kind: ops.Pop}, {Kind: ops.Swap, Label: 4}}}[k%4]
	}
	pairs := func(in, top, group, _ int) int { return in + 1 + []int{0, group, 1 - group}[top] }
	perLink := func(in, _ int) []ops.Op { return unlike(2, in, 8) }
	late := func(in, k int) []ops.Op {
		if k/2%2 == 0 {
			return nil
		}
		return unlike(2, 4*in+k%4, 8)
	}
	pool := func(in, _, group, k int) int { return 32 + 16*group + []int{k / 16 % 16, k / 256}[group] }
	ofPool := func(in, k int) []ops.Op { return dear(k%2, unlike(2, 8*pool(in, 0, k/8%2, k)+k%8, 8)) }
	orders := func(in, top, group, k int) int { return in + 1 + []int{group, 1 - group, k % 2}[top] }
	next := func(in, _, _, k int) int { return in + 1 + k%2 }
	costs := func(in, k int) []ops.Op { return dear([]int{0, 0, 1, 0, 0, 1}[k%6], unlike(2, in, 8)) }
	twice := func(in, k int) []ops.Op { return dear([]int{0, 1, 0, 2}[k%4], pops(3)) }
	other := nfa.NFA{On: []bits.Set{{}, bits.Of(0)}, Next: [][]int{{1}, {1}}, Final: []bool{true, true}}
	for _, c := range []struct {
		what              string
		w                 wide
		p                 nfa.NFA
		kind, fails, most int
	}{
		{"chains that take no state", wide{8, 4, 1, 4, perGroup, little}, round(4), build.Over, 0, 0},
		{"the same ways in another order",
			wide{8, 4, 1, 4, func(in, top, _, k int) int { return in + (k+top)%4 },
				func(in, k int) []ops.Op { return unlike(1, 4*in+(k+k/4)%4, 8) }},
			round(2), build.Over, 0, 64 + 64*7/8 + 1},
		{"ways that stand alone, too", wide{8, 3, 2, 1, pairs, perLink}, round(2), build.Over, 1, 64*2*2 + 64*2*2/8 + 1},
		{"links that fail in another order", wide{8, 3, 2, 2, orders, perLink}, round(2), build.Over, 1, 64*2*2 + 64*2*2/8 + 1},
		{"chains that cost more", wide{8, 3, 1, 2, next, costs}, round(2), build.Over, 0, 64*2*2 + 64*2*2/8 + 1},
		{"chains at two costs", wide{8, 2, 1, 2, func(in, _, _, _ int) int { return in }, twice}, round(2), build.Over, 0, 64 * 2},
		{"groups that many rows have", wide{8, 4, 2, 8, pool, ofPool}, round(2), build.Over, 1, 32*2 + 32*16/8},
		{"links that the paths don't have", wide{8, 4, 1, 4, perGroup, perLink}, other, build.Over, 0, 0},
		{"more links failed than may", wide{8, 4, 2, 2, perGroup, late}, round(2), build.Under, 1, 64*2 + 64*3/8 + 1},
	} {
		m := manyOf(t, c.w, c.p, c.kind, c.fails)
		if n := m.more(); n > c.most {
			t.Errorf("%s: %d states that are no places, more than %d", c.what, n, c.most)
		}
	}
}
