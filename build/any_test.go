package build_test

import (
	"math"
	"math/rand"
	"slices"
	"strconv"
	"strings"
	"testing"

	"fairlead/amount"
	"fairlead/api"
	"fairlead/bits"
	"fairlead/build"
	"fairlead/net"
	"fairlead/nfa"
	"fairlead/ops"
	"fairlead/paut"
	"fairlead/pds"
	"fairlead/sample"
	"fairlead/show"
	"fairlead/table"
	"fairlead/trace"
	"fairlead/weigh"
)

// asked is what a model is made of.
type asked struct {
	n net.Net
	p nfa.NFA
	w weigh.Weight
	m build.Mode
}

// model: the one of what is asked.
func (a asked) model() build.Model { return build.Of(a.n, a.p, a.w, a.m) }

// anyAsked: any small one.
func anyAsked(r *rand.Rand, fails int) asked {
	pick := sample.Pick(r.Intn)
	a := asked{n: pick.Network(), p: pick.NFA(4, 6)}
	a.w = []weigh.Weight{{}, {Hops: 1}, {Hops: 3, Dist: 1, Pushes: 100}, {Dist: api.MaxWeight, Pushes: api.MaxWeight}}[r.Intn(4)]
	a.m = build.Mode{Kind: r.Intn(4), Failed: pick.Set(6), Fails: r.Intn(fails+2) - 1}
	return a
}

// ahead: the links of all groups of a row ahead of one.
func ahead(r table.Row, g int) bits.Set {
	var s bits.Set
	for _, group := range r.Groups[:g] {
		for _, e := range group {
			s = s.With(e.Out)
		}
	}
	return s
}

// lets: may the entry of a group be gone by, and how many links are counted then?
func (a asked) lets(p build.Place, r table.Row, g int, e table.Entry) (int, bool) {
	need, fails := ahead(r, g), max(a.m.Fails, 0)
	switch a.m.Kind {
	case build.Over:
		return 0, need.Len() <= fails && !need.Has(p.Link) && !need.Has(e.Out)
	case build.Under:
		count := p.Fails + need.Len()
		return count, count <= fails && !need.Has(p.Link) && !need.Has(e.Out)
	}
	left := func(e table.Entry) bool { return !a.m.Failed.Has(e.Out) }
	return 0, need.Under(a.m.Failed) && slices.ContainsFunc(r.Groups[g], left) && left(e)
}

// states: those of the paths to which one comes from one of them, by a link.
func (a asked) states(from, link int) []int {
	var l []int
	for at := 1; at < a.p.Len(); at++ {
		if slices.Contains(a.p.Next[from], at) && a.p.On[at].Has(link) {
			l = append(l, at)
		}
	}
	return l
}

// entries: what is told of all entries of a link's rows that may be gone by.
func (a asked) entries(p build.Place, tell func(r table.Row, e table.Entry, count int, needs bits.Set)) {
	for _, r := range a.n.Rows {
		for g, group := range r.Groups {
			for _, e := range group {
				if count, ok := a.lets(p, r, g, e); ok && r.In == p.Link {
					tell(r, e, count, ahead(r, g))
				}
			}
		}
	}
}

// steps: all by which one comes on, in order: another way to find them.
func (a asked) steps(p build.Place, h []int) []string {
	var l []string
	a.entries(p, func(r table.Row, e table.Entry, count int, needs bits.Set) {
		to, ok := ops.Do(a.n.Kinds(), h, e.Ops)
		if !ok || r.Top != h[0] {
			return
		}
		pushes := uint64(0)
		for _, o := range e.Ops {
			if o.Kind == ops.Push {
				pushes++
			}
		}
		cost := amount.Sum(a.w.Hops, amount.Mul(a.w.Dist, a.n.Topo.Links[e.Out].Dist), amount.Mul(a.w.Pushes, pushes))
		for _, at := range a.states(p.At, e.Out) {
			l = append(l, stepText(a.n, build.Place{Link: e.Out, At: at, Fails: count}, to, cost, needs))
		}
	})
	slices.Sort(l)
	return l
}

// starts: all places that are.
func (a asked) starts() []build.Place {
	var l []build.Place
	for link := range a.n.Topo.Links {
		for _, at := range a.states(0, link) {
			if a.m.Kind == build.Over || a.m.Kind == build.Under || !a.m.Failed.Has(link) {
				l = append(l, build.Place{Link: link, At: at})
			}
		}
	}
	return l
}

// places: all to which one comes on from starts, with some header: another way to
// find them. (There are labels of all kinds, so that for each chain there is one.)
func (a asked) places() []build.Place {
	l := a.starts()
	for i := 0; i < len(l); i++ {
		a.entries(l[i], func(_ table.Row, e table.Entry, count int, _ bits.Set) {
			for _, at := range a.states(l[i].At, e.Out) {
				p := build.Place{Link: e.Out, At: at, Fails: count}
				if !slices.Contains(l, p) {
					l = append(l, p)
				}
			}
		})
	}
	return l
}

// placesText: as finder's places tells them.
func placesText(n net.Net, places []build.Place) string {
	var l []string
	for _, p := range places {
		l = append(l, n.Topo.Links[p.Link].Name+" "+strconv.Itoa(p.At)+" "+strconv.Itoa(p.Fails))
	}
	slices.Sort(l)
	return strings.Join(l, ", ")
}

// anyHeader: of any height up to eleven.
func anyHeader(r *rand.Rand) []int {
	h := []int{r.Intn(2)}
	for range r.Intn(1 + r.Intn(12)) {
		kind := 4 // an smpls onto the ip
		if len(h) > 1 {
			kind = 2 // an mpls onto others
		}
		h = append([]int{kind + r.Intn(2)}, h...)
	}
	return h
}

// P28.1: any models have just the places, and the runs, that are asked, each at its
// cost; P28.3 tells what must have failed for them.
func TestAny(t *testing.T) {
	r := rand.New(rand.NewSource(281))
	steps, counted := 0, 0
	for range 12000 {
		a := anyAsked(r, 4)
		checkNil(t, "the network may be", a.n.Check())
		f := findIn(t, a.n, a.model())
		places := a.places()
		check(t, "places", f.places(), placesText(a.n, places))
		for range min(10, len(places)) {
			p, h := places[r.Intn(len(places))], anyHeader(r)
			want := a.steps(p, h)
			check(t, "steps", strings.Join(f.steps(p, h), ", "), strings.Join(want, ", "))
			steps += len(want)
			counted += min(p.Fails, 1)
		}
	}
	check(t, "some of each: "+strconv.Itoa(steps)+", "+strconv.Itoa(counted), steps > 10000 && counted > 500, true)
}

// P28.2: starts, and ends, with the rows that an automaton accepts.
func TestStartEnd(t *testing.T) {
	r := rand.New(rand.NewSource(282))
	pick := sample.Pick(r.Intn)
	seen := map[string]int{}
	for range 3000 {
		a := anyAsked(r, 4)
		m := a.model()
		s := m.System()
		x := pick.NFA(4, 8)
		start, end := m.Start(x), m.End(x)
		for _, auto := range []paut.Auto{start, end} {
			checkNil(t, "it may be", auto.Check())
			check(t, "it is plain, of that base", auto.Plain() && auto.Base == s.States, true)
		}
		starts := a.starts()
		for state := range s.States {
			p, isPlace := m.Place(state)
			isStart := isPlace && slices.Contains(starts, p)
			isEnd := isPlace && a.p.Final[p.At]
			for range 10 {
				var row []int
				for range r.Intn(4) {
					row = append(row, r.Intn(8))
				}
				c := pds.Config{State: state, Stack: row}
				first, last := "none", "none"
				if len(row) > 0 && x.Accepts(row) {
					if isStart {
						first = costText(amount.Add(a.w.Hops, amount.Mul(a.w.Dist, a.n.Topo.Links[p.Link].Dist)))
					}
					if isEnd {
						last = "0"
					}
				}
				check(t, "start", sample.Least(start, c), first)
				check(t, "end", sample.Least(end, c), last)
				seen[first]++
				seen[last]++
			}
		}
	}
	for _, text := range []string{"none", "0", "1", costText(api.MaxCost)} {
		check(t, "some of "+text+": "+strconv.Itoa(seen[text]), seen[text] > 15, true)
	}
}

// P28.2: the empty row isn't among them; of no places there is none.
func TestStartEndNone(t *testing.T) {
	n := ring()
	m := build.Of(n, paths(t, n, ".*"), all(), build.Mode{})
	every := nfa.NFA{On: []bits.Set{{}, bits.Upto(128)}, Next: [][]int{{1}, {1}}, Final: []bool{true, true}}
	state, _ := m.Find(build.Place{Link: 0, At: 1})
	for _, auto := range []paut.Auto{m.Start(every), m.End(every)} {
		check(t, "the empty row", sample.Least(auto, pds.Config{State: state}), "none")
		check(t, "another one", sample.Least(auto, pds.Config{State: state, Stack: []int{127, 0}}) != "none", true)
	}
	m = build.Of(n, paths(t, n, "()"), all(), build.Mode{})
	_, _, ok := paut.Best(m.Start(every), m.Start(every))
	check(t, "no start", ok, false)
	m = build.Of(n, paths(t, n, "ab ca"), all(), build.Mode{})
	_, _, ok = paut.Best(m.End(every), m.End(every))
	check(t, "no end", ok, false)
	_, _, ok = paut.Best(m.Start(every), m.Start(every))
	check(t, "a start", ok, true)
}

// traceText: what is told of a run.
func traceText(x trace.Trace, needs bits.Set, ok bool) string {
	if !ok {
		return "none" + sample.Numbers(x.Links) + strings.Repeat("!", len(x.Headers)) + sample.Numbers(needs.List())
	}
	s := sample.Numbers(x.Links)
	for _, h := range x.Headers {
		s += "; " + sample.Numbers(h)
	}
	return s + "; needs " + sample.Numbers(needs.List())
}

// P28.3: runs by several places.
func TestTraceAny(t *testing.T) {
	r := rand.New(rand.NewSource(283))
	long, parts := 0, 0
	for range 12000 {
		a := anyAsked(r, 6)
		m := a.model()
		places := a.places()
		if len(places) == 0 {
			continue
		}
		f := findIn(t, a.n, m)
		p := places[r.Intn(len(places))]
		state, _ := m.Find(p)
		begin := pds.Config{State: state, Stack: anyHeader(r)}
		now, run := begin, []int(nil)
		want := trace.Trace{Links: []int{p.Link}, Headers: [][]int{begin.Stack}}
		var needs bits.Set
		for range r.Intn(6) {
			var next [][]int
			f.runs(now, nil, func(run []int) { next = append(next, run) })
			if len(next) == 0 {
				break
			}
			step := next[r.Intn(len(next))]
			for i := range len(step) - 1 {
				part := slices.Concat(run, step[:i+1])
				check(t, "not at a place", traceText(m.Trace(begin, part)), "none")
				parts++
			}
			x, need, ok := m.Trace(now, step)
			check(t, "a step", ok, true)
			needs = needs.Or(need)
			want = trace.Then(want, trace.Trace{Links: x.Links[1:], Headers: x.Headers[1:]})
			run = append(run, step...)
			now, _, _ = f.s.Do(now, step...)
		}
		check(t, "the run", traceText(m.Trace(begin, run)), traceText(want, needs, true))
		if len(want.Links) > 3 {
			long++
		}
		wrong := slices.Clone(run)
		if len(run) > 0 {
			wrong[r.Intn(len(run))] = []int{-1, len(f.s.Rules), math.MinInt, math.MaxInt}[r.Intn(4)]
			check(t, "of a rule that isn't there", traceText(m.Trace(begin, wrong)), "none")
		}
	}
	check(t, "some of each: "+strconv.Itoa(long)+", "+strconv.Itoa(parts), long > 300 && parts > 300, true)
}

// P28.3: what is none.
func TestTraceNone(t *testing.T) {
	n := ring()
	m := build.Of(n, paths(t, n, rounds), all(), build.Mode{Kind: build.Over, Fails: 2})
	f := findIn(t, n, m)
	state, _ := m.Find(at(n, "ab", 0))
	h := header(n, "i")
	c := pds.Config{State: state, Stack: h}
	check(t, "of no rule", traceText(m.Trace(c, nil)), "0; "+sample.Numbers(h)+"; needs ")
	check(t, "of no rule, and no header", traceText(m.Trace(pds.Config{State: state}, []int{})), "0; ; needs ")
	check(t, "of what is no header", traceText(m.Trace(pds.Config{State: state, Stack: []int{9, -1}}, nil)), "0; 9 -1; needs ")
	for s := -1; s <= f.s.States; s++ {
		_, isPlace := m.Place(s)
		_, _, ok := m.Trace(pds.Config{State: s, Stack: h}, nil)
		check(t, "at a place", ok, isPlace)
	}
	var run []int
	f.runs(c, nil, func(r []int) { run = r })
	_, _, ok := m.Trace(c, run)
	check(t, "a run", ok, true)
	check(t, "with another top", traceText(m.Trace(pds.Config{State: state, Stack: header(n, "j")}, run)), "none")
	check(t, "twice", traceText(m.Trace(c, slices.Concat(run, run))), "none")
	check(t, "without a stack", traceText(m.Trace(pds.Config{State: state}, run)), "none")
	for _, rule := range []int{-1, len(f.s.Rules), math.MinInt, math.MaxInt} {
		check(t, "a rule that isn't there", traceText(m.Trace(c, []int{rule})), "none")
		check(t, "behind others", traceText(m.Trace(c, append(slices.Clone(run), rule))), "none")
	}
}

// P28.4: Fixed without failed links has the steps of Over with Fails 0.
func TestFixedOver(t *testing.T) {
	r := rand.New(rand.NewSource(284))
	for range 2000 {
		a := anyAsked(r, 4)
		a.m = build.Mode{Fails: r.Intn(5)}
		fixed := findIn(t, a.n, a.model())
		a.m = build.Mode{Kind: build.Over, Failed: sample.Pick(r.Intn).Set(6)}
		over := findIn(t, a.n, a.model())
		check(t, "places", fixed.places(), over.places())
		for _, p := range a.places() {
			h := anyHeader(r)
			check(t, "steps", strings.Join(fixed.steps(p, h), ", "), strings.Join(over.steps(p, h), ", "))
		}
	}
}

// P28.1: a system that may be, of a great network: of as many links, labels and rows
// as there may be, and of long chains, unlike all others, where links failed up to
// 48 times.
func TestGreat(t *testing.T) {
	n := net.Net{}
	n.Topo.Routers = []string{"r"}
	n = great(n)
	checkNil(t, "the network may be", n.Check())
	m := build.Of(n, paths(t, n, ".+"), all(), build.Mode{Kind: build.Under, Fails: 48})
	f := findIn(t, n, m)
	places := 0
	for state := range f.s.States {
		if _, ok := m.Place(state); ok {
			places++
		}
	}
	check(t, "as many places as there may be", places > 64*40, true)
}

// great: a network of one router, 64 links, and 64 labels.
func great(n net.Net) net.Net {
	r := rand.New(rand.NewSource(285))
	two := func(i int) string { return string([]byte{byte('0' + i/10), byte('0' + i%10)}) }
	for i := range api.MaxThings {
		l := net.Label{Name: "x" + two(i), Kind: min(1+i, 3)}
		n.Labels = append(n.Labels, l)
		n.Topo.Links = append(n.Topo.Links, sample.Network(exampleText).Topo.Links[0])
		n.Topo.Links[i].Name, n.Topo.Links[i].From, n.Topo.Links[i].To = "l"+two(i), 0, 0
	}
	for in := range api.MaxThings {
		for top := range api.MaxRows / api.MaxThings {
			row := table.Row{In: in, Top: 2 + top}
			for range api.MaxGroups {
				var group []table.Entry
				for range api.MaxGroups {
					e := table.Entry{Out: r.Intn(api.MaxThings)}
					for range api.MaxOps {
						e.Ops = append(e.Ops, ops.Op{Kind: ops.Push, Label: 2 + r.Intn(62)})
					}
					group = append(group, e)
				}
				row.Groups = append(row.Groups, group)
			}
			n.Rows = append(n.Rows, row)
		}
	}
	return n
}

// What is handed in isn't changed, nor is it kept, and answers share nothing; they
// are the same each time.
func TestMemory(t *testing.T) {
	r := rand.New(rand.NewSource(286))
	for range 50 {
		a := anyAsked(r, 3)
		before, err := show.Print(a.n)
		checkNil(t, "Print", err)
		m := a.model()
		first := sample.SystemText(m.System())
		check(t, "the same each time", sample.SystemText(a.model().System()), first)
		after, err := show.Print(a.n)
		checkNil(t, "Print", err)
		check(t, "the network", after, before)
		places := findIn(t, a.n, m).places()
		s, x := m.System(), sample.Pick(r.Intn).NFA(3, 6)
		start, end := sample.AutoText(m.Start(x)), sample.AutoText(m.End(x))
		spoil(s, a)
		for _, auto := range []paut.Auto{m.Start(x), m.End(x)} {
			for i := range auto.Edges {
				auto.Edges[i] = paut.Edge{}
			}
		}
		check(t, "the system", sample.SystemText(m.System()), first)
		check(t, "its start", sample.AutoText(m.Start(x)), start)
		check(t, "its end", sample.AutoText(m.End(x)), end)
		check(t, "its places", findIn(t, a.n, m).places(), places)
	}
}

// spoil: all that a model was made of, and its system, is another thing.
func spoil(s pds.System, a asked) {
	for i, rule := range s.Rules {
		for j := range rule.Push {
			rule.Push[j] = 99
		}
		s.Rules[i] = pds.Rule{}
	}
	for i := range a.p.On {
		a.p.On[i], a.p.Final[i] = bits.Set{}, !a.p.Final[i]
		for j := range a.p.Next[i] {
			a.p.Next[i][j] = 0
		}
	}
	for _, row := range a.n.Rows {
		for _, group := range row.Groups {
			for i := range group {
				group[i] = table.Entry{}
			}
		}
	}
}

// A trace shares nothing with what was handed in, nor with another one.
func TestTraceMemory(t *testing.T) {
	n := ring()
	m := build.Of(n, paths(t, n, rounds), all(), build.Mode{})
	f := findIn(t, n, m)
	state, _ := m.Find(at(n, "ab", 0))
	c := pds.Config{State: state, Stack: append(make([]int, 0, 9), header(n, "i")...)}
	var run []int
	f.runs(c, nil, func(r []int) { run = append(make([]int, 0, 9), r...) })
	want := traceText(m.Trace(c, run))
	x, _, _ := m.Trace(c, run)
	for _, h := range x.Headers {
		_ = append(h, 77)
		h[0] = 88
	}
	check(t, "the run", traceText(m.Trace(c, run)), want)
	check(t, "spare room", c.Stack[:9][1] == 0 && run[:9][len(run)] == 0, true)
	check(t, "the stack", sample.Numbers(c.Stack), sample.Numbers(header(n, "i")))
}

// Of what isn't promised: all ends without a panic.
func TestUnpromised(t *testing.T) {
	var m build.Model
	check(t, "the zero model", sample.SystemText(m.System()), "0 0")
	_, isPlace := m.Place(0)
	_, isFound := m.Find(build.Place{})
	check(t, "its places", isPlace || isFound, false)
	check(t, "its traces", traceText(m.Trace(pds.Config{}, []int{0})), "none")
	x := nfa.NFA{On: make([]bits.Set, 1), Next: make([][]int, 1), Final: []bool{true}}
	check(t, "its start", sample.AutoText(m.Start(x)), sample.AutoText(m.End(x)))
	n := ring()
	build.Of(n, nfa.NFA{}, all(), build.Mode{})
	build.Of(n, nfa.NFA{On: make([]bits.Set, 1), Next: [][]int{{-1, 5}}, Final: []bool{true}}, all(), build.Mode{})
	build.Of(n, x, weigh.Weight{Hops: math.MaxUint64, Dist: math.MaxUint64, Pushes: math.MaxUint64}, build.Mode{})
	n.Rows[0].Groups[0][0].Out = 99
	build.Of(n, paths(t, ring(), rounds), all(), build.Mode{})
	n.Rows[1].Top = -1
	build.Of(n, paths(t, ring(), rounds), all(), build.Mode{})
}
