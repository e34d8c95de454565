package solve_test

import (
	"math/rand"
	"slices"
	"strconv"
	"testing"

	"fairlead/amount"
	"fairlead/api"
	"fairlead/bits"
	"fairlead/build"
	"fairlead/fail"
	"fairlead/net"
	"fairlead/ops"
	"fairlead/query"
	"fairlead/sample"
	"fairlead/show"
	"fairlead/solve"
	"fairlead/table"
	"fairlead/trace"
	"fairlead/weigh"
)

// asked is of what a least path is asked.
type asked struct {
	n net.Net
	q query.Auto
	w weigh.Weight
	m build.Mode
}

// find: the one that is found.
func (a asked) find(o solve.Options) solve.Found { return solve.Find(a.n, a.q, a.w, a.m, o) }

// text: all that is asked.
func (a asked) text() string {
	s, err := show.Print(a.n)
	if err != nil {
		return err.Error()
	}
	return s + " mode " + strconv.Itoa(a.m.Kind) + ", failed " + sample.Numbers(a.m.Failed.List()) + ", fails " + strconv.Itoa(a.m.Fails)
}

// spot is where a packet is on the way.
type spot struct{ link, at, fails int }

// way is one on which a packet came: with a header, at a cost, where some links had
// to fail.
type way struct {
	spot
	header []int
	cost   uint64
	needs  bits.Set
}

// text: all of it, but the cost.
func (w way) text() string {
	return sample.Numbers([]int{w.link, w.at, w.fails}) + ": " + sample.Numbers(w.header) + " needs " + sample.Numbers(w.needs.List())
}

// lets: may one go from a spot by an entry, ahead of which are some links; how many
// links are counted then?
func (a asked) lets(s spot, group []table.Entry, need bits.Set, e table.Entry) (int, bool) {
	fails := max(a.m.Fails, 0)
	switch a.m.Kind {
	case build.Over:
		return 0, need.Len() <= fails && !need.Has(s.link) && !need.Has(e.Out)
	case build.Under:
		count := s.fails + need.Len()
		return count, count <= fails && !need.Has(s.link) && !need.Has(e.Out)
	}
	left := func(e table.Entry) bool { return !a.m.Failed.Has(e.Out) }
	return 0, need.Under(a.m.Failed) && slices.ContainsFunc(group, left) && left(e)
}

// into: a way on to a link, of each state of the paths.
func (a asked) into(from int, w way) []way {
	w.cost = amount.Sum(w.cost, a.w.Hops, amount.Mul(a.w.Dist, a.n.Topo.Links[w.link].Dist))
	var l []way
	for _, at := range a.q.Path.Next[from] {
		if a.q.Path.On[at].Has(w.link) {
			w.at = at
			l = append(l, w)
		}
	}
	return l
}

// starts: all ways with one link, with a header.
func (a asked) starts(h []int) []way {
	var l []way
	for link := range a.n.Topo.Links {
		isLeft := a.m.Kind == build.Over || a.m.Kind == build.Under || !a.m.Failed.Has(link)
		if isLeft && a.q.Start.Accepts(h) {
			l = append(l, a.into(0, way{spot: spot{link: link}, header: h})...)
		}
	}
	return l
}

// steps: all ways by one link more: another way to find them.
func (a asked) steps(w way) []way {
	var l []way
	for _, r := range a.n.Rows {
		if r.In != w.link || r.Top != w.header[0] {
			continue
		}
		var need bits.Set
		for _, group := range r.Groups {
			for _, e := range group {
				h, can := ops.Do(a.n.Kinds(), w.header, e.Ops)
				count, ok := a.lets(w.spot, group, need, e)
				if !can || !ok {
					continue
				}
				pushes := uint64(0)
				for _, o := range e.Ops {
					if o.Kind == ops.Push {
						pushes++
					}
				}
				cost := amount.Add(w.cost, amount.Mul(a.w.Pushes, pushes))
				l = append(l, a.into(w.at, way{spot: spot{e.Out, 0, count}, header: h, cost: cost, needs: w.needs.Or(need)})...)
			}
			for _, e := range group {
				need = need.With(e.Out)
			}
		}
	}
	return l
}

// isEnd: may one end there?
func (a asked) isEnd(w way) bool { return a.q.Path.Final[w.at] && a.q.End.Accepts(w.header) }

// headers: all that may be, over the labels of networks that Pick makes, up to a
// height.
func headers(height int) [][]int {
	l := [][]int{{0}, {1}}
	for i := 0; i < len(l); i++ {
		if len(l[i]) == height {
			continue
		}
		kind := 4 // an smpls onto the ip
		if len(l[i]) > 1 {
			kind = 2 // an mpls onto others
		}
		for label := range 2 {
			l = append(l, append([]int{kind + label}, l[i]...))
		}
	}
	return l
}

// sought: the least of what paths cost whose headers aren't above a height, where it
// begins with one that isn't above three.
func (a asked) sought(height int) (uint64, bool) {
	costs, wait := map[string]uint64{}, []way{}
	least, has := uint64(0), false
	put := func(w way) {
		w.needs = bits.Set{}
		old, ok := costs[w.text()]
		if len(w.header) > height || ok && old <= w.cost {
			return
		}
		costs[w.text()] = w.cost
		wait = append(wait, w)
		if a.isEnd(w) && (!has || w.cost < least) {
			least, has = w.cost, true
		}
	}
	for _, h := range headers(3) {
		for _, w := range a.starts(h) {
			put(w)
		}
	}
	for len(wait) > 0 {
		w := wait[0]
		wait = wait[1:]
		if costs[w.text()] == w.cost {
			for _, next := range a.steps(w) {
				put(next)
			}
		}
	}
	return least, has
}

// isPath: is a trace a path of the model, at that cost, where just those links had to
// fail (whichever, where the mode is Fixed)?
func (a asked) isPath(x trace.Trace, cost uint64, failed bits.Set) bool {
	if len(x.Links) == 0 || len(x.Links) != len(x.Headers) {
		return false
	}
	now := a.starts(x.Headers[0])
	for at := range x.Links {
		here := map[string]way{}
		for _, w := range now {
			if w.link != x.Links[at] || !slices.Equal(w.header, x.Headers[at]) {
				continue
			}
			here[w.text()+" for "+strconv.FormatUint(w.cost, 10)] = w
		}
		now = nil
		for _, w := range here {
			if at < len(x.Links)-1 {
				now = append(now, a.steps(w)...)
			} else {
				now = append(now, w)
			}
		}
	}
	fixed := a.m.Kind != build.Over && a.m.Kind != build.Under
	return slices.ContainsFunc(now, func(w way) bool {
		return a.isEnd(w) && w.cost == cost && (fixed || w.needs == failed)
	})
}

// anyAsked: any small one; of many there is a path.
func anyAsked(r *rand.Rand) asked {
	pick := sample.Pick(r.Intn)
	a := asked{n: pick.Network()}
	links := len(a.n.Topo.Links)
	a.m = build.Mode{Kind: r.Intn(4), Failed: pick.Set(links + 1), Fails: r.Intn(4) - 1}
	ask := pick.Ask(a.n, "0")
	for range r.Intn(5) {
		failed := []bits.Set{a.m.Failed, pick.Set(links)}[r.Intn(2)]
		x := pick.Trace(a.n, failed, 2+r.Intn(5))
		if len(x.Links) < 2 {
			continue
		}
		ask = pick.Along(a.n, x, "0")
		needs := fail.Needed(a.n, failed, x)
		a.m.Fails = needs.Len() + r.Intn(2)
		if !needs.Empty() {
			break
		}
	}
	a.q = sample.Query(a.n, ask)
	a.q.Fails = r.Intn(links + 1)
	a.w = []weigh.Weight{{}, {Hops: 1}, {Hops: 3, Dist: 1, Pushes: 100}, {Hops: 1, Dist: api.MaxWeight, Pushes: 5}}[r.Intn(4)]
	return a
}

// shown: P30.1, of what was found with a trace.
func shown(t *testing.T, a asked, f solve.Found) {
	t.Helper()
	check(t, a.text()+": "+text(f)+": is it a path?", a.isPath(f.Trace, f.Cost, f.Failed), true)
	if a.m.Kind == build.Over || a.m.Kind == build.Under {
		return
	}
	check(t, "what failed", f.Failed, a.m.Failed.And(bits.Upto(len(a.n.Topo.Links))))
	// P30.2: it is a witness, and costs what is told.
	a.q.Fails = f.Failed.Len()
	checkNil(t, a.text()+": "+text(f), trace.Check(a.n, a.q, f.Failed, f.Trace))
	cost, err := trace.Cost(a.n, a.w, f.Failed, f.Trace)
	checkNil(t, "its cost", err)
	check(t, a.text()+": its cost", cost, f.Cost)
}

// P30.1, P30.2: of any networks and questions, by all modes: no path that is sought
// costs less, what is told is one, and Yes and Cost hang on no options.
func TestAny(t *testing.T) {
	r := rand.New(rand.NewSource(301))
	seen := map[string]int{}
	for range 2500 {
		a := anyAsked(r)
		o := solve.Options{Level: r.Intn(5) - 1, Most: 1000, FromEnd: r.Intn(2) == 0}
		f := a.find(o)
		what := a.text()
		least, has := a.sought(5)
		if has && (!f.Yes || f.Cost > least) {
			t.Errorf("%s: there is a path for %d, not %s", what, least, text(f))
		}
		mostly(t, what, a, o, f)
		for level := range 3 {
			o = solve.Options{Level: level, Most: 1000, FromEnd: !o.FromEnd}
			other := a.find(o)
			check(t, what+": by other options", other.Yes == f.Yes && other.Cost == f.Cost, true)
			if other.Yes {
				shown(t, a, other)
			}
		}
		if f.Yes {
			check(t, what+": is it long?", f.Long, false)
			shown(t, a, f)
		} else {
			check(t, what, text(f), none)
		}
		seen[strconv.Itoa(min(a.m.Kind, 3))+" "+strconv.FormatBool(f.Yes)]++
		if len(f.Trace.Links) > 2 {
			seen["long"]++
		}
		if !f.Failed.Empty() && (a.m.Kind == build.Over || a.m.Kind == build.Under) {
			seen["failed"]++
		}
	}
	for _, what := range []string{"0 true", "1 true", "2 true", "3 true", "0 false", "1 false", "2 false", "3 false", "long", "failed"} {
		check(t, "some of "+what+": "+strconv.Itoa(seen[what]), seen[what] > 50, true)
	}
}

// mostly: which one is told hangs not on Most; where it has more links, it is Long.
func mostly(t *testing.T, what string, a asked, o solve.Options, f solve.Found) {
	t.Helper()
	for _, most := range []int{-1, 0, len(f.Trace.Links) - 1, len(f.Trace.Links), len(f.Trace.Links) + 1, 1 << 40} {
		o.Most = most
		want := f
		if f.Yes && most < len(f.Trace.Links) {
			want = solve.Found{Yes: true, Long: true, Cost: f.Cost}
		}
		check(t, what+": most "+strconv.Itoa(most), text(a.find(o)), text(want))
	}
}

// P30.2: what is a witness under any failed links, at most so many, is a path of
// Over, at no more; and one of Fixed under just those.
func TestWitnesses(t *testing.T) {
	r := rand.New(rand.NewSource(302))
	seen, fewer := 0, 0
	for range 3000 {
		a := anyAsked(r)
		pick, links := sample.Pick(r.Intn), len(a.n.Topo.Links)
		failed := pick.Set(links)
		x := pick.Trace(a.n, failed, 6)
		if len(x.Links) == 0 {
			continue
		}
		a.q = sample.Query(a.n, pick.Along(a.n, x, "0"))
		a.q.Fails = links
		if trace.Check(a.n, a.q, failed, x) != nil {
			continue
		}
		cost, err := trace.Cost(a.n, a.w, failed, x)
		checkNil(t, "what it costs", err)
		needs := fail.Needed(a.n, failed, x)
		for _, m := range []build.Mode{{Kind: build.Fixed, Failed: failed}, {Kind: build.Fixed, Failed: needs}, {Kind: build.Over, Fails: failed.Len()}, {Kind: build.Over, Fails: needs.Len()}} {
			a.m = m
			f := a.find(solve.Options{Level: 2, Most: 1000})
			check(t, a.text()+": at no more", f.Yes && f.Cost <= cost, true)
			if f.Cost < cost {
				fewer++
			}
		}
		seen++
	}
	check(t, "some of each: "+strconv.Itoa(seen)+", "+strconv.Itoa(fewer), seen > 1500 && fewer > 300, true)
}

// Memory: what is handed in isn't changed, nor is it kept, and answers share nothing;
// they are the same each time.
func TestMemory(t *testing.T) {
	r := rand.New(rand.NewSource(303))
	for range 300 {
		a := anyAsked(r)
		o := solve.Options{Level: r.Intn(3), Most: 50, FromEnd: r.Intn(2) == 0}
		was := a.text()
		f, other := a.find(o), a.find(o)
		want := text(other)
		check(t, "the same each time", text(f), want)
		f.Trace.Links = append(f.Trace.Links, 1)
		for i, h := range f.Trace.Headers {
			f.Trace.Links[i] = 99
			for j := range h[:cap(h)] {
				h[:cap(h)][j] = 77
			}
		}
		check(t, "two answers", text(other), want)
		check(t, "what was handed in", a.text(), was)
		for i := range other.Trace.Headers {
			h := other.Trace.Headers[i]
			other.Trace.Headers[i] = nil
			want = text(other)
			for j := range h[:cap(h)] {
				h[:cap(h)][j] = 88
			}
			check(t, "headers of one answer", text(other), want)
		}
	}
}
