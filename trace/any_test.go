package trace_test

import (
	"math/rand"
	"slices"
	"strconv"
	"testing"

	"fairlead/amount"
	"fairlead/api"
	"fairlead/bits"
	"fairlead/net"
	"fairlead/ops"
	"fairlead/query"
	"fairlead/sample"
	"fairlead/table"
	"fairlead/trace"
	"fairlead/weigh"
)

// step is one that a network does: over a link, with a header, by so many Pushes.
type step struct {
	link   int
	header []int
	pushes uint64
}

// active: the entries by which a row's packets go: another way to find them.
func active(r table.Row, failed bits.Set) []table.Entry {
	for _, group := range r.Groups {
		var left []table.Entry
		for _, e := range group {
			if !failed.Has(e.Out) {
				left = append(left, e)
			}
		}
		if len(left) > 0 {
			return left
		}
	}
	return nil
}

// steps: all that a network does with a header over a link: another way to find
// them.
func steps(n net.Net, failed bits.Set, link int, h []int) []step {
	var l []step
	for _, r := range n.Rows {
		if r.In != link || len(h) == 0 || r.Top != h[0] || failed.Has(link) {
			continue
		}
		for _, e := range active(r, failed) {
			s := step{link: e.Out}
			for _, o := range e.Ops {
				if o.Kind == ops.Push {
					s.pushes++
				}
			}
			var ok bool
			if s.header, ok = ops.Do(n.Kinds(), h, e.Ops); ok {
				l = append(l, s)
			}
		}
	}
	return l
}

// problem: the first thing that speaks against the links of a trace, as a text; and
// what the trace costs.
func problem(n net.Net, w weigh.Weight, failed bits.Set, x trace.Trace) (string, uint64) {
	cost := uint64(0)
	for i, link := range x.Links {
		at := " at " + strconv.Itoa(i)
		if link < 0 || link >= len(n.Topo.Links) {
			return "error 11" + at, 0
		}
		if failed.Has(link) {
			return "error 16" + at, 0
		}
		cost = amount.Sum(cost, w.Hops, amount.Mul(w.Dist, n.Topo.Links[link].Dist))
		if i == 0 {
			continue
		}
		fewest, ok := uint64(0), false
		for _, s := range steps(n, failed, x.Links[i-1], x.Headers[i-1]) {
			if s.link == link && slices.Equal(s.header, x.Headers[i]) && (!ok || s.pushes < fewest) {
				fewest, ok = s.pushes, true
			}
		}
		if !ok {
			return "error 17" + at, 0
		}
		cost = amount.Add(cost, amount.Mul(w.Pushes, fewest))
	}
	return "", cost
}

// verdict: what is told of a trace that has as many headers as links, and one at
// least, as a text.
func verdict(n net.Net, q query.Auto, failed bits.Set, x trace.Trace) string {
	if failed.Len() > q.Fails {
		return "error 6 at -1"
	}
	for link := range failed.All() {
		if link >= len(n.Topo.Links) {
			return "error 11 at -1"
		}
	}
	if !q.Start.Accepts(x.Headers[0]) {
		return "start: error 18 at 0"
	}
	if p, _ := problem(n, weigh.Weight{}, failed, x); p != "" {
		return p
	}
	if !q.Path.Accepts(x.Links) {
		return "path: error 18 at -1"
	}
	if !q.End.Accepts(x.Headers[len(x.Headers)-1]) {
		return "end: error 18 at -1"
	}
	return ""
}

// walk: a trace that a network does, as far as it goes on.
func walk(r *rand.Rand, n net.Net, failed bits.Set) trace.Trace {
	x := trace.Trace{Links: []int{r.Intn(len(n.Topo.Links))}, Headers: [][]int{sample.Pick(r.Intn).Header()}}
	for i := range r.Intn(6) {
		l := steps(n, failed, x.Links[i], x.Headers[i])
		if len(l) == 0 {
			break
		}
		s := l[r.Intn(len(l))]
		x.Links, x.Headers = append(x.Links, s.link), append(x.Headers, s.header)
	}
	return x
}

// spoil: one thing of a trace that is another one.
func spoil(r *rand.Rand, x trace.Trace) trace.Trace {
	x = trace.Then(x, trace.Trace{})
	at := r.Intn(len(x.Links))
	switch r.Intn(3) {
	case 0:
		x.Links[at] = r.Intn(8) - 1
	case 1:
		x.Headers[at] = sample.Pick(r.Intn).Header()
	default:
		x.Headers[at][r.Intn(len(x.Headers[at]))] = r.Intn(8) - 1
	}
	return x
}

// errorText: an error's, or the empty one.
func errorText(err error) string {
	if err == nil {
		return ""
	}
	return err.Error()
}

// P26.1, P26.2, P26.4: of any networks and traces: those that the network does, and
// those of which one thing is spoilt.
func TestAny(t *testing.T) {
	r := rand.New(rand.NewSource(261))
	asks := []string{free, free, "<$ip> .* <.*> ", "<. .+> .* <.*> ", "<.*> l0 .* <.*> ", "<.*> .* <. .> ", "<.*> [^l0]+ <[^a]*> ", "<.*> . .* <b|. b> "}
	weights := []weigh.Weight{{}, {Hops: 1}, {Dist: 1, Pushes: 100}, {Hops: 3, Dist: 7, Pushes: api.MaxWeight}}
	seen := map[string]int{}
	for range 30000 {
		n := sample.Pick(r.Intn).Network()
		checkNil(t, "the network may be", n.Check())
		links := len(n.Topo.Links)
		failed := sample.Pick(r.Intn).Set(links + r.Intn(2))
		q := asked(t, n, asks[r.Intn(len(asks))]+"0")
		q.Fails = links - r.Intn(3)
		x := walk(r, n, failed)
		if r.Intn(2) == 0 {
			x = spoil(r, x)
		}
		what := text(x)
		want := verdict(n, q, failed, x)
		check(t, what+": Check", errorText(trace.Check(n, q, failed, x)), want)
		seen[want]++
		w := weights[r.Intn(len(weights))]
		wrong, cost := problem(n, w, failed, x)
		got, err := trace.Cost(n, w, failed, x)
		check(t, what+": Cost", got, cost)
		check(t, what+": Cost's error", errorText(err), wrong)
		if err == nil {
			goesOn(t, n, w, failed, x)
		}
	}
	for _, want := range []string{"", "error 6 at -1", "error 11 at -1", "start: error 18 at 0", "error 11 at 0", "error 11 at 1", "error 16 at 0", "error 16 at 1", "error 17 at 1", "error 17 at 3", "path: error 18 at -1", "end: error 18 at -1"} {
		check(t, "some of "+want+": "+strconv.Itoa(seen[want]), seen[want] > 10, true)
	}
}

// goesOn: P26.4, at each place of a trace.
func goesOn(t *testing.T, n net.Net, w weigh.Weight, failed bits.Set, x trace.Trace) {
	t.Helper()
	whole, err := trace.Cost(n, w, failed, x)
	checkNil(t, text(x), err)
	for at := 1; at < len(x.Links); at++ {
		part := func(from, to int) (trace.Trace, uint64) {
			p := trace.Trace{Links: x.Links[from:to], Headers: x.Headers[from:to]}
			cost, err := trace.Cost(n, w, failed, p)
			checkNil(t, text(p), err)
			return p, cost
		}
		a, first := part(0, at)
		b, second := part(at, len(x.Links))
		check(t, "both", trace.Same(trace.Then(a, b), x), true)
		_, both := part(at-1, at+1)
		_, one := part(at-1, at)
		_, other := part(at, at+1)
		if whole < api.MaxCost {
			check(t, text(x)+": what it costs", whole, first+second+both-one-other)
		}
	}
}
