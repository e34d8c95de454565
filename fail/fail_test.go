package fail_test

import (
	"cmp"
	"math"
	"math/big"
	"math/rand"
	"slices"
	"strconv"
	"strings"
	"testing"

	"fairlead/api"
	"fairlead/bits"
	"fairlead/fail"
	"fairlead/net"
	"fairlead/query"
	"fairlead/sample"
	"fairlead/show"
	"fairlead/trace"
	"fairlead/weigh"
)

func check[T comparable](t *testing.T, what string, got, want T) {
	t.Helper()
	if got != want {
		t.Errorf("%s: got %v, want %v", what, got, want)
	}
}

// checkNil: is it no error?
func checkNil(t *testing.T, what string, err error) {
	t.Helper()
	if err != nil {
		t.Errorf("%s: %v, want nil", what, err)
	}
}

// ringText: over ab comes what goes on over bc, or, where that failed, over bd, or
// back; from c and d one comes to a again.
const ringText = `{
	"routers": ["a", "b", "c", "d"],
	"labels": {"i": "ip", "m": "mpls", "s": "smpls"},
	"links": {
		"ab": {"from": "a", "to": "b", "dist": 3},
		"ba": {"from": "b", "to": "a", "dist": 40},
		"bc": {"from": "b", "to": "c", "dist": 5},
		"bd": {"from": "b", "to": "d", "dist": 700},
		"ca": {"from": "c", "to": "a", "dist": 0},
		"da": {"from": "d", "to": "a", "dist": 9}
	},
	"table": [
		{"in": "ab", "top": "i", "groups": [
			[{"out": "bc", "ops": ["push s"]}],
			[{"out": "bd", "ops": ["push s", "push m"]}, {"out": "bc", "ops": ["push s"]}],
			[{"out": "ba", "ops": []}]]},
		{"in": "bc", "top": "s", "groups": [[{"out": "ca", "ops": ["pop"]}]]},
		{"in": "bd", "top": "m", "groups": [[{"out": "da", "ops": ["pop", "pop"]}]]},
		{"in": "ca", "top": "i", "groups": [[{"out": "ab", "ops": []}], [{"out": "ab", "ops": ["push s"]}]]},
		{"in": "da", "top": "i", "groups": [[{"out": "ab", "ops": []}]]}
	]
}`

// ring: that network.
func ring() net.Net { return sample.Network(ringText) }

// set: the links of a text.
func set(n net.Net, s string) bits.Set {
	var links bits.Set
	for _, word := range strings.Fields(s) {
		links = links.With(n.Topo.Link(word))
	}
	return links
}

// path: the trace of a text: links, each with its header behind it, with commas
// between.
func path(n net.Net, s string) trace.Trace {
	var t trace.Trace
	for part := range strings.SplitSeq(s, ",") {
		words := strings.Fields(part)
		t.Links = append(t.Links, n.Topo.Link(words[0]))
		var h []int
		for _, word := range words[1:] {
			h = append(h, n.Label(word))
		}
		t.Headers = append(t.Headers, h)
	}
	return t
}

// names: the links of a set, as a text.
func names(n net.Net, s bits.Set) string {
	var l []string
	for link := range s.All() {
		l = append(l, n.Topo.Links[link].Name)
	}
	return strings.Join(l, " ")
}

// text: all sets that are told, with commas between; they are gone through twice.
func text(t *testing.T, of bits.Set, most int) string {
	t.Helper()
	sets := fail.Sets(of, most)
	var l, again []string
	for s := range sets {
		l = append(l, "{"+sample.Numbers(s.List())+"}")
	}
	for s := range sets {
		again = append(again, "{"+sample.Numbers(s.List())+"}")
	}
	check(t, "gone through again", strings.Join(again, ", "), strings.Join(l, ", "))
	return strings.Join(l, ", ")
}

// P27.1: the links of all groups that have another one behind them.
func TestRelevant(t *testing.T) {
	n := ring()
	check(t, "the ring's", names(n, fail.Relevant(n)), "ab bc bd")
	check(t, "of no network", fail.Relevant(net.Net{}), bits.Set{})
	n.Rows = n.Rows[1:3]
	check(t, "of single groups", fail.Relevant(n), bits.Set{})
}

// P27.1: Sets, of the example, and others.
func TestSets(t *testing.T) {
	for _, c := range []struct {
		of   bits.Set
		most int
		want string
	}{
		{bits.Of(3, 1), 1, "{}, {1}, {3}"},
		{bits.Of(3, 1), 0, "{}"},
		{bits.Of(3, 1), 2, "{}, {1}, {3}, {1 3}"},
		{bits.Of(3, 1), 3, "{}, {1}, {3}, {1 3}"},
		{bits.Of(3, 1), math.MaxInt, "{}, {1}, {3}, {1 3}"},
		{bits.Of(3, 1), -1, ""},
		{bits.Of(3, 1), math.MinInt, ""},
		{bits.Set{}, 5, "{}"},
		{bits.Set{}, 0, "{}"},
		{bits.Set{}, -1, ""},
		{bits.Of(127, 0, 64, 63), 2, "{}, {0}, {63}, {64}, {127}, {0 63}, {0 64}, {0 127}, {63 64}, {63 127}, {64 127}"},
		{bits.Of(2, 5, 7, 9), 4, "{}, {2}, {5}, {7}, {9}, {2 5}, {2 7}, {2 9}, {5 7}, {5 9}, {7 9}, {2 5 7}, {2 5 9}, {2 7 9}, {5 7 9}, {2 5 7 9}"},
	} {
		check(t, sample.Numbers(c.of.List())+", at most "+strconv.Itoa(c.most), text(t, c.of, c.most), c.want)
	}
}

// naiveSets: all sets under one, in order: another way to find them.
func naiveSets(of bits.Set, most int) []bits.Set {
	l := []bits.Set{{}}
	for i := range of.All() {
		for _, s := range l {
			l = append(l, s.With(i))
		}
	}
	l = slices.DeleteFunc(l, func(s bits.Set) bool { return s.Len() > most })
	slices.SortFunc(l, func(a, b bits.Set) int {
		return cmp.Or(cmp.Compare(a.Len(), b.Len()), slices.Compare(a.List(), b.List()))
	})
	return l
}

// P27.1: Sets of any set, as far as it is asked; Count tells how many.
func TestSetsAny(t *testing.T) {
	r := rand.New(rand.NewSource(271))
	for range 300 {
		var of bits.Set
		for range r.Intn(10) {
			of = of.With(r.Intn(api.MaxSet))
		}
		most := r.Intn(of.Len()+3) - 1
		want := naiveSets(of, most)
		check(t, "how many", fail.Count(of.Len(), most), uint64(len(want)))
		asked := r.Intn(len(want) + 2)
		var got []bits.Set
		for s := range fail.Sets(of, most) {
			if len(got) == asked {
				break
			}
			got = append(got, s)
		}
		check(t, "as far as it is asked", slices.Equal(got, want[:min(asked, len(want))]), true)
	}
}

// P27.1: of many things, the first sets; none is told behind the one where nothing
// more is asked.
func TestSetsMany(t *testing.T) {
	seen := 0
	for s := range fail.Sets(bits.Upto(api.MaxSet), math.MaxInt) {
		seen++
		if seen == 1+128+128*127/2+1 {
			check(t, "the first of three", sample.Numbers(s.List()), "0 1 2")
			break
		}
	}
	for stop := 1; stop < 8; stop++ {
		told := 0
		fail.Sets(bits.Of(4, 5, 6), 3)(func(bits.Set) bool {
			told++
			return told < stop
		})
		check(t, "told", told, stop)
	}
	last := bits.Set{}
	for s := range fail.Sets(bits.Upto(16), 16) {
		last = s
	}
	check(t, "the last one", last, bits.Upto(16))
}

// naiveCount: how many sets, reckoned with numbers of any length.
func naiveCount(n, most int) uint64 {
	n = min(n, 128)
	sum := new(big.Int)
	for size := 0; size <= min(n, most) && n >= 0; size++ {
		sum.Add(sum, new(big.Int).Binomial(int64(n), int64(size)))
	}
	if sum.IsUint64() && sum.Uint64() <= api.MaxCost {
		return sum.Uint64()
	}
	return api.MaxCost
}

// P27.1: Count, up to the greatest amount.
func TestCount(t *testing.T) {
	for n := -3; n < 140; n++ {
		for most := -3; most < 140; most++ {
			check(t, strconv.Itoa(n)+", "+strconv.Itoa(most), fail.Count(n, most), naiveCount(n, most))
		}
	}
	for _, c := range []struct {
		n, most int
		want    uint64
	}{
		{2, 1, 3},
		{0, 0, 1},
		{0, math.MaxInt, 1},
		{0, -1, 0},
		{-1, 0, 0},
		{-1, -1, 0},
		{math.MinInt, math.MaxInt, 0},
		{math.MaxInt, math.MinInt, 0},
		{math.MaxInt, 0, 1},
		{math.MaxInt, 1, 129},
		{math.MaxInt, 2, 1 + 128 + 8128},
		{math.MaxInt, math.MaxInt, api.MaxCost},
		{62, 62, 1 << 62},
		{63, 63, api.MaxCost},
		{63, 62, api.MaxCost},
		{64, 31, 8307059966383480541},
		{64, 32, api.MaxCost},
		{5, math.MaxInt, 32},
	} {
		check(t, strconv.Itoa(c.n)+", "+strconv.Itoa(c.most), fail.Count(c.n, c.most), c.want)
	}
}

// P27.2: the links of the groups ahead of the active ones.
func TestNeeded(t *testing.T) {
	n := ring()
	for _, c := range []struct{ failed, path, want string }{
		{"", "ab i", ""},
		{"bc bd", "ab i", ""},
		{"", "ab i, bc s i", ""},
		{"bd da", "ab i, bc s i, ca i, ab i", ""},
		{"bc", "ab i, bd m s i", "bc"},
		{"bc ca", "ab i, bd m s i, da i, ab i, bd m s i", "bc"},
		{"bc bd", "ab i, ba i", "bc bd"},
		{"bc bd ca da", "ab i, ba i", "bc bd"},
		// of what it doesn't do
		{"", "ab i, bd m s i", ""},
		{"bc bd", "ab i, bd m s i", ""},
		{"bc ab", "ab i, bd m s i", ""},
		{"bc", "ab i, bd m s i, da i, ab i, ba i", ""},
		{"bc", "ab i, bd m s i, da s i", ""},
		{"bc", "ab i, bd", ""},
	} {
		got := fail.Needed(n, set(n, c.failed), path(n, c.path))
		check(t, c.failed+": "+c.path, names(n, got), c.want)
	}
	bc := set(n, "bc")
	check(t, "of links that aren't there", fail.Needed(n, bc.With(64).With(127), path(n, "ab i, bd m s i")), bc)
	check(t, "of no link", fail.Needed(n, bc, trace.Trace{}), bits.Set{})
	x := path(n, "ab i, bd m s i")
	for _, x := range []trace.Trace{
		{Links: x.Links, Headers: x.Headers[:1]},
		{Links: x.Links[:1], Headers: x.Headers},
		{Links: x.Links},
		{Headers: x.Headers},
		{Links: []int{0, 9}, Headers: x.Headers},
		{Links: []int{-1, 3}, Headers: x.Headers},
		{Links: x.Links, Headers: [][]int{nil, nil}},
	} {
		check(t, "of what is none", fail.Needed(n, bc, x), bits.Set{})
	}
}

// naiveNeeded: the links of all groups that go ahead of one that has a link left, at
// each step.
func naiveNeeded(n net.Net, failed bits.Set, x trace.Trace) bits.Set {
	var need bits.Set
	for at, link := range x.Links[:len(x.Links)-1] {
		for _, r := range n.Rows {
			if r.In != link || r.Top != x.Headers[at][0] {
				continue
			}
			for _, group := range r.Groups {
				var links bits.Set
				for _, e := range group {
					links = links.With(e.Out)
				}
				if !links.Under(failed) {
					break
				}
				need = need.Or(links)
			}
		}
	}
	return need
}

// P27.2, P27.3: of any traces: they are done under what is needed, and under what is
// relevant, and cost no more.
func TestAny(t *testing.T) {
	r := rand.New(rand.NewSource(272))
	pick := sample.Pick(r.Intn)
	w := weigh.Weight{Hops: 1, Dist: 2, Pushes: 10}
	free, err := query.Parse("<.*> .* <.*> 0")
	checkNil(t, "the query", err)
	long, some, fewer := 0, 0, 0
	for range 20000 {
		n := pick.Network()
		failed := pick.Set(len(n.Topo.Links) + r.Intn(2))
		x := pick.Trace(n, failed, 6)
		if len(x.Links) == 0 {
			continue
		}
		cost, err := trace.Cost(n, w, failed, x)
		checkNil(t, "it is done", err)
		need, relevant := fail.Needed(n, failed, x), fail.Relevant(n)
		check(t, "what is needed", need, naiveNeeded(n, failed, x))
		check(t, "of those that failed, and are relevant", need.Under(failed.And(relevant)), true)
		check(t, "needed of what is needed", fail.Needed(n, need, x), need)
		q, err := query.Of(n, free)
		checkNil(t, "the query's automata", err)
		q.Fails = len(n.Topo.Links) + 1
		for _, under := range []bits.Set{need, failed.And(relevant)} {
			checkNil(t, "it is a witness", trace.Check(n, q, under, x))
			again, err := trace.Cost(n, w, under, x)
			checkNil(t, "it is done under these", err)
			check(t, "it costs no more", again <= cost, true)
		}
		if len(x.Links) > 3 {
			long++
		}
		if need != (bits.Set{}) {
			some++
		}
		if need != failed.And(relevant) {
			fewer++
		}
	}
	check(t, "some of each", long > 1000 && some > 1000 && fewer > 1000, true)
}

// Nothing that is handed in is changed, and the answers are the same each time.
func TestSame(t *testing.T) {
	n := ring()
	before, err := show.Print(n)
	checkNil(t, "Print", err)
	x := path(n, "ab i, bd m s i, da i, ab i, bd m s i")
	was := trace.Then(x, trace.Trace{})
	for range 5 {
		check(t, "Relevant", names(n, fail.Relevant(n)), "ab bc bd")
		check(t, "Needed", names(n, fail.Needed(n, set(n, "bc ca"), x)), "bc")
	}
	check(t, "the trace", trace.Same(x, was), true)
	after, err := show.Print(n)
	checkNil(t, "Print", err)
	check(t, "the network", after, before)
}

// Of what isn't promised: all ends without a panic.
func TestUnpromised(t *testing.T) {
	n := ring()
	x := path(n, "ab i, bd m s i")
	n.Rows[0].Groups[0][0].Out = 999
	n.Rows[0].Groups[1][0].Out = -1
	check(t, "Relevant", fail.Relevant(n), set(n, "ab bc"))
	fail.Needed(n, set(n, "bc"), x)
	fail.Needed(net.Net{}, bits.Set{}, x)
}
