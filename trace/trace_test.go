package trace_test

import (
	"math"
	"slices"
	"strconv"
	"strings"
	"testing"

	"fairlead/api"
	"fairlead/bits"
	"fairlead/net"
	"fairlead/oops"
	"fairlead/query"
	"fairlead/sample"
	"fairlead/show"
	"fairlead/trace"
	"fairlead/weigh"
)

func check[T comparable](t *testing.T, what string, got, want T) {
	t.Helper()
	if got != want {
		t.Errorf("%s: got %v, want %v", what, got, want)
	}
}

// checkNil: is it no error?
func checkNil(t *testing.T, what string, err error) {
	t.Helper()
	if err != nil {
		t.Errorf("%s: %v, want nil", what, err)
	}
}

// checkFault: is it just a fault of both, within just these words?
func checkFault(t *testing.T, what string, err error, code api.Errno, at int, words ...string) {
	t.Helper()
	want := oops.New(code, at)
	for _, word := range slices.Backward(words) {
		want = oops.In(word, want)
	}
	if err == nil || !oops.Same(err, want) || err.Error() != want.Error() {
		t.Errorf("%s: %v, want %v", what, err, want)
	}
}

// exampleText: the network of layer 13's example.
const exampleText = `{
	"routers": ["r", "s"],
	"labels": {"x": "ip", "s": "smpls"},
	"links": {"l0": {"from": "r", "to": "s", "dist": 3}, "l1": {"from": "s", "to": "r", "dist": 5}},
	"table": [{"in": "l0", "top": "x", "groups": [[{"out": "l1", "ops": ["push s"]}]]}]
}`

// ringText: over ab comes what goes on over bc, or, where that failed, over bd, or
// back; from c and d one comes to a again. Over da one comes to ab with the same
// header by several chains.
const ringText = `{
	"routers": ["a", "b", "c", "d"],
	"labels": {"i": "ip", "j": "ip", "m": "mpls", "s": "smpls", "t": "smpls"},
	"links": {
		"ab": {"from": "a", "to": "b", "dist": 3},
		"ba": {"from": "b", "to": "a", "dist": 40},
		"bc": {"from": "b", "to": "c", "dist": 5},
		"bd": {"from": "b", "to": "d", "dist": 700},
		"ca": {"from": "c", "to": "a", "dist": 0},
		"da": {"from": "d", "to": "a", "dist": 9}
	},
	"table": [
		{"in": "ab", "top": "i", "groups": [
			[{"out": "bc", "ops": ["push s"]}, {"out": "bc", "ops": ["swap j"]}],
			[{"out": "bd", "ops": ["push t", "push m"]}],
			[{"out": "ba", "ops": []}]]},
		{"in": "bc", "top": "s", "groups": [[{"out": "ca", "ops": ["pop"]}]]},
		{"in": "bc", "top": "j", "groups": [[{"out": "ca", "ops": ["swap i"]}]]},
		{"in": "bd", "top": "m", "groups": [[{"out": "da", "ops": ["pop"]}]]},
		{"in": "ca", "top": "i", "groups": [[{"out": "ab", "ops": []}]]},
		{"in": "da", "top": "t", "groups": [[
			{"out": "ab", "ops": ["pop", "push s", "push m", "pop", "pop"]},
			{"out": "ab", "ops": ["push m", "pop", "pop"]},
			{"out": "ab", "ops": ["pop", "push t", "push m", "push m", "pop", "pop", "pop"]},
			{"out": "ab", "ops": ["pop", "swap j"]}]]}
	]
}`

// ring: that network.
func ring() net.Net { return sample.Network(ringText) }

// number: that of a name that is there, or of digits.
func number(word string, i int) int {
	if i >= 0 {
		return i
	}
	i, err := strconv.Atoi(word)
	if err != nil {
		panic(err) // a test is written wrongly
	}
	return i
}

// path: the trace of a text: links, each with its header behind it, with commas
// between.
func path(n net.Net, s string) trace.Trace {
	var t trace.Trace
	if s == "" {
		return t
	}
	for part := range strings.SplitSeq(s, ",") {
		words := strings.Fields(part)
		t.Links = append(t.Links, number(words[0], n.Topo.Link(words[0])))
		var h []int
		for _, word := range words[1:] {
			h = append(h, number(word, n.Label(word)))
		}
		t.Headers = append(t.Headers, h)
	}
	return t
}

// set: the links of a text.
func set(n net.Net, s string) bits.Set {
	var links bits.Set
	for _, word := range strings.Fields(s) {
		links = links.With(number(word, n.Topo.Link(word)))
	}
	return links
}

// text: all that a trace is.
func text(t trace.Trace) string {
	s := sample.Numbers(t.Links)
	for _, h := range t.Headers {
		s += "; " + sample.Numbers(h)
	}
	return s
}

// asked: a query over a network.
func asked(t *testing.T, n net.Net, s string) query.Auto {
	t.Helper()
	q, err := query.Parse(s)
	checkNil(t, s, err)
	a, err := query.Of(n, q)
	checkNil(t, s, err)
	return a
}

// weight: the one of a text.
func weight(t *testing.T, s string) weigh.Weight {
	t.Helper()
	w, err := weigh.Parse(s)
	checkNil(t, s, err)
	return w
}

// P26.1: the chapter's example.
func TestExample(t *testing.T) {
	n := sample.Network(exampleText)
	q := asked(t, n, "<$ip> . . <$smpls .> 0")
	x := path(n, "l0 x, l1 s x")
	check(t, "the trace", text(x), "0 1; 1; 0 1")
	checkNil(t, "it is a witness", trace.Check(n, q, bits.Set{}, x))
	cost, err := trace.Cost(n, weight(t, "hops"), bits.Set{}, x)
	check(t, "what it costs", err == nil && cost == 2, true)
	cost, err = trace.Cost(n, weight(t, "100*hops + dist + 1000*pushes"), bits.Set{}, x)
	check(t, "what it costs by all", err == nil && cost == 1208, true)
	checkFault(t, "the first link alone", trace.Check(n, q, bits.Set{}, path(n, "l0 x")), api.ErrWord, -1, "path")
}

// free is a query, but for its Fails, that asks for no more than headers.
const free = "<.*> .* <.*> "

// P26.1: witnesses.
func TestCheck(t *testing.T) {
	n := ring()
	for _, c := range []struct{ ask, failed, path string }{
		{free + "0", "", "ab i"},
		{free + "0", "", "ba t i"},
		{free + "0", "", "bc m m t j"},
		{free + "6", "ba bc bd ca da", "ab i"},
		{free + "0", "", "ab i, bc s i"},
		{free + "0", "", "ab i, bc j"},
		{free + "0", "", "ab i, bc s i, ca i, ab i, bc j, ca i"},
		{free + "1", "bc", "ab i, bd m t i, da t i, ab i, bd m t i"},
		{free + "2", "bc bd", "ab i, ba i"},
		{free + "4", "bc bd ca", "ab i, ba i"},
		{free + "3", "ca da", "ab i, bc s i"},
		{free + "0", "", "da t i, ab j"},
		{free + "0", "", "da t i, ab i, bc j"},
		{"<i> ab bc <s i> 0", "", "ab i, bc s i"},
		{"<$ip> a#b . <. $ip> 4", "ca", "ab i, bc s i"},
		{"<. .> . (ab|ba)* <j> 0", "", "da t i, ab j"},
		{"<[^j]> .* bd .+ <t i> 1", "bc", "ab i, bd m t i, da t i"},
	} {
		what := c.ask + ": " + c.failed + ": " + c.path
		checkNil(t, what, trace.Check(n, asked(t, n, c.ask), set(n, c.failed), path(n, c.path)))
	}
}

// P26.1: each error, of the first thing that is wrong.
func TestCheckErrors(t *testing.T) {
	n := ring()
	wrong := func(ask, failed, links string, code api.Errno, at int, words ...string) {
		t.Helper()
		what := ask + ": " + failed + ": " + links
		checkFault(t, what, trace.Check(n, asked(t, n, ask), set(n, failed), path(n, links)), code, at, words...)
	}
	wrong(free+"0", "bd", "ab i", api.ErrMany, -1)
	wrong(free+"2", "bc bd ba", "ab i", api.ErrMany, -1)
	wrong(free+"5", "ab ba bc bd ca da", "", api.ErrMany, -1)
	wrong(free+"1", "6", "ab i", api.ErrNone, -1)
	wrong(free+"2", "bc 127", "ab i", api.ErrNone, -1)
	wrong(free+"3", "64 ab bd", "ab i", api.ErrNone, -1)
	wrong(free+"0", "", "", api.ErrEmpty, -1)
	wrong("<j> .* <.*> 0", "", "ab i", api.ErrWord, 0, "start")
	wrong("<. .> .* <.*> 0", "", "ab i, bc s i", api.ErrWord, 0, "start")
	for _, h := range []string{"", "s", "i i", "s t i", "m i", "i s", "5", "-1 i", "128"} {
		wrong(free+"0", "", "ab "+h, api.ErrWord, 0, "start")
	}
	for _, link := range []string{"6", "-1", "63", "64", "127", "128", "9223372036854775807", "-9223372036854775808"} {
		wrong(free+"0", "", link+" i", api.ErrNone, 0)
		wrong(free+"0", "", "ab i, "+link+" s i", api.ErrNone, 1)
		wrong(free+"0", "", "ab i, bc s i, ca i, "+link+" i, 7 i", api.ErrNone, 3)
	}
	wrong(free+"1", "ab", "ab i", api.ErrFailed, 0)
	wrong(free+"1", "bc", "ab i, bc s i", api.ErrFailed, 1)
	wrong(free+"2", "ca da", "ab i, bc s i, ca i", api.ErrFailed, 2)
	wrong("<.*> ba* <.*> 0", "", "ab i", api.ErrWord, -1, "path")
	wrong("<.*> . <.*> 0", "", "ab i, bc s i", api.ErrWord, -1, "path")
	wrong("<.*> () <.*> 0", "", "ab i", api.ErrWord, -1, "path")
	wrong("<.*> .* <. .> 0", "", "ab i", api.ErrWord, -1, "end")
	wrong("<.*> .* <i> 0", "", "ab i, bc s i", api.ErrWord, -1, "end")
}

// P26.1: steps that the network doesn't do, under the failed links.
func TestCheckSteps(t *testing.T) {
	n := ring()
	wrong := func(failed, links string, at int) {
		t.Helper()
		checkFault(t, failed+": "+links, trace.Check(n, asked(t, n, free+"6"), set(n, failed), path(n, links)), api.ErrStep, at)
	}
	wrong("", "ab i, bc i", 1)
	wrong("", "ab i, bc s j", 1)
	wrong("", "ab i, bc", 1)
	wrong("", "ab i, bc 7", 1)
	wrong("", "ab i, bc s s i", 1)
	wrong("", "ab i, ba i", 1)
	wrong("", "ab i, ab i", 1)
	wrong("", "ab i, bd m t i", 1)
	wrong("bc", "ab i, ba i", 1)
	wrong("bc bd ba", "ab i, ca i", 1)
	wrong("", "ab j, bc j", 1)
	wrong("", "ab i, bc s i, ca i, ab i, bc s i, ca j", 5)
	wrong("", "ab i, bc s i, ca j, ab j", 2)
	wrong("", "da t i, ab i, ba i", 2)
	wrong("", "ba i, ab i", 1)
}

// P26.1: of two errors the one that is named first; of two links the first one.
func TestCheckOrder(t *testing.T) {
	n := ring()
	wrong := func(q query.Auto, failed string, x trace.Trace, code api.Errno, at int, words ...string) {
		t.Helper()
		checkFault(t, failed+": "+text(x), trace.Check(n, q, set(n, failed), x), code, at, words...)
	}
	none := asked(t, n, "<m> () <m> 0")
	one := asked(t, n, "<m> () <m> 1")
	bad := path(n, "9 9, 9")
	bad.Links = bad.Links[:1]
	wrong(none, "99", bad, api.ErrMany, -1)
	wrong(one, "99", bad, api.ErrNone, -1)
	wrong(one, "ab", bad, api.ErrForm, -1)
	wrong(one, "ab", trace.Trace{Headers: [][]int{nil}}, api.ErrForm, -1)
	wrong(one, "ab", trace.Trace{Links: []int{0}}, api.ErrForm, -1)
	wrong(one, "ab", trace.Trace{Links: []int{}, Headers: [][]int{}}, api.ErrEmpty, -1)
	wrong(one, "ab", path(n, "9 i, ab i"), api.ErrWord, 0, "start")
	one = asked(t, n, "<.*> () <m> 1")
	wrong(one, "ab", path(n, "9 i, ab i"), api.ErrNone, 0)
	wrong(one, "ab", path(n, "ab i, 9 i"), api.ErrFailed, 0)
	wrong(one, "bc", path(n, "ab i, bc i, ab i"), api.ErrFailed, 1)
	wrong(one, "ca", path(n, "ab i, bc i, ca i"), api.ErrStep, 1)
	wrong(one, "ca", path(n, "ab i, bc i, 9 i"), api.ErrStep, 1)
	wrong(one, "ca", path(n, "ab i, bc i"), api.ErrStep, 1)
	wrong(one, "ca", path(n, "ab i, bc s i"), api.ErrWord, -1, "path")
	one = asked(t, n, "<.*> .* <m> 1")
	wrong(one, "ca", path(n, "ab i, bc s i"), api.ErrWord, -1, "end")
}

// P26.1: whatever a query's Fails.
func TestCheckFails(t *testing.T) {
	n := ring()
	q, x := asked(t, n, free+"0"), path(n, "ab i")
	for _, q.Fails = range []int{-1, -2, math.MinInt} {
		checkFault(t, "below 0", trace.Check(n, q, bits.Set{}, x), api.ErrMany, -1)
	}
	for _, q.Fails = range []int{5, 6, 64, 65, 128, math.MaxInt} {
		checkNil(t, "more", trace.Check(n, q, set(n, "ba bc bd ca da"), x))
	}
	all := bits.Upto(api.MaxSet)
	for _, q.Fails = range []int{0, 6, 64, 127} {
		checkFault(t, "too many", trace.Check(n, q, all, x), api.ErrMany, -1)
	}
	for _, q.Fails = range []int{128, math.MaxInt} {
		checkFault(t, "not too many", trace.Check(n, q, all, x), api.ErrNone, -1)
	}
}

// P26.2: what the links cost, and of each step the fewest Pushes.
func TestCost(t *testing.T) {
	n := ring()
	all := weight(t, "hops + 10*dist + 100000*pushes")
	for _, c := range []struct {
		w            weigh.Weight
		failed, path string
		want         uint64
	}{
		{all, "", "ab i", 31},
		{all, "", "ca j", 1},
		{all, "", "bd m m t i", 7001},
		{all, "", "ab i, bc s i", 100082},
		{all, "", "ab i, bc j", 82},
		{all, "bc", "ab i, bd m t i", 207032},
		{all, "bc", "ab i, bd m t i, da t i", 207123},
		{all, "bc", "ab i, bd m t i, da t i, ab i", 307154},
		{all, "", "da t i, ab i", 100122},
		{all, "", "da t i, ab j", 122},
		{all, "bc bd", "ab i, ba i", 432},
		{all, "", "ab i, bc s i, ca i, ab i, bc j, ca i", 100166},
		{weight(t, "hops"), "", "ab i, bc s i, ca i", 3},
		{weight(t, "dist"), "", "ab i, bc s i, ca i", 8},
		{weight(t, "pushes"), "bc", "ab i, bd m t i, da t i, ab i", 3},
		{weight(t, "7*hops + 5*pushes"), "bc", "ab i, bd m t i, da t i, ab i", 43},
		{weight(t, "0"), "bc", "ab i, bd m t i, da t i, ab i", 0},
	} {
		cost, err := trace.Cost(n, c.w, set(n, c.failed), path(n, c.path))
		checkNil(t, c.path, err)
		check(t, c.path, cost, c.want)
	}
}

// P26.2: the first header may be any; failed links may be any that aren't there.
func TestCostFree(t *testing.T) {
	n, w := ring(), weight(t, "hops + 10*dist")
	for _, x := range []string{"ab", "ab s", "ab 9 -1", "ab i i"} {
		cost, err := trace.Cost(n, w, bits.Set{}, path(n, x))
		check(t, x, err == nil && cost == 31, true)
	}
	cost, err := trace.Cost(n, w, bits.Upto(128).Less(set(n, "ab bc")), path(n, "ab i, bc j"))
	check(t, "all others failed", err == nil && cost == 82, true)
}

// P26.2: each error, of the first thing that is wrong.
func TestCostErrors(t *testing.T) {
	n, w := ring(), weight(t, "hops + dist + pushes")
	wrong := func(failed string, x trace.Trace, code api.Errno, at int) {
		t.Helper()
		cost, err := trace.Cost(n, w, set(n, failed), x)
		checkFault(t, failed+": "+text(x), err, code, at)
		check(t, failed+": "+text(x), cost, 0)
	}
	wrong("", trace.Trace{}, api.ErrEmpty, -1)
	wrong("", trace.Trace{Links: []int{}, Headers: [][]int{}}, api.ErrEmpty, -1)
	wrong("", trace.Trace{Headers: [][]int{nil}}, api.ErrForm, -1)
	wrong("ab 99", trace.Trace{Links: []int{0}}, api.ErrForm, -1)
	wrong("ab", trace.Trace{Links: []int{0, 9}, Headers: [][]int{{0}}}, api.ErrForm, -1)
	wrong("ab", trace.Trace{Links: []int{9}, Headers: [][]int{{0}, {1}}}, api.ErrForm, -1)
	for _, link := range []string{"6", "-1", "63", "64", "127", "128", "9223372036854775807", "-9223372036854775808"} {
		wrong("63 64 127", path(n, link+" i"), api.ErrNone, 0)
		wrong("63 64 127", path(n, "ab i, "+link+" i, 7 i"), api.ErrNone, 1)
	}
	wrong("ab", path(n, "ab i"), api.ErrFailed, 0)
	wrong("ab", path(n, "ab i, 9 i"), api.ErrFailed, 0)
	wrong("bc ca", path(n, "ab i, bc i, ca i"), api.ErrFailed, 1)
	wrong("ca", path(n, "ab i, bc i, ca i"), api.ErrStep, 1)
	wrong("ca", path(n, "ab i, bc s i, ca i"), api.ErrFailed, 2)
	wrong("", path(n, "ab i, bc s i, ca j, 9 i"), api.ErrStep, 2)
	wrong("", path(n, "ab i, bd m t i"), api.ErrStep, 1)
	wrong("", path(n, "ab s, bc s s"), api.ErrStep, 1)
	wrong("", path(n, "ab, bc"), api.ErrStep, 1)
	wrong("", path(n, "ab 9, bc 9"), api.ErrStep, 1)
}

// P26.2: up to the greatest amount, past which nothing goes round.
func TestCostly(t *testing.T) {
	n := sample.Network(exampleText)
	x := path(n, "l0 x, l1 s x")
	for _, c := range []struct {
		first, second uint64
		w             weigh.Weight
		want          uint64
	}{
		{api.MaxCost - 1, 0, weigh.Weight{Dist: 1}, api.MaxCost - 1},
		{api.MaxCost - 1, 0, weigh.Weight{Dist: 1, Hops: 1}, api.MaxCost},
		{api.MaxCost - 1, 0, weigh.Weight{Dist: 1, Pushes: 1}, api.MaxCost},
		{api.MaxCost - 2, 1, weigh.Weight{Dist: 1}, api.MaxCost - 1},
		{api.MaxCost, api.MaxCost, weigh.Weight{Dist: 1}, api.MaxCost},
		{api.MaxCost, api.MaxCost, weigh.Weight{Dist: api.MaxWeight}, api.MaxCost},
		{api.MaxCost, api.MaxCost, weigh.Weight{Hops: api.MaxWeight, Pushes: 1}, 2*api.MaxWeight + 1},
		{1, 1, weigh.Weight{Hops: math.MaxUint64}, api.MaxCost},
		{1, 1, weigh.Weight{Dist: 1 << 63}, api.MaxCost},
		{1, 1, weigh.Weight{Pushes: math.MaxUint64}, api.MaxCost},
		{1, 1, weigh.Weight{Hops: 1 << 62, Dist: 1 << 62, Pushes: 1 << 62}, api.MaxCost},
		{1, 1, weigh.Weight{Hops: 1 << 61, Pushes: 1 << 61}, 3 << 61},
	} {
		n.Topo.Links[0].Dist, n.Topo.Links[1].Dist = c.first, c.second
		cost, err := trace.Cost(n, c.w, bits.Set{}, x)
		checkNil(t, "may be", err)
		check(t, "what it costs", cost, c.want)
	}
}

// P26.3: are two the same?
func TestSame(t *testing.T) {
	traces := []trace.Trace{
		{},
		{Links: []int{0}},
		{Headers: [][]int{nil}},
		{Headers: [][]int{nil, nil}},
		{Links: []int{0}, Headers: [][]int{nil}},
		{Links: []int{0}, Headers: [][]int{{0}}},
		{Links: []int{1}, Headers: [][]int{{0}}},
		{Links: []int{0}, Headers: [][]int{{1}}},
		{Links: []int{0}, Headers: [][]int{{0, 1}}},
		{Links: []int{0}, Headers: [][]int{{1, 0}}},
		{Links: []int{0, 0}, Headers: [][]int{{0}, {1}}},
		{Links: []int{0, 0}, Headers: [][]int{{0, 1}, {}}},
		{Links: []int{0, 1}, Headers: [][]int{{0}, {1}}},
		{Links: []int{1, 0}, Headers: [][]int{{0}, {1}}},
		{Links: []int{0, 1}, Headers: [][]int{{1}, {0}}},
		{Links: []int{math.MinInt}, Headers: [][]int{{math.MaxInt}}},
	}
	for i, a := range traces {
		for j, b := range traces {
			check(t, text(a)+" and "+text(b), trace.Same(a, b), i == j)
			check(t, text(a)+" and a copy of "+text(b), trace.Same(a, trace.Then(b, trace.Trace{})), i == j)
		}
	}
	check(t, "empty lists", trace.Same(trace.Trace{Links: []int{}, Headers: [][]int{}}, trace.Trace{}), true)
	check(t, "an empty header", trace.Same(trace.Trace{Headers: [][]int{{}}}, trace.Trace{Headers: [][]int{nil}}), true)
}

// P26.3: one behind the other.
func TestThen(t *testing.T) {
	n := ring()
	a, b, c := path(n, "ab i"), path(n, "bc s i, ca i"), path(n, "9 9 -1, ab")
	check(t, "of two", text(trace.Then(a, b)), text(path(n, "ab i, bc s i, ca i")))
	check(t, "turned about", text(trace.Then(b, a)), text(path(n, "bc s i, ca i, ab i")))
	check(t, "nothing behind", text(trace.Then(b, trace.Trace{})), text(b))
	check(t, "nothing ahead", text(trace.Then(trace.Trace{}, b)), text(b))
	check(t, "nothing", text(trace.Then(trace.Trace{}, trace.Trace{})), "")
	check(t, "of any", text(trace.Then(b, c)), text(path(n, "bc s i, ca i, 9 9 -1, ab")))
	check(t, "of three", text(trace.Then(trace.Then(a, b), c)), text(trace.Then(a, trace.Then(b, c))))
	x := trace.Then(trace.Trace{Links: []int{1, 2}}, trace.Trace{Links: []int{3}, Headers: [][]int{{4}, {5, 6}}})
	check(t, "as many of each as there are", text(x), "1 2 3; 4; 5 6")
}

// P26.4: what goes on costs what both cost, and the step between them.
func TestThenCosts(t *testing.T) {
	n, w := ring(), weight(t, "hops + 10*dist + 100000*pushes")
	cost := func(x trace.Trace) uint64 {
		t.Helper()
		cost, err := trace.Cost(n, w, set(n, "bc"), x)
		checkNil(t, text(x), err)
		return cost
	}
	a, b, c := path(n, "ab i"), path(n, "bd m t i, da t i"), path(n, "ab i")
	check(t, "two Pushes between", cost(trace.Then(a, b)), cost(a)+cost(b)+200000)
	check(t, "one, at the fewest", cost(trace.Then(b, c)), cost(b)+cost(c)+100000)
	check(t, "both", cost(trace.Then(trace.Then(a, b), c)), cost(a)+cost(b)+cost(c)+300000)
	_, err := trace.Cost(n, w, set(n, "bc"), trace.Then(b, path(n, "bd m t i")))
	checkFault(t, "one that doesn't go on", err, api.ErrStep, 2)
}

// P26.1, P26.2: as long as paths get.
func TestLong(t *testing.T) {
	n := ring()
	round := path(n, "ab i, bc s i, ca i")
	var x trace.Trace
	for range 100000 {
		x.Links = append(x.Links, round.Links...)
		x.Headers = append(x.Headers, round.Headers...)
	}
	q := asked(t, n, "<i> (ab bc ca)* <i> 0")
	checkNil(t, "it is a witness", trace.Check(n, q, bits.Set{}, x))
	cost, err := trace.Cost(n, weight(t, "hops + dist + pushes"), bits.Set{}, x)
	check(t, "what it costs", err == nil && cost == 100000*(3+8+1), true)
	x.Links[len(x.Links)-1] = 0
	checkFault(t, "the last step", trace.Check(n, q, bits.Set{}, x), api.ErrStep, len(x.Links)-1)
}

// Memory: nothing that is handed in is changed, spare room included.
func TestUnchanged(t *testing.T) {
	n := ring()
	room := []int{0, 7, 7}
	x := trace.Trace{Links: []int{0, 2, 9, 9}[:2], Headers: [][]int{room[:1], {3, 0}, {8}, {9}}[:2]}
	q := asked(t, n, free+"0")
	was := show.Same(n, ring())
	checkNil(t, "a witness", trace.Check(n, q, bits.Set{}, x))
	_, err := trace.Cost(n, weight(t, "hops"), bits.Set{}, x)
	checkNil(t, "its cost", err)
	trace.Same(x, x)
	trace.Then(x, x)
	check(t, "the trace", text(trace.Trace{Links: x.Links[:4], Headers: x.Headers[:4]}), "0 2 9 9; 0; 3 0; 8; 9")
	check(t, "a header's room", sample.Numbers(room), "0 7 7")
	check(t, "the network", was && show.Same(n, ring()), true)
}

// Memory: what Then answers is new.
func TestThenMemory(t *testing.T) {
	a := trace.Trace{Links: []int{1, 2}, Headers: [][]int{{3, 4}, {5}}}
	for _, b := range []trace.Trace{{}, a, {Links: []int{6}, Headers: [][]int{{7, 8}}}} {
		for _, one := range []trace.Trace{trace.Then(a, b), trace.Then(b, a)} {
			was := text(a) + text(b)
			for i := range one.Links {
				one.Links[i] = 90
			}
			for i, h := range one.Headers {
				h = h[:cap(h)]
				for j := range h {
					h[j] = i + 91
				}
			}
			for i, h := range one.Headers {
				for _, label := range h {
					check(t, "a header of its own", label, i+91)
				}
				one.Headers[i] = []int{99}
			}
			check(t, "what was handed in", text(a)+text(b), was)
		}
	}
}
