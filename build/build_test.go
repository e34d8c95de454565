package build_test

import (
	"math"
	"slices"
	"strconv"
	"strings"
	"testing"

	"fairlead/bits"
	"fairlead/build"
	"fairlead/class"
	"fairlead/net"
	"fairlead/nfa"
	"fairlead/pds"
	"fairlead/regex"
	"fairlead/sample"
	"fairlead/weigh"
)

func check[T comparable](t *testing.T, what string, got, want T) {
	t.Helper()
	if got != want {
		t.Errorf("%s: got %v, want %v", what, got, want)
	}
}

// checkNil: is it no error?
func checkNil(t *testing.T, what string, err error) {
	t.Helper()
	if err != nil {
		t.Errorf("%s: %v, want nil", what, err)
	}
}

// exampleText: the network of layer 13's example.
const exampleText = `{
	"routers": ["r", "s"],
	"labels": {"x": "ip", "s": "smpls"},
	"links": {"l0": {"from": "r", "to": "s", "dist": 3}, "l1": {"from": "s", "to": "r", "dist": 5}},
	"table": [{"in": "l0", "top": "x", "groups": [[{"out": "l1", "ops": ["push s"]}]]}]
}`

// ringText: over ab comes what goes on over bc, or, where that failed, over bd, or
// back; from c and d one comes to a again, by chains of all sorts.
const ringText = `{
	"routers": ["a", "b", "c", "d"],
	"labels": {"i": "ip", "j": "ip", "m": "mpls", "o": "mpls", "s": "smpls", "t": "smpls"},
	"links": {
		"ab": {"from": "a", "to": "b", "dist": 3},
		"ba": {"from": "b", "to": "a", "dist": 40},
		"bc": {"from": "b", "to": "c", "dist": 5},
		"bd": {"from": "b", "to": "d", "dist": 700},
		"ca": {"from": "c", "to": "a", "dist": 0},
		"da": {"from": "d", "to": "a", "dist": 9}
	},
	"table": [
		{"in": "ab", "top": "i", "groups": [
			[{"out": "bc", "ops": ["push s"]}],
			[{"out": "bc", "ops": []}, {"out": "bd", "ops": ["push s", "push m"]}],
			[{"out": "ba", "ops": []}]]},
		{"in": "bc", "top": "m", "groups": [[{"out": "ca", "ops": ["pop", "swap t", "push o"]}]]},
		{"in": "bc", "top": "s", "groups": [[{"out": "ca", "ops": ["pop"]}, {"out": "ca", "ops": ["push m", "pop", "pop"]}]]},
		{"in": "bd", "top": "m", "groups": [
			[{"out": "da", "ops": ["pop", "pop"]}, {"out": "da", "ops": ["push o", "push m", "push o", "push m"]}],
			[{"out": "da", "ops": ["pop", "push m"]}, {"out": "da", "ops": ["pop", "pop", "push t", "push m", "push o"]}]]},
		{"in": "ca", "top": "i", "groups": [[{"out": "ab", "ops": []}]]},
		{"in": "da", "top": "i", "groups": [[{"out": "ab", "ops": ["swap j"]}], [{"out": "ab", "ops": ["swap i"]}]]}
	]
}`

// ring: that network.
func ring() net.Net { return sample.Network(ringText) }

// paths: the automaton of an expression over links.
func paths(t *testing.T, n net.Net, s string) nfa.NFA {
	t.Helper()
	x, err := regex.Parse(s)
	checkNil(t, s, err)
	node, err := class.Links(n, x)
	checkNil(t, s, err)
	return nfa.Of(node)
}

// set: the links of a text.
func set(n net.Net, s string) bits.Set {
	var links bits.Set
	for _, word := range strings.Fields(s) {
		links = links.With(n.Topo.Link(word))
	}
	return links
}

// header: the labels of a text.
func header(n net.Net, s string) []int {
	var h []int
	for _, word := range strings.Fields(s) {
		h = append(h, n.Label(word))
	}
	return h
}

// cost: as a text.
func costText(cost uint64) string { return strconv.FormatUint(cost, 10) }

// stepText: one by which one comes on: the place, the header, what it costs, and
// the links that had to fail.
func stepText(n net.Net, p build.Place, h []int, cost uint64, needs bits.Set) string {
	words := []string{n.Topo.Links[p.Link].Name, strconv.Itoa(p.At), strconv.Itoa(p.Fails) + ":"}
	for _, label := range h {
		words = append(words, n.Labels[label].Name)
	}
	words = append(words, "for", costText(cost))
	for link := range needs.All() {
		words = append(words, n.Topo.Links[link].Name)
	}
	return strings.Join(words, " ")
}

// rulesOf: of each state the places of its rules.
func rulesOf(s pds.System) [][]int {
	l := make([][]int, s.States)
	for at, r := range s.Rules {
		l[r.From] = append(l[r.From], at)
	}
	return l
}

// finder finds the runs of a model.
type finder struct {
	t     *testing.T
	n     net.Net
	m     build.Model
	s     pds.System
	rules [][]int // of each state
}

func findIn(t *testing.T, n net.Net, m build.Model) finder {
	t.Helper()
	s := m.System()
	checkNil(t, "the system may be", s.Check())
	check(t, "its labels", s.Labels, len(n.Labels))
	return finder{t, n, m, s, rulesOf(s)}
}

// runs: all from a configuration that come to a place with their last rule, and to
// none ahead of it; they hang on ahead, and are told to tell.
func (f finder) runs(c pds.Config, ahead []int, tell func(run []int)) {
	for _, at := range f.rules[c.State] {
		if len(c.Stack) == 0 || c.Stack[0] != f.s.Rules[at].Top {
			continue
		}
		run := append(slices.Clone(ahead), at)
		to := pds.Config{State: f.s.Rules[at].To, Stack: slices.Concat(f.s.Rules[at].Push, c.Stack[1:])}
		if _, ok := f.m.Place(to.State); ok {
			tell(run)
		} else {
			f.runs(to, run, tell)
		}
	}
}

// steps: all by which one comes on from a place, in order.
func (f finder) steps(p build.Place, h []int) []string {
	f.t.Helper()
	state, ok := f.m.Find(p)
	check(f.t, "the place is there", ok, true)
	c := pds.Config{State: state, Stack: h}
	var l []string
	f.runs(c, nil, func(run []int) {
		to, cost, err := f.s.Do(c, run...)
		checkNil(f.t, "the run is done", err)
		place, _ := f.m.Place(to.State)
		x, needs, ok := f.m.Trace(c, run)
		check(f.t, "the run is a trace", ok && len(x.Links) == 2 && len(x.Headers) == 2, true)
		check(f.t, "its links", x.Links[0] == p.Link && x.Links[1] == place.Link, true)
		check(f.t, "its headers", slices.Equal(x.Headers[0], h) && slices.Equal(x.Headers[1], to.Stack), true)
		l = append(l, stepText(f.n, place, to.Stack, cost, needs))
	})
	slices.Sort(l)
	return l
}

// placesText: all places that are states, in order.
func (f finder) places() string {
	f.t.Helper()
	var l []string
	for state := range f.s.States {
		p, ok := f.m.Place(state)
		if !ok {
			check(f.t, "no place", p, build.Place{})
			continue
		}
		back, ok := f.m.Find(p)
		check(f.t, "found again", ok && back == state, true)
		l = append(l, f.n.Topo.Links[p.Link].Name+" "+strconv.Itoa(p.At)+" "+strconv.Itoa(p.Fails))
	}
	slices.Sort(l)
	return strings.Join(l, ", ")
}

// all: a weight that tells apart what a path consists of.
func all() weigh.Weight { return weigh.Weight{Hops: 1, Dist: 10, Pushes: 100000} }

// The form of the types.
func TestForm(t *testing.T) {
	m := build.Mode{build.Over, bits.Of(3), 7}
	p := build.Place{1, 2, 3}
	check(t, "a mode", m.Kind == 1 && m.Failed == bits.Of(3) && m.Fails == 7, true)
	check(t, "a place", p.Link == 1 && p.At == 2 && p.Fails == 3, true)
	check(t, "the kinds", build.Fixed == 0 && build.Over == 1 && build.Under == 2, true)
}

// P28.1, P28.2, P28.3: the chapter's example.
func TestExample(t *testing.T) {
	n := sample.Network(exampleText)
	for kind := range 3 {
		m := build.Of(n, paths(t, n, ". ."), weigh.Weight{Hops: 1}, build.Mode{Kind: kind})
		f := findIn(t, n, m)
		check(t, "the places", f.places(), "l0 1 0, l1 1 0, l1 2 0")
		check(t, "from l0", strings.Join(f.steps(build.Place{Link: 0, At: 1}, header(n, "x")), ", "), "l1 2 0: s x for 1")
		check(t, "from l0, with another top", len(f.steps(build.Place{Link: 0, At: 1}, header(n, "s x"))), 0)
		check(t, "from l1", len(f.steps(build.Place{Link: 1, At: 1}, header(n, "x"))), 0)
		check(t, "at the end", len(f.steps(build.Place{Link: 1, At: 2}, header(n, "s x"))), 0)
	}
}

// rounds: the paths of the ring's tests: of each link one state.
const rounds = "(ab|ba|bc|bd|ca|da)+"

// at: the place of a link in these paths.
func at(n net.Net, link string, fails int) build.Place {
	return build.Place{Link: n.Topo.Link(link), At: slices.Index([]string{"", "ab", "ba", "bc", "bd", "ca", "da"}, link), Fails: fails}
}

// P28.1: by which entries one comes on, while just some links failed.
func TestFixed(t *testing.T) {
	n := ring()
	for _, c := range []struct{ failed, link, header, want string }{
		{"", "ab", "i", "bc 3 0: s i for 100051"},
		{"bd ba", "ab", "i", "bc 3 0: s i for 100051"},
		{"bc", "ab", "i", "bd 4 0: m s i for 207001 bc"},
		{"bc bd", "ab", "i", "ba 2 0: i for 401 bc bd"},
		{"bc bd ba", "ab", "i", ""},
		{"", "ab", "j", ""},
		{"", "bc", "s i", "ca 5 0: i for 1, ca 5 0: i for 100001"},
		{"", "bc", "m s j", "ca 5 0: o t j for 100001"},
		{"", "bc", "m m s j", ""},
		{"", "bc", "i", ""},
		{"ca", "bc", "s i", ""},
		{"", "bd", "m s i", "da 6 0: i for 91, da 6 0: m o m o m s i for 400091"},
		{"", "bd", "m m s i", "da 6 0: m o m o m m s i for 400091, da 6 0: s i for 91"},
		{"da", "bd", "m s i", ""},
	} {
		m := build.Of(n, paths(t, n, rounds), all(), build.Mode{Failed: set(n, c.failed), Fails: 1})
		got := findIn(t, n, m).steps(at(n, c.link, 0), header(n, c.header))
		check(t, c.failed+": "+c.link+" "+c.header, strings.Join(got, ", "), c.want)
	}
	for _, kind := range []int{-1, 3, math.MinInt, math.MaxInt} {
		m := build.Of(n, paths(t, n, rounds), all(), build.Mode{Kind: kind, Failed: set(n, "bc"), Fails: 5})
		f := findIn(t, n, m)
		check(t, "another kind", strings.Join(f.steps(at(n, "ab", 0), header(n, "i")), ", "), "bd 4 0: m s i for 207001 bc")
		check(t, "its places", f.places(), "ab 1 0, ba 2 0, bd 4 0, ca 5 0, da 6 0")
	}
}

// P28.1: by which entries one comes on, while any links may have failed.
func TestOver(t *testing.T) {
	n := ring()
	for _, c := range []struct {
		fails              int
		link, header, want string
	}{
		{0, "ab", "i", "bc 3 0: s i for 100051"},
		{math.MinInt, "ab", "i", "bc 3 0: s i for 100051"},
		{1, "ab", "i", "bc 3 0: s i for 100051, bd 4 0: m s i for 207001 bc"},
		{2, "ab", "i", "ba 2 0: i for 401 bc bd, bc 3 0: s i for 100051, bd 4 0: m s i for 207001 bc"},
		{math.MaxInt, "ab", "i", "ba 2 0: i for 401 bc bd, bc 3 0: s i for 100051, bd 4 0: m s i for 207001 bc"},
		// the second group of da stands in for its own link: it can't be gone by
		{64, "bd", "m s i", "da 6 0: i for 91, da 6 0: m o m o m s i for 400091"},
		{64, "da", "i", "ab 1 0: j for 31"},
	} {
		m := build.Of(n, paths(t, n, rounds), all(), build.Mode{Kind: build.Over, Failed: set(n, "ab bc"), Fails: c.fails})
		got := findIn(t, n, m).steps(at(n, c.link, 0), header(n, c.header))
		check(t, costText(uint64(c.fails))+": "+c.link+" "+c.header, strings.Join(got, ", "), c.want)
	}
}

// P28.1: an entry can't be gone by, where the link by which one came had to fail.
func TestOverOwn(t *testing.T) {
	n := sample.Network(`{
		"routers": ["a"], "labels": {"i": "ip"},
		"links": {"k": {"from": "a", "to": "a", "dist": 0}, "l": {"from": "a", "to": "a", "dist": 0}},
		"table": [
			{"in": "k", "top": "i", "groups": [[{"out": "k", "ops": []}], [{"out": "l", "ops": []}]]},
			{"in": "l", "top": "i", "groups": [[{"out": "k", "ops": []}], [{"out": "l", "ops": []}]]}]
	}`)
	for _, kind := range []int{build.Over, build.Under} {
		m := build.Of(n, paths(t, n, ".+"), all(), build.Mode{Kind: kind, Fails: 2})
		f := findIn(t, n, m)
		check(t, "from k", strings.Join(f.steps(build.Place{Link: 0, At: 1}, []int{0}), ", "), "k 1 0: i for 1")
		want := "k 1 0: i for 1, l 1 " + strconv.Itoa(kind-1) + ": i for 1 k"
		check(t, "from l", strings.Join(f.steps(build.Place{Link: 1, At: 1}, []int{0}), ", "), want)
	}
}

// P28.1: the links that failed for several steps are counted several times.
func TestUnder(t *testing.T) {
	n := ring()
	m := build.Of(n, paths(t, n, rounds), all(), build.Mode{Kind: build.Under, Failed: set(n, "ab bc"), Fails: 3})
	f := findIn(t, n, m)
	check(t, "its places", f.places(), "ab 1 0, ab 1 1, ab 1 2, ab 1 3, ba 2 0, ba 2 2, ba 2 3, "+
		"bc 3 0, bc 3 1, bc 3 2, bc 3 3, bd 4 0, bd 4 1, bd 4 2, bd 4 3, ca 5 0, ca 5 1, ca 5 2, ca 5 3, da 6 0, da 6 1, da 6 2, da 6 3")
	for _, c := range []struct {
		fails              int
		link, header, want string
	}{
		{0, "ab", "i", "ba 2 2: i for 401 bc bd, bc 3 0: s i for 100051, bd 4 1: m s i for 207001 bc"},
		{1, "ab", "i", "ba 2 3: i for 401 bc bd, bc 3 1: s i for 100051, bd 4 2: m s i for 207001 bc"},
		{2, "ab", "i", "bc 3 2: s i for 100051, bd 4 3: m s i for 207001 bc"},
		{3, "ab", "i", "bc 3 3: s i for 100051"},
		{3, "bd", "m s i", "da 6 3: i for 91, da 6 3: m o m o m s i for 400091"},
		{2, "da", "i", "ab 1 2: j for 31"},
	} {
		got := f.steps(at(n, c.link, c.fails), header(n, c.header))
		check(t, strconv.Itoa(c.fails)+": "+c.link+" "+c.header, strings.Join(got, ", "), c.want)
	}
}

// P28.1: Fails below 0 are 0, above 64 are 64.
func TestUnderFails(t *testing.T) {
	n := ring()
	text := func(fails int) string {
		m := build.Of(n, paths(t, n, rounds), all(), build.Mode{Kind: build.Under, Fails: fails})
		return findIn(t, n, m).places()
	}
	check(t, "at 0", text(0), "ab 1 0, ba 2 0, bc 3 0, bd 4 0, ca 5 0, da 6 0")
	for _, fails := range []int{-1, math.MinInt} {
		check(t, "below 0", text(fails), text(0))
	}
	check(t, "at 64", strings.Contains(text(64), "ab 1 64,") && !strings.Contains(text(64), " 65"), true)
	check(t, "at 63", strings.Contains(text(63), " 64"), false)
	for _, fails := range []int{65, 66, math.MaxInt} {
		check(t, "above 64", text(fails), text(64))
	}
}

// P28.1: which places there are: starts, and those to which one comes on.
func TestPlaces(t *testing.T) {
	n := ring()
	for _, c := range []struct {
		path string
		mode build.Mode
		want string
	}{
		{"ab", build.Mode{}, "ab 1 0"},
		{"ab .", build.Mode{}, "ab 1 0, bc 2 0"},
		{"ab . .", build.Mode{}, "ab 1 0, bc 2 0, ca 3 0"},
		{"ab . .", build.Mode{Failed: set(n, "ab")}, ""},
		{"ab . .", build.Mode{Failed: set(n, "ca")}, "ab 1 0, bc 2 0"},
		{"ab . .", build.Mode{Failed: set(n, "bc")}, "ab 1 0, bd 2 0, da 3 0"},
		{"ab . .", build.Mode{Kind: build.Over, Failed: set(n, "ab ca")}, "ab 1 0, bc 2 0, ca 3 0"},
		{"ab . .", build.Mode{Kind: build.Over, Fails: 1}, "ab 1 0, bc 2 0, bd 2 0, ca 3 0, da 3 0"},
		{"ab . .", build.Mode{Kind: build.Under, Fails: 1}, "ab 1 0, bc 2 0, bd 2 1, ca 3 0, da 3 1"},
		{"(ab|ba) [^bc]", build.Mode{Kind: build.Over, Fails: 2}, "ab 1 0, ba 2 0, ba 3 0, bd 3 0"},
		{"()", build.Mode{}, ""},
		{"ab*", build.Mode{}, "ab 1 0"},
		{". .", build.Mode{Failed: bits.Upto(128)}, ""},
		{"ab ca", build.Mode{}, "ab 1 0"},
	} {
		f := findIn(t, n, build.Of(n, paths(t, n, c.path), all(), c.mode))
		check(t, c.path, f.places(), c.want)
		for _, p := range []build.Place{{}, {Link: 0}, {Link: 5, At: 1}, {Link: 0, At: 9}, {Link: -1, At: 1}, {Link: 0, At: 1, Fails: 2}, {Link: 0, At: 1, Fails: -1}} {
			state, ok := f.m.Find(p)
			check(t, "no such place", state == 0 && !ok, true)
		}
		for _, state := range []int{-1, f.s.States, math.MinInt, math.MaxInt} {
			p, ok := f.m.Place(state)
			check(t, "no such state", p == (build.Place{}) && !ok, true)
		}
	}
}

// P28.1: numbers that are no links of the network make no places.
func TestNoLinks(t *testing.T) {
	n := ring()
	p := nfa.NFA{On: []bits.Set{{}, bits.Upto(128), bits.Of(6, 63, 64)}, Next: [][]int{{1, 2}, {1, 2}, {1, 2}}, Final: []bool{true, true, true}}
	f := findIn(t, n, build.Of(n, p, all(), build.Mode{}))
	check(t, "the places", f.places(), "ab 1 0, ba 1 0, bc 1 0, bd 1 0, ca 1 0, da 1 0")
	none := net.Net{}
	check(t, "of no network", findIn(t, none, build.Of(none, p, all(), build.Mode{Kind: build.Under, Fails: 9})).places(), "")
	check(t, "of no state but 0", findIn(t, n, build.Of(n, nfa.NFA{On: make([]bits.Set, 1), Next: make([][]int, 1), Final: []bool{true}}, all(), build.Mode{})).places(), "")
}

// P28.1: no header has a top, where what must stand below it is no label's kind.
func TestNoHeaders(t *testing.T) {
	for _, c := range []struct{ labels, top, want string }{
		{`"m": "mpls", "i": "ip"`, "m", "k 1 0"},
		{`"m": "mpls", "s": "smpls"`, "m", "k 1 0"},
		{`"s": "smpls", "m": "mpls"`, "s", "k 1 0"},
		{`"m": "mpls", "i": "ip", "s": "smpls"`, "m", "k 1 0, l 2 0"},
		{`"s": "smpls", "i": "ip"`, "s", "k 1 0, l 2 0"},
		{`"m": "mpls", "i": "ip"`, "i", "k 1 0, l 2 0"},
	} {
		n := sample.Network(`{
			"routers": ["a"], "labels": {` + c.labels + `},
			"links": {"k": {"from": "a", "to": "a", "dist": 0}, "l": {"from": "a", "to": "a", "dist": 0}},
			"table": [{"in": "k", "top": "` + c.top + `", "groups": [[{"out": "l", "ops": []}]]}]
		}`)
		f := findIn(t, n, build.Of(n, paths(t, n, "k ."), all(), build.Mode{}))
		check(t, c.labels, f.places(), c.want)
	}
}
