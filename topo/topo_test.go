package topo_test

import (
	"math"
	"slices"
	"strconv"
	"strings"
	"testing"

	"fairlead/amount"
	"fairlead/api"
	"fairlead/bits"
	"fairlead/oops"
	"fairlead/topo"
)

func check[T comparable](t *testing.T, what string, got, want T) {
	t.Helper()
	if got != want {
		t.Errorf("%s: got %v, want %v", what, got, want)
	}
}

// checkSet: has a set just these?
func checkSet(t *testing.T, what string, got bits.Set, want ...int) {
	t.Helper()
	if got != bits.Of(want...) {
		t.Errorf("%s: got %v, want %v", what, got.List(), want)
	}
}

// checkFault: is it just a fault of both, within one word?
func checkFault(t *testing.T, what string, err error, word string, code api.Errno, at int) {
	t.Helper()
	p, ok := err.(*oops.Place)
	if !ok || p == nil {
		t.Errorf("%s: %v is within nothing, want %d at %d within %s", what, err, code, at, word)
		return
	}
	check(t, what+": within", p.Word, word)
	f, ok := p.Err.(*oops.Fault)
	if !ok || f == nil {
		t.Errorf("%s: %v is no fault, want %d at %d", what, p.Err, code, at)
		return
	}
	check(t, what, *f, oops.Fault{Code: code, At: at})
}

// checkNil: is it no error?
func checkNil(t *testing.T, what string, err error) {
	t.Helper()
	if err != nil {
		t.Errorf("%s: %v, want nil", what, err)
	}
}

// checkLeast: is there a way, and does the least one cost so much?
func checkLeast(t *testing.T, what string, p topo.Topo, from, to int, failed bits.Set, want uint64) {
	t.Helper()
	dist, ok := p.Least(from, to, failed)
	check(t, what+": there is a way", ok, true)
	check(t, what, dist, want)
}

// checkNoWay: is there none?
func checkNoWay(t *testing.T, what string, p topo.Topo, from, to int, failed bits.Set) {
	t.Helper()
	dist, ok := p.Least(from, to, failed)
	check(t, what+": there is a way", ok, false)
	check(t, what+": the distance beside false", dist, 0)
}

// named: n names that rise.
func named(letter string, n int) []string {
	var l []string
	for i := range n {
		l = append(l, letter+strconv.Itoa(1000+i))
	}
	return l
}

// linked: a topology of n routers, and these links, whose names are set so that
// they rise.
func linked(n int, links ...topo.Link) topo.Topo {
	for i := range links {
		links[i].Name = "l" + strconv.Itoa(1000+i)
	}
	return topo.Topo{Routers: named("r", n), Links: links}
}

func link(from, to int, dist uint64) topo.Link {
	return topo.Link{From: from, To: to, Dist: dist}
}

// loops: n links from router 0 to itself.
func loops(n int) []topo.Link { return slices.Repeat([]topo.Link{link(0, 0, 1)}, n) }

// noRouters are numbers that no router of a topology of n has.
func noRouters(n int) []int {
	return []int{-1, -2, -64, n, n + 1, 64, 65, 127, 128, 1 << 32, -1 << 32, math.MinInt, math.MinInt + 1, math.MaxInt}
}

// wrongNames are texts that are no names.
func wrongNames() []string {
	return []string{"", "0", "1a", "-a", ".a", "a b", " a", "a ", "a\n", "a/b", "a\x00", "\x00", "\xff", "ä", "a" + strings.Repeat("b", 32), strings.Repeat("a", 70000)}
}

// text: all that a topology is.
func text(p topo.Topo) string {
	s := strings.Join(p.Routers, " ") + ":"
	for _, l := range p.Links {
		s += " " + l.Name + " " + strconv.Itoa(l.From) + " " + strconv.Itoa(l.To) + " " + strconv.FormatUint(l.Dist, 10)
	}
	return s
}

// ring is of 4 routers: a ring, a second link back, a loop, and a router to
// which nothing leads.
func ring() topo.Topo {
	return linked(4, link(0, 1, 3), link(1, 2, 4), link(2, 0, 5), link(1, 0, 1), link(2, 2, 7), link(3, 0, 2))
}

// The form of the types, and the limits.
func TestForm(t *testing.T) {
	l := topo.Link{"l", 1, 2, 3}
	check(t, "a link", l, topo.Link{Name: "l", From: 1, To: 2, Dist: 3})
	p := topo.Topo{[]string{"a"}, []topo.Link{l}}
	check(t, "a topology", text(p), "a: l 1 2 3")
	check(t, "MaxThings", api.MaxThings, 64)
	check(t, "MaxName", api.MaxName, 32)
}

// P11.1: topologies that may be.
func TestCheck(t *testing.T) {
	checkNil(t, "the zero one", topo.Topo{}.Check())
	checkNil(t, "lists without elements", topo.Topo{Routers: []string{}, Links: []topo.Link{}}.Check())
	checkNil(t, "no links", linked(3).Check())
	checkNil(t, "a ring", ring().Check())
	checkNil(t, "a loop", linked(1, loops(1)...).Check())
	checkNil(t, "one link twice, by two names", linked(2, link(0, 1, 5), link(0, 1, 5)).Check())
	checkNil(t, "no distance", linked(2, link(0, 1, 0)).Check())
	checkNil(t, "the greatest one", linked(2, link(0, 1, math.MaxInt64)).Check())
	checkNil(t, "64 of either", linked(64, loops(64)...).Check())
	checkNil(t, "the last routers", linked(64, link(63, 63, 1), link(62, 63, 1)).Check())
}

// P11.1: a router and a link of one name may be.
func TestCheckOneName(t *testing.T) {
	p := topo.Topo{Routers: []string{"a", "b"}, Links: []topo.Link{{Name: "a"}, {Name: "b", To: 1}}}
	checkNil(t, "a router and a link of one name", p.Check())
	check(t, "the router", p.Router("b"), 1)
	check(t, "the link", p.Link("b"), 1)
}

// P11.1: 65 are too many, whatever they are.
func TestCheckMany(t *testing.T) {
	for _, n := range []int{65, 66, 128, 129, 1000} {
		checkFault(t, "routers", linked(n).Check(), "routers", api.ErrMany, 64)
		checkFault(t, "links", linked(1, loops(n)...).Check(), "links", api.ErrMany, 64)
		checkFault(t, "both", linked(n, loops(n)...).Check(), "routers", api.ErrMany, 64)
		wrong := linked(n)
		wrong.Routers[0], wrong.Routers[3] = "1", "a"
		checkFault(t, "wrong routers", wrong.Check(), "routers", api.ErrMany, 64)
		wrong = linked(1, loops(n)...)
		wrong.Links[0] = topo.Link{Name: "1", From: -1, Dist: math.MaxUint64}
		checkFault(t, "wrong links", wrong.Check(), "links", api.ErrMany, 64)
		checkFault(t, "routers without names", topo.Topo{Routers: make([]string, n)}.Check(), "routers", api.ErrMany, 64)
		checkFault(t, "links without names", topo.Topo{Links: make([]topo.Link, n)}.Check(), "links", api.ErrMany, 64)
	}
	wrong := linked(64, loops(65)...)
	wrong.Routers[63] = "1"
	checkFault(t, "64 routers, the last wrong, 65 links", wrong.Check(), "routers", api.ErrForm, 63)
}

// P11.1: names that are none, of routers and of links.
func TestCheckForm(t *testing.T) {
	for _, name := range wrongNames() {
		for i := range 3 {
			p := linked(3)
			p.Routers[i] = name
			checkFault(t, "a router's name", p.Check(), "routers", api.ErrForm, i)
			p = linked(1, loops(3)...)
			p.Links[i].Name = name
			checkFault(t, "a link's name", p.Check(), "links", api.ErrForm, i)
		}
	}
	long := strings.Repeat("z", 32)
	checkNil(t, "names of 32 bytes", topo.Topo{Routers: []string{long}, Links: []topo.Link{{Name: long}}}.Check())
	checkFault(t, "a router's of 33", topo.Topo{Routers: []string{"a", long + "z"}}.Check(), "routers", api.ErrForm, 1)
	checkFault(t, "a link's of 33", topo.Topo{Routers: []string{"a"}, Links: []topo.Link{{Name: "a"}, {Name: long + "z"}}}.Check(), "links", api.ErrForm, 1)
}

// P11.1: names rise byte by byte, each above the one ahead of it.
func TestCheckOrder(t *testing.T) {
	rows := []struct {
		names string
		at    int // -1, where they may be
	}{
		{"a", -1},
		{"a b", -1},
		{"a a", 1},
		{"b a", 1},
		{"a b b", 2},
		{"a c b d", 2},
		{"a b a", 2},
		{"a c b a", 2},
		{"B a", -1},
		{"a B", 1},
		{"Z _", -1},
		{"_ a", -1},
		{"a _", 1},
		{"a a-", -1},
		{"a- a. a0 aZ a_ aa", -1},
		{"a. a-", 1},
		{"a0 a.", 1},
		{"aa a", 1},
		{"a10 a9", -1},
		{"a9 a10", 1},
	}
	for _, r := range rows {
		p, q := topo.Topo{}, topo.Topo{Routers: []string{"r"}}
		for _, name := range strings.Fields(r.names) {
			p.Routers = append(p.Routers, name)
			q.Links = append(q.Links, topo.Link{Name: name})
		}
		if r.at < 0 {
			checkNil(t, "routers "+r.names, p.Check())
			checkNil(t, "links "+r.names, q.Check())
			continue
		}
		checkFault(t, "routers "+r.names, p.Check(), "routers", api.ErrOrder, r.at)
		checkFault(t, "links "+r.names, q.Check(), "links", api.ErrOrder, r.at)
	}
}

// P11.1: ends that aren't there.
func TestCheckEnds(t *testing.T) {
	for _, n := range []int{0, 1, 2, 3, 64} {
		for _, end := range noRouters(n) {
			if end >= 0 && end < n {
				continue
			}
			checkFault(t, "From", linked(n, link(end, max(n-1, 0), 1)).Check(), "links", api.ErrNone, 0)
			checkFault(t, "To", linked(n, link(max(n-1, 0), end, 1)).Check(), "links", api.ErrNone, 0)
			checkFault(t, "both", linked(n, link(end, end, 1)).Check(), "links", api.ErrNone, 0)
			if n > 0 {
				checkFault(t, "the third's From", linked(n, link(0, 0, 1), link(0, n-1, 1), link(end, 0, 1)).Check(), "links", api.ErrNone, 2)
				checkFault(t, "the second's To", linked(n, link(0, 0, 1), link(0, end, 1), link(0, 0, 1)).Check(), "links", api.ErrNone, 1)
			}
		}
	}
}

// P11.1: distances above the greatest amount.
func TestCheckRange(t *testing.T) {
	for _, dist := range []uint64{1 << 63, 1<<63 + 1, math.MaxUint64 - 1, math.MaxUint64} {
		checkFault(t, "the first's", linked(1, link(0, 0, dist)).Check(), "links", api.ErrRange, 0)
		checkFault(t, "the second's", linked(2, link(0, 1, math.MaxInt64), link(0, 1, dist), link(0, 1, dist)).Check(), "links", api.ErrRange, 1)
	}
}

// P11.1: of several faults the first; routers' ahead of links', the first
// thing's ahead of the next one's, and of one thing in the order that is told.
func TestCheckFirst(t *testing.T) {
	bad := topo.Link{Name: "1", From: 9, To: -1, Dist: math.MaxUint64}
	wrongLinks := []topo.Link{bad}
	two := []string{"a", "b"}
	fine := topo.Link{Name: "k", To: 1}
	rows := []struct {
		what    string
		routers []string
		links   []topo.Link
		word    string
		code    api.Errno
		at      int
	}{
		{"routers ahead of links", []string{"b", "a"}, wrongLinks, "routers", api.ErrOrder, 1},
		{"too many links behind a router's name", []string{"a", "1"}, loops(70), "routers", api.ErrForm, 1},
		{"the first router of two", []string{"b", "a", "1"}, nil, "routers", api.ErrOrder, 1},
		{"the first router's name", []string{"1", "a", "a"}, nil, "routers", api.ErrForm, 0},
		{"a name that is none, and falls", []string{"b", "1"}, nil, "routers", api.ErrForm, 1},
		{"an empty name behind another", []string{"b", ""}, nil, "routers", api.ErrForm, 1},
		{"a name that is none, and so on", two, []topo.Link{fine, bad}, "links", api.ErrForm, 1},
		{"a name that falls, no ends", two, []topo.Link{fine, {Name: "j", From: 2, To: 2, Dist: 1 << 63}}, "links", api.ErrOrder, 1},
		{"a name that is told twice, no ends", two, []topo.Link{fine, {Name: "k", From: 2}}, "links", api.ErrOrder, 1},
		{"a name that falls, a distance", two, []topo.Link{fine, {Name: "j", Dist: 1 << 63}}, "links", api.ErrOrder, 1},
		{"no end, a distance", two, []topo.Link{fine, {Name: "m", To: 2, Dist: 1 << 63}}, "links", api.ErrNone, 1},
		{"a distance, then a name", two, []topo.Link{{Name: "k", Dist: 1 << 63}, bad}, "links", api.ErrRange, 0},
		{"no end, then a name", two, []topo.Link{{Name: "k", From: 2}, {Name: "a"}, bad}, "links", api.ErrNone, 0},
		{"no routers at all", nil, []topo.Link{fine}, "links", api.ErrNone, 0},
	}
	for _, r := range rows {
		checkFault(t, r.what, topo.Topo{Routers: r.routers, Links: r.links}.Check(), r.word, r.code, r.at)
	}
}

// P11.2: numbers of names.
func TestNumbers(t *testing.T) {
	p := topo.Topo{
		Routers: []string{"A", "a", "a-1", "ab", "b"},
		Links:   []topo.Link{{Name: "a"}, {Name: "c", To: 1}, {Name: "cc", From: 4}},
	}
	checkNil(t, "may it be", p.Check())
	for i, name := range p.Routers {
		check(t, "router "+name, p.Router(name), i)
	}
	for i, l := range p.Links {
		check(t, "link "+l.Name, p.Link(l.Name), i)
	}
	for _, name := range append(wrongNames(), "B", "aa", "a-", "a-11", "ab ", "z", "_") {
		check(t, "no router "+name[:min(len(name), 9)], p.Router(name), -1)
		check(t, "no link "+name[:min(len(name), 9)], p.Link(name), -1)
	}
	check(t, "a link's name", p.Router("c"), -1)
	check(t, "a router's name", p.Link("b"), -1)
	full := linked(64, loops(64)...)
	for i := range 64 {
		check(t, "of 64 routers", full.Router(full.Routers[i]), i)
		check(t, "of 64 links", full.Link(full.Links[i].Name), i)
	}
	for _, none := range []topo.Topo{{}, {Routers: []string{}, Links: []topo.Link{}}} {
		check(t, "of no routers", none.Router("a"), -1)
		check(t, "of no links", none.Link("a"), -1)
		check(t, "the empty text, of no routers", none.Router(""), -1)
		check(t, "the empty text, of no links", none.Link(""), -1)
	}
}

// P11.2: links of a router.
func TestOutIn(t *testing.T) {
	p := ring()
	checkSet(t, "Out 0", p.Out(0), 0)
	checkSet(t, "Out 1", p.Out(1), 1, 3)
	checkSet(t, "Out 2", p.Out(2), 2, 4)
	checkSet(t, "Out 3", p.Out(3), 5)
	checkSet(t, "In 0", p.In(0), 2, 3, 5)
	checkSet(t, "In 1", p.In(1), 0)
	checkSet(t, "In 2", p.In(2), 1, 4)
	checkSet(t, "In 3", p.In(3))
	for _, r := range noRouters(4) {
		checkSet(t, "Out of no router", p.Out(r))
		checkSet(t, "In of no router", p.In(r))
		checkSet(t, "Out of none at all", topo.Topo{}.Out(r))
		checkSet(t, "In of none at all", topo.Topo{}.In(r))
	}
	checkSet(t, "Out without links", linked(2).Out(0))
	checkSet(t, "In without links", linked(2).In(1))
	full := linked(64, append(loops(63), link(63, 62, 1))...)
	check(t, "Out of many", full.Out(0), bits.Upto(63))
	check(t, "In of many", full.In(0), bits.Upto(63))
	checkSet(t, "Out of the last", full.Out(63), 63)
	checkSet(t, "In of the last but one", full.In(62), 63)
	checkSet(t, "In of the last", full.In(63))
}

// P11.2: links from one to another one.
func TestBetween(t *testing.T) {
	p := linked(3, link(0, 1, 1), link(0, 1, 1), link(1, 0, 1), link(2, 2, 1), link(0, 1, 9), link(2, 2, 1), link(1, 2, 1))
	checkSet(t, "0 to 1", p.Between(0, 1), 0, 1, 4)
	checkSet(t, "1 to 0", p.Between(1, 0), 2)
	checkSet(t, "a router to itself", p.Between(2, 2), 3, 5)
	checkSet(t, "1 to 2", p.Between(1, 2), 6)
	checkSet(t, "2 to 1", p.Between(2, 1))
	checkSet(t, "0 to 2, by two links alone", p.Between(0, 2))
	checkSet(t, "0 to itself, by two links alone", p.Between(0, 0))
	for _, r := range noRouters(3) {
		for _, s := range []int{0, 1, 2, r, -1, 3} {
			checkSet(t, "from no router", p.Between(r, s))
			checkSet(t, "to no router", p.Between(s, r))
		}
	}
}

// P11.3: Reach from each router, with links failed.
func TestReach(t *testing.T) {
	p := ring()
	rows := []struct {
		from   int
		failed bits.Set
		want   []int
	}{
		{0, bits.Set{}, []int{0, 1, 2}},
		{1, bits.Set{}, []int{0, 1, 2}},
		{2, bits.Set{}, []int{0, 1, 2}},
		{3, bits.Set{}, []int{0, 1, 2, 3}},
		{0, bits.Of(0), []int{0}},
		{1, bits.Of(0), []int{0, 1, 2}},
		{2, bits.Of(0), []int{0, 2}},
		{0, bits.Of(1), []int{0, 1}},
		{1, bits.Of(1), []int{0, 1}},
		{1, bits.Of(1, 3), []int{1}},
		{1, bits.Of(3), []int{0, 1, 2}},
		{1, bits.Of(2, 3), []int{1, 2}},
		{2, bits.Of(2), []int{2}},
		{2, bits.Of(2, 4), []int{2}},
		{2, bits.Of(4), []int{0, 1, 2}},
		{3, bits.Of(5), []int{3}},
		{3, bits.Of(1), []int{0, 1, 3}},
	}
	for _, r := range rows {
		what := "from " + strconv.Itoa(r.from)
		checkSet(t, what, p.Reach(r.from, r.failed), r.want...)
		checkSet(t, what+", numbers that are no link failed, too", p.Reach(r.from, r.failed.Or(bits.Of(6, 63, 64, 127))), r.want...)
	}
	for r := range 4 {
		checkSet(t, "all links failed", p.Reach(r, bits.Upto(6)), r)
		checkSet(t, "all numbers failed", p.Reach(r, bits.Upto(128)), r)
		checkSet(t, "only others failed", linked(4).Reach(r, bits.Of(0, 1)), r)
	}
	for _, r := range noRouters(4) {
		checkSet(t, "from no router", p.Reach(r, bits.Set{}))
		checkSet(t, "from no router, all failed", p.Reach(r, bits.Upto(128)))
		checkSet(t, "of no routers", topo.Topo{}.Reach(r, bits.Set{}))
	}
	checkSet(t, "of no routers, from 0", topo.Topo{}.Reach(0, bits.Set{}))
}

// P11.3: a long way, in the links' order and against it, and around.
func TestReachFar(t *testing.T) {
	var on, back []topo.Link
	for i := range 63 {
		on = append(on, link(i, i+1, 1))
		back = append(back, link(62-i, 63-i, 1))
	}
	p, q := linked(64, on...), linked(64, back...)
	for i := range 64 {
		want := bits.Upto(64).Less(bits.Upto(i))
		check(t, "Reach in order", p.Reach(i, bits.Set{}), want)
		check(t, "Reach against it", q.Reach(i, bits.Set{}), want)
		checkLeast(t, "Least in order", p, 0, i, bits.Set{}, uint64(i))
		checkLeast(t, "Least against it", q, 0, i, bits.Set{}, uint64(i))
		if i < 63 {
			check(t, "one failed", p.Reach(0, bits.Of(i)), bits.Upto(i+1))
			checkNoWay(t, "one failed", p, 0, 63, bits.Of(i))
			checkNoWay(t, "one failed, against it", q, 0, 63, bits.Of(i))
		}
	}
	p = linked(64, append(on, link(63, 0, 1))...)
	for i := range 64 {
		check(t, "around", p.Reach(i, bits.Set{}), bits.Upto(64))
		checkLeast(t, "around", p, i, (i+63)%64, bits.Set{}, 63)
	}
}

// P11.3: Least to itself, where there is no way, and over several.
func TestLeast(t *testing.T) {
	p := ring()
	for r := range 4 {
		checkLeast(t, "to itself", p, r, r, bits.Set{}, 0)
		checkLeast(t, "to itself, all failed", p, r, r, bits.Upto(128), 0)
	}
	checkLeast(t, "one link", p, 0, 1, bits.Set{}, 3)
	checkLeast(t, "two links", p, 0, 2, bits.Set{}, 7)
	checkLeast(t, "the nearer of two", p, 1, 0, bits.Set{}, 1)
	checkLeast(t, "the further one, as the nearer failed", p, 1, 0, bits.Of(3), 9)
	checkLeast(t, "three links", p, 3, 2, bits.Of(6, 127), 9)
	checkNoWay(t, "to where nothing leads", p, 0, 3, bits.Set{})
	checkNoWay(t, "a link failed", p, 0, 2, bits.Of(1))
	checkNoWay(t, "all failed", p, 0, 1, bits.Upto(6))
	q := linked(2, link(0, 1, 3), link(0, 1, 5))
	checkLeast(t, "the example", q, 0, 1, bits.Set{}, 3)
	checkLeast(t, "the example, l0 failed", q, 0, 1, bits.Of(0), 5)
	checkLeast(t, "l1 failed", q, 0, 1, bits.Of(1), 3)
	checkNoWay(t, "both failed", q, 0, 1, bits.Of(0, 1))
	checkNoWay(t, "back", q, 1, 0, bits.Set{})
	q = linked(2, link(0, 1, 5), link(0, 1, 3))
	checkLeast(t, "the second is nearer", q, 0, 1, bits.Set{}, 3)
}

// P11.3: a way of more links may cost less, and ways may cost nothing.
func TestLeastOfMoreLinks(t *testing.T) {
	p := linked(4, link(0, 3, 10), link(0, 1, 2), link(1, 2, 3), link(2, 3, 4), link(0, 2, 6))
	checkLeast(t, "three links", p, 0, 3, bits.Set{}, 9)
	checkLeast(t, "one of three failed", p, 0, 3, bits.Of(1), 10)
	checkLeast(t, "two links", p, 0, 3, bits.Of(0, 1), 10)
	checkLeast(t, "one link", p, 0, 3, bits.Of(3), 10)
	checkLeast(t, "found late, and nearer", p, 0, 2, bits.Set{}, 5)
	q := linked(3, link(0, 1, 0), link(1, 0, 0), link(1, 2, 0), link(2, 2, 0), link(0, 2, 1))
	for from := range 2 {
		for to := range 3 {
			checkLeast(t, "for nothing", q, from, to, bits.Set{}, 0)
		}
	}
	checkLeast(t, "for nothing failed", q, 0, 2, bits.Of(2), 1)
	checkNoWay(t, "from a loop", q, 2, 0, bits.Set{})
	loop := linked(2, link(0, 0, 0), link(0, 1, 4), link(1, 0, 0))
	checkLeast(t, "a loop for nothing", loop, 0, 1, bits.Set{}, 4)
	checkLeast(t, "to itself by a loop", linked(1, link(0, 0, 9)), 0, 0, bits.Set{}, 0)
}

// P11.3: sums end at the greatest amount, and a way of that is one, too.
func TestLeastEnds(t *testing.T) {
	const most = math.MaxInt64
	p := linked(4, link(0, 1, most-1), link(1, 2, 1), link(2, 3, 1), link(0, 3, most))
	checkLeast(t, "just the greatest", p, 0, 2, bits.Set{}, most)
	checkLeast(t, "beyond, or one link", p, 0, 3, bits.Set{}, most)
	checkLeast(t, "beyond", p, 0, 3, bits.Of(3), most)
	checkLeast(t, "one link of the greatest", p, 0, 3, bits.Of(0), most)
	q := linked(5, link(0, 1, most), link(1, 2, most), link(2, 3, most), link(3, 4, most))
	checkLeast(t, "four times the greatest", q, 0, 4, bits.Set{}, most)
	checkLeast(t, "twice the greatest", q, 2, 4, bits.Set{}, most)
	q.Links[3].Dist = 0
	checkLeast(t, "and nothing", q, 0, 4, bits.Set{}, most)
	checkLeast(t, "nothing alone", q, 3, 4, bits.Set{}, 0)
	r := linked(3, link(0, 1, most), link(1, 2, most), link(0, 2, most-1))
	checkLeast(t, "one less", r, 0, 2, bits.Set{}, most-1)
}

// P11.3: from and to numbers that are no router.
func TestLeastOfNoRouter(t *testing.T) {
	p := ring()
	for _, r := range noRouters(4) {
		for _, s := range []int{0, 3} {
			checkNoWay(t, "from no router", p, r, s, bits.Set{})
			checkNoWay(t, "to no router", p, s, r, bits.Set{})
			checkNoWay(t, "of no routers", topo.Topo{}, r, s, bits.Set{})
		}
		checkNoWay(t, "from no router to itself", p, r, r, bits.Set{})
		for _, s := range noRouters(4) {
			checkNoWay(t, "from no router to another", p, r, s, bits.Of(1))
		}
	}
	checkNoWay(t, "of no routers, from 0 to itself", topo.Topo{}, 0, 0, bits.Set{})
}

// next: a number below n, of a row that a rule makes.
func next(seed *uint32, n int) int {
	*seed = *seed*1664525 + 1013904223
	return int(*seed>>8) % n
}

// some: a topology of few routers and links, that a rule picks.
func some(seed *uint32) topo.Topo {
	dists := []uint64{0, 0, 1, 2, 3, 5, 8, math.MaxInt64 - 3, math.MaxInt64}
	n := 1 + next(seed, 6)
	var links []topo.Link
	for range next(seed, 12) {
		links = append(links, link(next(seed, n), next(seed, n), dists[next(seed, len(dists))]))
	}
	return linked(n, links...)
}

// slow: the least sums of all ways from each router to each other one, by going
// one link on as often as there are routers; -1 where there is none.
func slow(p topo.Topo, failed bits.Set) [][]int64 {
	n := len(p.Routers)
	var all [][]int64
	for from := range n {
		row := slices.Repeat([]int64{-1}, n)
		row[from] = 0
		for range n {
			for i, l := range p.Links {
				if failed.Has(i) || row[l.From] < 0 {
					continue
				}
				sum := int64(amount.Add(uint64(row[l.From]), l.Dist))
				if row[l.To] < 0 || sum < row[l.To] {
					row[l.To] = sum
				}
			}
		}
		all = append(all, row)
	}
	return all
}

// P11.3: Reach and Least of many topologies, as they are found otherwise.
func TestReachLeastSlow(t *testing.T) {
	seed, far := uint32(1), 0
	for range 2000 {
		p := some(&seed)
		checkNil(t, "may it be", p.Check())
		var failed bits.Set
		for range next(&seed, 4) {
			failed = failed.With(next(&seed, 14))
		}
		want := slow(p, failed)
		for from := range p.Routers {
			var reached bits.Set
			for to, dist := range want[from] {
				what := text(p) + ", from " + strconv.Itoa(from) + " to " + strconv.Itoa(to)
				if dist < 0 {
					checkNoWay(t, what, p, from, to, failed)
					continue
				}
				reached = reached.With(to)
				checkLeast(t, what, p, from, to, failed, uint64(dist))
				if dist > 0 {
					far++
				}
			}
			check(t, "Reach of "+text(p), p.Reach(from, failed), reached)
		}
	}
	check(t, "many are far", far > 1000, true)
}

// P11.4: ways one behind the other are a way, which costs no more than both.
func TestOneBehindTheOther(t *testing.T) {
	seed, met := uint32(7), 0
	for range 500 {
		p := some(&seed)
		failed := bits.Of(next(&seed, 12), next(&seed, 12))
		for a := range p.Routers {
			for b := range p.Reach(a, failed).All() {
				check(t, "where one comes to from there, one comes to", p.Reach(b, failed).Under(p.Reach(a, failed)), true)
				for c := range p.Reach(b, failed).All() {
					ab, _ := p.Least(a, b, failed)
					bc, _ := p.Least(b, c, failed)
					ac, ok := p.Least(a, c, failed)
					check(t, "there is a way", ok, true)
					check(t, "no more than both", ac <= amount.Add(ab, bc), true)
					met++
				}
			}
		}
	}
	check(t, "many were met", met > 1000, true)
}

// P11.3: there is a least way just to where one comes; of more links failed
// there are no more routers, and no nearer ones.
func TestLeastAndReach(t *testing.T) {
	seed := uint32(9)
	for range 500 {
		p := some(&seed)
		less := bits.Of(next(&seed, 12))
		more := less.With(next(&seed, 12))
		for a := range p.Routers {
			check(t, "no more routers", p.Reach(a, more).Under(p.Reach(a, less)), true)
			for b := range p.Routers {
				far, ok := p.Least(a, b, more)
				check(t, "Least and Reach", ok, p.Reach(a, more).Has(b))
				near, _ := p.Least(a, b, less)
				check(t, "no nearer", !ok || near <= far, true)
			}
		}
	}
}

// The rule of memory: a topology stays as it was, spare room included, and so
// do answers when it is changed.
func TestMemory(t *testing.T) {
	whole := ring()
	routers := append(slices.Clone(whole.Routers), "y", "x")
	links := append(slices.Clone(whole.Links), topo.Link{Name: "z", From: 7})
	p := topo.Topo{Routers: routers[:4], Links: links[:6]}
	want := text(topo.Topo{Routers: routers, Links: links})
	failed := bits.Of(2)
	ask := func() string {
		least, ok := p.Least(3, 2, failed)
		check(t, "there is a way", ok, true)
		l := []int{int(least), p.Router("r1002"), p.Link("l1004")}
		for _, s := range []bits.Set{p.Out(1), p.In(0), p.Between(1, 2), p.Reach(3, failed)} {
			l = append(append(l, -1), s.List()...)
		}
		var words []string
		for _, i := range l {
			words = append(words, strconv.Itoa(i))
		}
		return strings.Join(words, " ")
	}
	checkNil(t, "Check", p.Check())
	first := ask()
	check(t, "the same each time", ask(), first)
	check(t, "what was handed in", text(topo.Topo{Routers: routers, Links: links}), want)
	check(t, "what failed", failed, bits.Of(2))
	links[1].To = 3
	checkNoWay(t, "once it was changed", p, 0, 2, bits.Set{})
	links[1].To = 2
	check(t, "once it was changed back", ask(), first)
	e := topo.Topo{Routers: []string{"a", "a"}}
	err := e.Check()
	e.Routers[1] = "b"
	checkFault(t, "an error, once what was wrong is right", err, "routers", api.ErrOrder, 1)
	checkNil(t, "what is right", e.Check())
}
