package net_test

import (
	"math"
	"slices"
	"strconv"
	"strings"
	"testing"

	"fairlead/api"
	"fairlead/bits"
	"fairlead/header"
	"fairlead/net"
	"fairlead/oops"
	"fairlead/ops"
	"fairlead/table"
	"fairlead/topo"
)

func check[T comparable](t *testing.T, what string, got, want T) {
	t.Helper()
	if got != want {
		t.Errorf("%s: got %v, want %v", what, got, want)
	}
}

// checkNil: is it no error?
func checkNil(t *testing.T, what string, err error) {
	t.Helper()
	if err != nil {
		t.Errorf("%s: %v, want nil", what, err)
	}
}

// checkFault: is it just a fault of both, within just these words?
func checkFault(t *testing.T, what string, err error, code api.Errno, at int, words ...string) {
	t.Helper()
	want := oops.New(code, at)
	for _, word := range slices.Backward(words) {
		want = oops.In(word, want)
	}
	if err == nil || !oops.Same(err, want) || err.Error() != want.Error() {
		t.Errorf("%s: %v, want %v", what, err, want)
	}
}

var pop = ops.Op{Kind: ops.Pop}

func swap(label int) ops.Op { return ops.Op{Kind: ops.Swap, Label: label} }

func push(label int) ops.Op { return ops.Op{Kind: ops.Push, Label: label} }

// entry: out by a link, with a chain.
func entry(out int, chain ...ops.Op) table.Entry { return table.Entry{Out: out, Ops: chain} }

// group: of these entries.
func group(l ...table.Entry) []table.Entry { return l }

func row(in, top int, groups ...[]table.Entry) table.Row {
	return table.Row{In: in, Top: top, Groups: groups}
}

// ints: numbers with blanks between.
func ints(l []int) string {
	var words []string
	for _, i := range l {
		words = append(words, strconv.Itoa(i))
	}
	return strings.Join(words, " ")
}

// chainText: all that a chain is.
func chainText(chain []ops.Op) string {
	s := ""
	for _, o := range chain {
		s += " " + strconv.Itoa(o.Kind) + "/" + strconv.Itoa(o.Label)
	}
	return s
}

// rowText: all that a row is.
func rowText(r table.Row) string {
	s := strconv.Itoa(r.In) + "-" + strconv.Itoa(r.Top)
	for _, g := range r.Groups {
		s += "["
		for _, e := range g {
			s += "(" + strconv.Itoa(e.Out) + chainText(e.Ops) + ")"
		}
		s += "]"
	}
	return s
}

// text: all that a network is.
func text(n net.Net) string {
	s := strings.Join(n.Topo.Routers, " ") + ":"
	for _, l := range n.Labels {
		s += " " + l.Name + "=" + strconv.Itoa(l.Kind)
	}
	s += ":"
	for _, l := range n.Topo.Links {
		s += " " + l.Name + "=" + strconv.Itoa(l.From) + "," + strconv.Itoa(l.To) + "," + strconv.FormatUint(l.Dist, 10)
	}
	s += ":"
	for _, r := range n.Rows {
		s += " " + rowText(r)
	}
	return s
}

// movesText: all that moves are.
func movesText(moves []net.Move) string {
	var words []string
	for _, m := range moves {
		words = append(words, strconv.Itoa(m.Link)+":"+ints(m.Header)+":"+strconv.Itoa(m.Pushes))
	}
	return strings.Join(words, ", ")
}

// Of labels in sample.
const (
	ip0 = iota // a
	ip1
	bottom0
	bottom1
	mid0
	mid1
)

// labels are two of each kind.
func labels() []net.Label {
	return []net.Label{{"a", header.IP}, {"b", header.IP}, {"c", header.Bottom}, {"d", header.Bottom}, {"e", header.Mid}, {"f", header.Mid}}
}

// sample is of two routers: links 0, 2 and 4 lead from r to s, links 1, 3 and 5
// back.
func sample(rows ...table.Row) net.Net {
	n := net.Net{Labels: labels(), Rows: rows}
	n.Topo.Routers = []string{"r", "s"}
	for i := range 6 {
		n.Topo.Links = append(n.Topo.Links, topo.Link{Name: "l" + strconv.Itoa(i), From: i % 2, To: 1 - i%2, Dist: uint64(i)})
	}
	return n
}

// named: n labels by rising names, all ips.
func named(n int) []net.Label {
	var l []net.Label
	for i := range n {
		l = append(l, net.Label{Name: "x" + strconv.Itoa(1000+i), Kind: header.IP})
	}
	return l
}

// The form of the types, and the limits.
func TestForm(t *testing.T) {
	n := net.Net{topo.Topo{Routers: []string{"r"}}, []net.Label{{"x", 1}}, []table.Row{row(0, 0)}}
	check(t, "a network", text(n), "r: x=1:: 0-0")
	check(t, "a move", movesText([]net.Move{{1, []int{2, 0}, 3}}), "1:2 0:3")
	check(t, "MaxThings", api.MaxThings, 64)
	check(t, "MaxRows", api.MaxRows, 256)
}

// P13.1: networks that may be.
func TestCheck(t *testing.T) {
	checkNil(t, "the zero one", net.Net{}.Check())
	checkNil(t, "lists without elements", net.Net{Labels: []net.Label{}, Rows: []table.Row{}}.Check())
	checkNil(t, "no rows", sample().Check())
	checkNil(t, "rows", sample(row(0, ip0, group(entry(1, push(bottom0)))), row(1, mid1, group(entry(0, pop)))).Check())
	checkNil(t, "64 labels", net.Net{Labels: named(64)}.Check())
	checkNil(t, "a name of 32 bytes", net.Net{Labels: []net.Label{{strings.Repeat("a", 32), header.IP}}}.Check())
	checkNil(t, "labels of one kind", net.Net{Labels: []net.Label{{"A", 3}, {"_", 3}, {"a", 3}, {"a-", 3}, {"a.", 3}, {"a0", 3}}}.Check())
	n := sample()
	n.Labels[0].Name, n.Labels[1].Name = "l0", "l1"
	slices.SortFunc(n.Labels, func(a, b net.Label) int { return strings.Compare(a.Name, b.Name) })
	checkNil(t, "a label and a link of one name", n.Check())
}

// P13.1: layer 11's Check's errors stand as they are, ahead of all others.
func TestCheckTopo(t *testing.T) {
	n := sample(row(9, 9))
	n.Labels[0].Kind = 0
	n.Topo.Links[2].Name = "l1"
	checkFault(t, "a link's name", n.Check(), api.ErrOrder, 2, "links")
	n.Topo.Links[1].To = 2
	checkFault(t, "a link's end", n.Check(), api.ErrNone, 1, "links")
	n.Topo.Routers[1] = "0"
	checkFault(t, "a router's name", n.Check(), api.ErrForm, 1, "routers")
	n.Topo.Routers = make([]string, 65)
	checkFault(t, "65 routers", n.Check(), api.ErrMany, 64, "routers")
}

// P13.1: labels' errors, ahead of rows'.
func TestCheckLabels(t *testing.T) {
	wrong := func(what string, l []net.Label, code api.Errno, at int) {
		t.Helper()
		n := sample(row(9, 9))
		n.Labels = l
		checkFault(t, what, n.Check(), code, at, "labels")
	}
	wrong("65", named(65), api.ErrMany, 64)
	wrong("many more", make([]net.Label, 1000), api.ErrMany, 64)
	for _, name := range []string{"", "0", "-a", "a b", "a ", "a#b", "$ip", "\xff", "ä", strings.Repeat("a", 33)} {
		wrong("the name "+name, []net.Label{{"A", 1}, {name, 2}}, api.ErrForm, 1)
		wrong("the name "+name+", first", []net.Label{{name, 2}, {"b", 1}}, api.ErrForm, 0)
	}
	wrong("a name that is there", []net.Label{{"a", 1}, {"b", 1}, {"b", 1}}, api.ErrOrder, 2)
	wrong("a lower name", []net.Label{{"b", 1}, {"a", 1}}, api.ErrOrder, 1)
	wrong("a lower name, last", []net.Label{{"a", 1}, {"c", 1}, {"b", 1}}, api.ErrOrder, 2)
	for _, kind := range []int{0, -1, 4, 5, 64, math.MinInt, math.MaxInt, 1 + 1<<32} {
		wrong("the kind "+strconv.Itoa(kind), []net.Label{{"a", 1}, {"b", kind}}, api.ErrArg, 1)
	}
	wrong("form ahead of kind", []net.Label{{"a", 1}, {"-", 0}}, api.ErrForm, 1)
	wrong("order ahead of kind", []net.Label{{"b", 1}, {"a", 0}}, api.ErrOrder, 1)
	wrong("the first's kind ahead of the second's form", []net.Label{{"a", 4}, {"-", 1}}, api.ErrArg, 0)
	wrong("the first's kind ahead of the second's order", []net.Label{{"a", 4}, {"a", 1}}, api.ErrArg, 0)
}

// P13.1: layer 12's Check's errors stand as they are.
func TestCheckRows(t *testing.T) {
	wrong := func(what string, n net.Net, code api.Errno, at int, words ...string) {
		t.Helper()
		checkFault(t, what, n.Check(), code, at, words...)
	}
	good := row(0, ip0, group(entry(1)))
	wrong("too many", sample(make([]table.Row, 257)...), api.ErrMany, 256, "table")
	wrong("no link", sample(row(6, ip0, group(entry(0)))), api.ErrNone, 0, "table", "0")
	wrong("no label", sample(good, row(1, 6, group(entry(0)))), api.ErrArg, 0, "table", "1")
	wrong("twice", sample(good, good), api.ErrOrder, 0, "table", "1")
	wrong("no groups", sample(row(0, 0)), api.ErrEmpty, 0, "table", "0")
	wrong("no entries", sample(row(0, 0, group(entry(1)), nil)), api.ErrEmpty, 0, "table", "0", "1")
	wrong("elsewhere", sample(row(0, 0, group(entry(1), entry(2)))), api.ErrPlace, 0, "table", "0", "0", "1")
	wrong("a chain", sample(row(0, 0, group(entry(1, push(bottom0), push(bottom1))))), api.ErrKind, 1, "table", "0", "0", "0")
	n := sample(row(0, bottom0, group(entry(1, pop))))
	checkNil(t, "a pop of an smpls", n.Check())
	n.Labels[bottom0].Kind = header.IP
	wrong("kinds are the labels'", n, api.ErrKind, 0, "table", "0", "0", "0")
	n.Labels = n.Labels[:bottom0]
	wrong("labels are the network's", n, api.ErrArg, 0, "table", "0")
	n = sample(row(0, ip0, group(entry(3))))
	n.Topo.Links[3].From = 0
	wrong("links are the network's", n, api.ErrPlace, 0, "table", "0", "0", "0")
}

// P13.1: the labels' kinds.
func TestKinds(t *testing.T) {
	check(t, "of none", len(net.Net{}.Kinds()), 0)
	check(t, "of an empty list", len(net.Net{Labels: []net.Label{}}.Kinds()), 0)
	check(t, "of two of each", ints(sample().Kinds()), "1 1 2 2 3 3")
	n := net.Net{Labels: []net.Label{{"b", 3}, {"a", 7}, {"", -1}, {"b", 0}}}
	check(t, "of any", ints(n.Kinds()), "3 7 -1 0")
	check(t, "of many", len(net.Net{Labels: named(200)}.Kinds()), 200)
	n.Kinds()[0] = 9
	check(t, "new memory", ints(n.Kinds()), "3 7 -1 0")
}

// P13.1: the first label of a name.
func TestLabel(t *testing.T) {
	for i, l := range labels() {
		check(t, "of "+l.Name, sample().Label(l.Name), i)
	}
	for _, name := range []string{"", "A", "g", "aa", "a ", "ip", "\xff", strings.Repeat("a", 70000)} {
		check(t, "of "+name, sample().Label(name), -1)
	}
	check(t, "of none", net.Net{}.Label("a"), -1)
	check(t, "of none, the empty text", net.Net{}.Label(""), -1)
	n := net.Net{Labels: []net.Label{{"b", 3}, {"a", 7}, {"b", 1}, {"", 1}, {"a", 7}}}
	check(t, "the first one", n.Label("b"), 0)
	check(t, "the first one in any order", n.Label("a"), 1)
	check(t, "of any text", n.Label(""), 3)
	n.Labels = named(200)
	check(t, "of many", n.Label("x1199"), 199)
}

// P13.3: the chapter's example.
func TestMovesExample(t *testing.T) {
	n := net.Net{
		Topo:   topo.Topo{Routers: []string{"r"}, Links: []topo.Link{{Name: "l0"}, {Name: "l1"}}},
		Labels: []net.Label{{"s", header.Bottom}, {"x", header.IP}},
		Rows:   []table.Row{row(0, 1, group(entry(1, push(0))))},
	}
	checkNil(t, "it may be", n.Check())
	check(t, "x over l0", movesText(n.Moves(0, []int{1}, bits.Set{})), "1:0 1:1")
	check(t, "x over l1", movesText(n.Moves(1, []int{1}, bits.Set{})), "")
	check(t, "s x over l0", movesText(n.Moves(0, []int{0, 1}, bits.Set{})), "")
	check(t, "l0 failed", movesText(n.Moves(0, []int{1}, bits.Of(0))), "")
	check(t, "l1 failed", movesText(n.Moves(0, []int{1}, bits.Of(1))), "")
	check(t, "others failed", movesText(n.Moves(0, []int{1}, bits.Upto(128).Less(bits.Of(0, 1)))), "1:0 1:1")
}

// stepped is a network whose rows have several groups, and chains that can't be
// done to every header of their top.
func stepped() net.Net {
	return sample(
		row(0, ip0,
			group(entry(1), entry(1, swap(ip1)), entry(3, push(bottom0), push(mid0), push(mid1)), entry(1)),
			group(entry(5, swap(ip1), push(bottom1)))),
		row(0, mid0,
			group(entry(1, pop, swap(mid1)), entry(1, pop, swap(bottom1)), entry(1, pop, pop, push(bottom0)))),
		row(2, mid0, group(entry(3, pop, pop, pop))),
	)
}

// P13.3: what may come of a header.
func TestMoves(t *testing.T) {
	n := stepped()
	checkNil(t, "it may be", n.Check())
	moves := func(what string, link int, h []int, failed bits.Set, want string) {
		t.Helper()
		check(t, what, movesText(n.Moves(link, h, failed)), want)
	}
	moves("all entries, in order", 0, []int{ip0}, bits.Set{}, "1:0:0, 1:1:0, 3:5 4 2 0:3, 1:0:0")
	moves("those left, 1 failed", 0, []int{ip0}, bits.Of(1), "3:5 4 2 0:3")
	moves("those left, 3 failed", 0, []int{ip0}, bits.Of(3), "1:0:0, 1:1:0, 1:0:0")
	moves("those left, 5 failed", 0, []int{ip0}, bits.Of(5, 4, 2), "1:0:0, 1:1:0, 3:5 4 2 0:3, 1:0:0")
	moves("the next group", 0, []int{ip0}, bits.Of(1, 3), "5:3 1:1")
	moves("no group", 0, []int{ip0}, bits.Of(1, 3, 5), "")
	moves("its own link failed", 0, []int{ip0}, bits.Of(0), "")
	moves("all failed", 0, []int{ip0}, bits.Upto(128), "")
	moves("no row of that top", 0, []int{ip1}, bits.Set{}, "")
	moves("no row of that link", 1, []int{ip0}, bits.Set{}, "")
	moves("mpls under mpls", 0, []int{mid0, mid0, bottom0, ip1}, bits.Set{}, "1:5 2 1:0")
	moves("smpls under mpls", 0, []int{mid0, bottom0, ip1}, bits.Set{}, "1:3 1:0, 1:2 1:1")
	moves("a chain that can't be done", 2, []int{mid0, bottom0, ip0}, bits.Set{}, "")
	moves("a chain that can", 2, []int{mid0, mid1, bottom0, ip0}, bits.Set{}, "3:0:0")
	moves("a higher header", 2, []int{mid0, mid1, mid1, mid0, bottom0, ip0}, bits.Set{}, "3:4 2 0:0")
}

// P13.3: headers that may not be, and links that aren't there.
func TestMovesNone(t *testing.T) {
	n := stepped()
	none := func(what string, n net.Net, link int, h []int) {
		t.Helper()
		check(t, what, len(n.Moves(link, h, bits.Set{})), 0)
	}
	for _, h := range [][]int{nil, {}, {ip0, ip0}, {ip0, bottom0}, {mid0}, {mid0, ip0}, {mid0, bottom0}, {mid0, bottom0, bottom0, ip0}, {mid0, 6}, {-1}, {6}, {math.MaxInt}, {math.MinInt}, {mid0, bottom0, -1}} {
		none("header "+ints(h), n, 0, h)
		none("header "+ints(h)+" over 2", n, 2, h)
	}
	for _, link := range []int{-1, -2, 6, 7, 63, 64, 127, 128, 1 << 32, -1 << 32, math.MinInt, math.MaxInt} {
		none("link "+strconv.Itoa(link), n, link, []int{ip0})
	}
	for _, link := range []int{-1, 0, 1} {
		none("the zero network", net.Net{}, link, []int{0})
		none("the zero network, no header", net.Net{}, link, nil)
		none("no rows", sample(), link, []int{ip0})
	}
}

// P13.3: how many Pushes there are, whatever else is in the chain.
func TestMovesPushes(t *testing.T) {
	n := sample(row(0, bottom0, group(
		entry(1, pop, push(bottom0), pop, push(bottom1)),
		entry(1, push(mid0), push(mid0), push(mid0), push(mid0), push(mid0), push(mid0), push(mid0), push(mid0)),
		entry(1, pop))))
	checkNil(t, "it may be", n.Check())
	check(t, "moves", movesText(n.Moves(0, []int{bottom0, ip1}, bits.Set{})), "1:3 1:2, 1:4 4 4 4 4 4 4 4 2 1:8, 1:1:0")
}

// DOC.md's rule of memory: moves share nothing with what was handed in, nor
// with one another.
func TestMovesMemory(t *testing.T) {
	n := stepped()
	before := text(n)
	room := append(make([]int, 0, 8), ip0, 7, 7, 7)
	h := room[:1]
	moves := n.Moves(0, h, bits.Set{})
	want := movesText(moves)
	for _, m := range moves {
		m.Header[0] = 9
		_ = append(m.Header[:1], 9, 9, 9)
	}
	moves[0] = net.Move{}
	check(t, "the header", ints(room), "0 7 7 7")
	check(t, "the network", text(n), before)
	check(t, "moves again", movesText(n.Moves(0, h, bits.Set{})), want)
	one, other := n.Moves(0, h, bits.Set{}), n.Moves(0, h, bits.Set{})
	one[0].Header[0] = 9
	check(t, "moves one by one", movesText(one[1:]), movesText(other[1:]))
	check(t, "the other ones", movesText(other), want)
	h[0] = mid0
	check(t, "moves once the header changed", movesText(other), want)
}

// DOC.md's rule of memory: no call changes a network.
func TestUnchanged(t *testing.T) {
	n := stepped()
	before := text(n)
	_ = n.Check()
	_ = n.Kinds()
	_ = n.Label("a")
	check(t, "the network", text(n), before)
}
