package show_test

import (
	"math"
	"math/rand"
	"slices"
	"strconv"
	"strings"
	"testing"

	"fairlead/api"
	"fairlead/header"
	"fairlead/ink"
	"fairlead/net"
	"fairlead/oops"
	"fairlead/ops"
	"fairlead/show"
	"fairlead/table"
	"fairlead/topo"
	"fairlead/tree"
)

func check[T comparable](t *testing.T, what string, got, want T) {
	t.Helper()
	if got != want {
		t.Errorf("%s: got %v, want %v", what, got, want)
	}
}

// checkFault: is it just a fault of both, within just these words?
func checkFault(t *testing.T, what string, err error, code api.Errno, at int, words ...string) {
	t.Helper()
	want := oops.New(code, at)
	for _, word := range slices.Backward(words) {
		want = oops.In(word, want)
	}
	if err == nil || !oops.Same(err, want) || err.Error() != want.Error() {
		t.Errorf("%s: %v, want %v", what, err, want)
	}
}

var pop = ops.Op{Kind: ops.Pop}

func swap(label int) ops.Op { return ops.Op{Kind: ops.Swap, Label: label} }

func push(label int) ops.Op { return ops.Op{Kind: ops.Push, Label: label} }

// entry: out by a link, with a chain.
func entry(out int, chain ...ops.Op) table.Entry { return table.Entry{Out: out, Ops: chain} }

// group: of these entries.
func group(l ...table.Entry) []table.Entry { return l }

func row(in, top int, groups ...[]table.Entry) table.Row {
	return table.Row{In: in, Top: top, Groups: groups}
}

func link(name string, from, to int, dist uint64) topo.Link {
	return topo.Link{Name: name, From: from, To: to, Dist: dist}
}

func label(name string, kind int) net.Label { return net.Label{Name: name, Kind: kind} }

// sample is of two routers: even links lead from r to s, odd ones back; labels
// 0 and 1 are ips, 2 and 3 smpls, 4 and 5 mpls.
func sample(rows ...table.Row) net.Net {
	n := net.Net{Rows: rows}
	n.Topo.Routers = []string{"r", "s"}
	for i, name := range []string{"a", "b", "c", "d", "e", "f"} {
		n.Labels = append(n.Labels, net.Label{Name: name, Kind: 1 + i/2})
		n.Topo.Links = append(n.Topo.Links, topo.Link{Name: "l" + strconv.Itoa(i), From: i % 2, To: 1 - i%2, Dist: uint64(i)})
	}
	return n
}

// some is a small network with all that there is.
func some() net.Net {
	return net.Net{
		Topo:   topo.Topo{Routers: []string{"B", "a"}, Links: []topo.Link{link("l0", 0, 1, 0), link("l1", 1, 0, math.MaxInt64), link("l2", 1, 1, 5)}},
		Labels: []net.Label{label("s", header.Bottom), label("t", header.Mid), label("x", header.IP)},
		Rows: []table.Row{
			row(0, 2, group(entry(1, push(0), push(1), pop, swap(0)), entry(2)), group(entry(1, swap(2)))),
			row(1, 1, group(entry(0, pop))),
		},
	}
}

// someText is some's.
const someText = `{"routers":["B","a"],` +
	`"labels":{"s":"smpls","t":"mpls","x":"ip"},` +
	`"links":{"l0":{"from":"B","to":"a","dist":0},"l1":{"from":"a","to":"B","dist":9223372036854775807},"l2":{"from":"a","to":"a","dist":5}},` +
	`"table":[{"in":"l0","top":"x","groups":[[{"out":"l1","ops":["push s","push t","pop","swap s"]},{"out":"l2","ops":[]}],[{"out":"l1","ops":["swap x"]}]]},` +
	`{"in":"l1","top":"t","groups":[[{"out":"l0","ops":["pop"]}]]}]}`

// printed: a network's text.
func printed(t *testing.T, what string, n net.Net) string {
	t.Helper()
	s, err := show.Print(n)
	if err != nil {
		t.Errorf("%s: %v, want a text", what, err)
	}
	return s
}

// parsed: a text's network.
func parsed(t *testing.T, what, s string) net.Net {
	t.Helper()
	n, err := net.Parse(s)
	if err != nil {
		t.Errorf("%s: %v, want a network of %s", what, err, s)
	}
	return n
}

// P14.1: ops' texts.
func TestOp(t *testing.T) {
	n := sample()
	for i, l := range n.Labels {
		check(t, "swap", show.Op(n, swap(i)), "swap "+l.Name)
		check(t, "push", show.Op(n, push(i)), "push "+l.Name)
		check(t, "pop", show.Op(n, ops.Op{Kind: ops.Pop, Label: i}), "pop")
	}
	for _, label := range []int{-1, -2, 6, 7, 64, 128, 1 << 32, math.MinInt, math.MaxInt} {
		check(t, "swap of no label", show.Op(n, swap(label)), "")
		check(t, "push of no label", show.Op(n, push(label)), "")
		check(t, "pop of no label", show.Op(n, ops.Op{Kind: ops.Pop, Label: label}), "pop")
	}
	for _, kind := range []int{0, -1, 4, 5, 64, math.MinInt, math.MaxInt, 1 + 1<<32} {
		for _, label := range []int{0, 5, -1, 6} {
			check(t, "no op", show.Op(n, ops.Op{Kind: kind, Label: label}), "")
		}
	}
	check(t, "pop of no network", show.Op(net.Net{}, pop), "pop")
	check(t, "push of no network", show.Op(net.Net{}, push(0)), "")
}

// like: are both the same in every field, a list of none being nil or empty?
func like(a, b tree.Value) bool {
	return a.Kind == b.Kind && a.Text == b.Text && a.Num == b.Num && a.At == b.At &&
		slices.Equal(a.Keys, b.Keys) && slices.EqualFunc(a.List, b.List, like)
}

// placeless: a value, with all places 0.
func placeless(v tree.Value) tree.Value {
	v.At = 0
	for i := range v.List {
		v.List[i] = placeless(v.List[i])
	}
	return v
}

// checkTree: has a network just the value of a text, with places 0?
func checkTree(t *testing.T, what string, n net.Net, s string) {
	t.Helper()
	want, err := tree.Parse(s)
	if err != nil {
		t.Fatalf("%s: %v", what, err)
	}
	if got := show.Tree(n); !like(got, placeless(want)) {
		t.Errorf("%s: got %+v, want %+v", what, got, placeless(want))
	}
}

// P14.1: the value of a network.
func TestTree(t *testing.T) {
	checkTree(t, "none", net.Net{}, `{"routers":[],"labels":{},"links":{},"table":[]}`)
	checkTree(t, "all that there is", some(), someText)
	checkTree(t, "no rows", net.Net{Topo: topo.Topo{Routers: []string{"x"}}, Labels: []net.Label{label("y", 3)}}, `{"routers":["x"],"labels":{"y":"mpls"},"links":{},"table":[]}`)
	v := show.Tree(some())
	check(t, "a number", v.List[2].List[1].List[2].Num, math.MaxInt64)
	check(t, "its kind", v.List[2].List[1].List[2].Kind, tree.Number)
	check(t, "the kind", v.Kind, tree.Object)
	check(t, "how deep", v.Deep(), 7)
}

// DOC.md's rule of memory: of values, and of networks.
func TestTreeMemory(t *testing.T) {
	n := some()
	one, other := show.Tree(n), show.Tree(n)
	one.Keys[0], one.List[0].List[0].Text, one.List[1].Keys[0] = "x", "x", "x"
	one.List[2].List[0].Keys[0], one.List[3].List[0].List[2].List[0] = "x", tree.Value{}
	if !like(other, show.Tree(some())) {
		t.Errorf("the other value changed: %+v", other)
	}
	check(t, "links have keys of their own", other.List[2].List[1].Keys[0], "from")
	check(t, "the network", show.Same(n, some()), true)
	n.Topo.Routers[0], n.Rows[0].Groups[0] = "zz", nil
	if !like(other, show.Tree(some())) {
		t.Errorf("the value changed with its network: %+v", other)
	}
}

// P1: a call ends, whatever it is given.
func TestTreeAny(t *testing.T) {
	n := net.Net{
		Topo:   topo.Topo{Links: []topo.Link{{From: -1, To: 7, Dist: math.MaxUint64}}},
		Labels: []net.Label{label("\xff", 9)},
		Rows:   []table.Row{row(1, 1), row(-1, 9, nil, group(entry(9, ops.Op{Kind: 9, Label: -1}))), row(math.MinInt, math.MaxInt)},
	}
	check(t, "its members", strings.Join(show.Tree(n).Keys, " "), "routers labels links table")
}

// P14.1: the text of a network.
func TestPrint(t *testing.T) {
	check(t, "none", printed(t, "none", net.Net{}), `{"routers":[],"labels":{},"links":{},"table":[]}`)
	check(t, "lists without elements", printed(t, "lists", net.Net{Topo: topo.Topo{Routers: []string{}, Links: []topo.Link{}}, Labels: []net.Label{}, Rows: []table.Row{}}), `{"routers":[],"labels":{},"links":{},"table":[]}`)
	check(t, "all that there is", printed(t, "all", some()), someText)
	n := some()
	n.Rows[1].Groups[0][0].Ops = []ops.Op{{Kind: ops.Pop, Label: -9}}
	check(t, "a pop's label", printed(t, "a pop's label", n), someText)
	check(t, "it may be", printed(t, "a row of many", sample(row(0, 0, group(entry(1), entry(3), entry(5))))),
		`{"routers":["r","s"],"labels":{"a":"ip","b":"ip","c":"smpls","d":"smpls","e":"mpls","f":"mpls"},"links":{"l0":{"from":"r","to":"s","dist":0},"l1":{"from":"s","to":"r","dist":1},"l2":{"from":"r","to":"s","dist":2},"l3":{"from":"s","to":"r","dist":3},"l4":{"from":"r","to":"s","dist":4},"l5":{"from":"s","to":"r","dist":5}},"table":[{"in":"l0","top":"a","groups":[[{"out":"l1","ops":[]},{"out":"l3","ops":[]},{"out":"l5","ops":[]}]]}]}`)
}

// P14.1: of networks that may not be, layer 13's Check's error, and no text.
func TestPrintWrong(t *testing.T) {
	wrong := func(what string, n net.Net, code api.Errno, at int, words ...string) {
		t.Helper()
		s, err := show.Print(n)
		check(t, what+": the text beside", s, "")
		checkFault(t, what, err, code, at, words...)
	}
	n := some()
	n.Rows[0].Groups[0][0].Ops[3] = swap(1)
	wrong("a chain", n, api.ErrKind, 3, "table", "0", "0", "0")
	n.Rows[0].In = 3
	wrong("no link", n, api.ErrNone, 0, "table", "0")
	n.Labels[1].Kind = 4
	wrong("a kind", n, api.ErrArg, 1, "labels")
	n.Topo.Links[1].Dist = math.MaxInt64 + 1
	wrong("a distance", n, api.ErrRange, 1, "links")
	n.Topo.Routers[0] = "b"
	wrong("an order", n, api.ErrOrder, 1, "routers")
	wrong("many rows", sample(make([]table.Row, 257)...), api.ErrMany, 256, "table")
}

// crowded: a row of as many groups and entries as there may be, each with so
// many ops.
func crowded(in, top, chain int) table.Row {
	e := entry(1-in%2, slices.Repeat([]ops.Op{swap(top)}, chain)...)
	return row(in, top, slices.Repeat([][]table.Entry{slices.Repeat(group(e), 8)}, 8)...)
}

// sized: a network whose text has so many bytes: rows, as far as they have room,
// and routers without links, whose names fill up the rest.
func sized(t *testing.T, length int) net.Net {
	t.Helper()
	n := sample()
	for i := range 36 {
		more := n
		more.Rows = append(slices.Clone(n.Rows), crowded(i/6, i%6, 1))
		if s, err := show.Print(more); err != nil || len(s) > length-100 {
			break
		}
		n = more
	}
	for rest := length - len(printed(t, "rows", n)); rest > 0; {
		name := "t" + strconv.Itoa(100+len(n.Topo.Routers))
		least, most := len(name)+len(`,""`), api.MaxName+len(`,""`)
		take := min(rest, most)
		if rest > take && rest < take+least { // too little would be left for the last one
			take -= least
		}
		n.Topo.Routers = append(n.Topo.Routers, name+strings.Repeat("x", take-least))
		rest -= take
	}
	return n
}

// P14.1: texts of more bytes than may be read.
func TestPrintLong(t *testing.T) {
	for more := range 4 {
		n := sized(t, api.MaxText-more)
		s := printed(t, "a long one", n)
		check(t, "how long", len(s), 65536-more)
		check(t, "it is read", show.Same(parsed(t, "a long one", s), n), true)
	}
	for more := 1; more <= 4; more++ {
		n := sized(t, api.MaxText+more)
		check(t, "it may be", n.Check() == nil, true)
		s, err := show.Print(n)
		check(t, "the text beside: how long", len(s), 0)
		checkFault(t, "too long", err, api.ErrLong, 65536)
	}
	n := sample()
	for i := range 36 {
		n.Rows = append(n.Rows, crowded(i/6, i%6, 8))
	}
	s, err := show.Print(n)
	check(t, "the text beside, of many rows: how long", len(s), 0)
	checkFault(t, "many rows", err, api.ErrLong, 65536)
	n.Rows[35].Top = 6
	_, err = show.Print(n)
	checkFault(t, "Check's error ahead", err, api.ErrArg, 0, "table", "35")
}

// P14.2: the same.
func TestSame(t *testing.T) {
	check(t, "none", show.Same(net.Net{}, net.Net{}), true)
	check(t, "nil and empty lists", show.Same(net.Net{}, net.Net{Topo: topo.Topo{Routers: []string{}, Links: []topo.Link{}}, Labels: []net.Label{}, Rows: []table.Row{}}), true)
	check(t, "nil and empty groups", show.Same(sample(row(0, 0)), sample(row(0, 0, [][]table.Entry{}...))), true)
	check(t, "nil and empty entries", show.Same(sample(row(0, 0, nil)), sample(row(0, 0, group()))), true)
	check(t, "nil and empty chains", show.Same(sample(row(0, 0, group(entry(1)))), sample(row(0, 0, group(table.Entry{Out: 1, Ops: []ops.Op{}})))), true)
	check(t, "some", show.Same(some(), some()), true)
	check(t, "none, and some", show.Same(net.Net{}, some()), false)
	check(t, "some, and none", show.Same(some(), net.Net{}), false)
	check(t, "of no kind", show.Same(sample(row(-1, 9, group(entry(99, ops.Op{Kind: 9})))), sample(row(-1, 9, group(entry(99, ops.Op{Kind: 9}))))), true)
}

// P14.2: what makes two networks unlike.
func TestSameNot(t *testing.T) {
	for what, change := range map[string]func(n *net.Net){
		"a router":            func(n *net.Net) { n.Topo.Routers[1] = "b" },
		"a router more":       func(n *net.Net) { n.Topo.Routers = append(n.Topo.Routers, "z") },
		"routers in order":    func(n *net.Net) { slices.Reverse(n.Topo.Routers) },
		"a link's name":       func(n *net.Net) { n.Topo.Links[1].Name = "l3" },
		"a link's From":       func(n *net.Net) { n.Topo.Links[1].From = 0 },
		"a link's To":         func(n *net.Net) { n.Topo.Links[1].To = 1 },
		"a link's Dist":       func(n *net.Net) { n.Topo.Links[2].Dist++ },
		"a link less":         func(n *net.Net) { n.Topo.Links = n.Topo.Links[:2] },
		"links in order":      func(n *net.Net) { slices.Reverse(n.Topo.Links) },
		"a label's name":      func(n *net.Net) { n.Labels[0].Name = "r" },
		"a label's kind":      func(n *net.Net) { n.Labels[0].Kind = 3 },
		"a label more":        func(n *net.Net) { n.Labels = append(n.Labels, net.Label{Name: "y", Kind: 1}) },
		"labels in order":     func(n *net.Net) { slices.Reverse(n.Labels) },
		"a row's In":          func(n *net.Net) { n.Rows[1].In = 2 },
		"a row's Top":         func(n *net.Net) { n.Rows[1].Top = 0 },
		"a row less":          func(n *net.Net) { n.Rows = n.Rows[:1] },
		"a row more":          func(n *net.Net) { n.Rows = append(n.Rows, table.Row{}) },
		"rows in order":       func(n *net.Net) { slices.Reverse(n.Rows) },
		"a group less":        func(n *net.Net) { n.Rows[0].Groups = n.Rows[0].Groups[:1] },
		"a group without any": func(n *net.Net) { n.Rows[0].Groups = append(n.Rows[0].Groups, nil) },
		"groups in order":     func(n *net.Net) { slices.Reverse(n.Rows[0].Groups) },
		"an entry less":       func(n *net.Net) { n.Rows[0].Groups[0] = n.Rows[0].Groups[0][:1] },
		"entries in order":    func(n *net.Net) { slices.Reverse(n.Rows[0].Groups[0]) },
		"an entry's Out":      func(n *net.Net) { n.Rows[1].Groups[0][0].Out = 1 },
		"an op's kind":        func(n *net.Net) { n.Rows[0].Groups[1][0].Ops[0].Kind = ops.Push },
		"an op's label":       func(n *net.Net) { n.Rows[0].Groups[1][0].Ops[0].Label = 1 },
		"a pop's label":       func(n *net.Net) { n.Rows[1].Groups[0][0].Ops[0].Label = 1 },
		"an op less":          func(n *net.Net) { n.Rows[1].Groups[0][0].Ops = nil },
		"ops in order":        func(n *net.Net) { slices.Reverse(n.Rows[0].Groups[0][0].Ops) },
	} {
		n := some()
		change(&n)
		check(t, what, show.Same(n, some()), false)
		check(t, what+", turned about", show.Same(some(), n), false)
		check(t, what+", itself", show.Same(n, n), true)
	}
}

// network: one that may be, over sample's topology and labels.
func network(d *rand.Rand) net.Net {
	n := sample()
	for in := range 6 {
		for top := range 6 {
			if d.Intn(4) > 0 {
				continue
			}
			r := row(in, top)
			for range 1 + d.Intn(3) {
				var g []table.Entry
				for range 1 + d.Intn(3) {
					g = append(g, entry(1-in%2+2*d.Intn(3), chain(d, n, top)...))
				}
				r.Groups = append(r.Groups, g)
			}
			n.Rows = append(n.Rows, r)
		}
	}
	return n
}

// chain: one that can be done to some header of a top; its pops have labels of
// their own.
func chain(d *rand.Rand, n net.Net, top int) []ops.Op {
	var chain []ops.Op
	for range d.Intn(9) {
		more := append(slices.Clone(chain), ops.Op{Kind: 1 + d.Intn(3), Label: d.Intn(6)})
		if ops.Check(n.Kinds(), top, more) == nil {
			chain = more
		}
	}
	return chain
}

// popped: the same network, with the Label of each Pop 0.
func popped(n net.Net) net.Net {
	for _, r := range n.Rows {
		for _, g := range r.Groups {
			for _, e := range g {
				for i := range e.Ops {
					if e.Ops[i].Kind == ops.Pop {
						e.Ops[i].Label = 0
					}
				}
			}
		}
	}
	return n
}

// P14.3: what is printed is read as it was, and printed, always the same.
func TestPrintParse(t *testing.T) {
	d := rand.New(rand.NewSource(14))
	for range 300 {
		n := network(d)
		s := printed(t, "a network", n)
		back := parsed(t, "what is printed", s)
		n = popped(n)
		check(t, "read as it was: "+s, show.Same(back, n), true)
		check(t, "printed again", printed(t, "again", back), s)
		check(t, "whatever labels pops had", printed(t, "popped", n), s)
	}
	check(t, "all that there is", show.Same(parsed(t, "some", someText), some()), true)
	check(t, "none", show.Same(parsed(t, "none", printed(t, "none", net.Net{})), net.Net{}), true)
}

// reversed: a value's text, with members, and what may come in any order, turned
// about, and blanks between.
func reversed(v tree.Value, any bool) string {
	var l []string
	for i, m := range v.List {
		item := reversed(m, v.Kind == tree.Object && (v.Keys[i] == "routers" || v.Keys[i] == "table"))
		if v.Kind == tree.Object {
			item = ink.Quote(v.Keys[i]) + " : " + item
		}
		l = append(l, item)
	}
	if any || v.Kind == tree.Object {
		slices.Reverse(l)
	}
	switch v.Kind {
	case tree.Object:
		return "{ " + strings.Join(l, " , ") + " }"
	case tree.Array:
		return "[ " + strings.Join(l, " , ") + " ]"
	}
	s, _ := ink.Text(v)
	return s
}

// P14.3: a text hangs on its network alone, and is no longer than another one.
func TestPrintOneWay(t *testing.T) {
	d := rand.New(rand.NewSource(15))
	for range 300 {
		n := network(d)
		s := printed(t, "a network", n)
		other := "\n" + reversed(show.Tree(n), false)
		back := parsed(t, "another text", other)
		check(t, "the same network", show.Same(back, popped(n)), true)
		check(t, "its text", printed(t, "another text's", back), s)
		check(t, "no longer", len(s) < len(other), true)
	}
}

// DOC.md's rule of memory: no call changes a network.
func TestUnchanged(t *testing.T) {
	n := some()
	_ = show.Tree(n)
	_, _ = show.Print(n)
	_ = show.Same(n, n)
	_ = show.Op(n, swap(0))
	check(t, "the network", show.Same(n, some()), true)
}
