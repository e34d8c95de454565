package sample

import (
	"strconv"

	"fairlead/bits"
	"fairlead/header"
	"fairlead/net"
	"fairlead/nfa"
	"fairlead/ops"
	"fairlead/table"
	"fairlead/topo"
	"fairlead/trace"
)

// Network: the one of a text.
func Network(s string) net.Net {
	n, err := net.Parse(s)
	if err != nil {
		panic(err) // a test is written wrongly
	}
	return n
}

// Kinds are those of the labels of any network that Pick makes: two of each.
func Kinds() []int {
	return []int{header.IP, header.IP, header.Mid, header.Mid, header.Bottom, header.Bottom}
}

// Set: of numbers below one.
func (p Pick) Set(below int) bits.Set {
	var s bits.Set
	for i := range below {
		if p(3) == 0 {
			s = s.With(i)
		}
	}
	return s
}

// Header: any that may be, of a low height.
func (p Pick) Header() []int {
	h := []int{p(2)}
	for height := p(4); len(h) <= height; {
		kind := 4 // an smpls onto the ip
		if len(h) > 1 {
			kind = 2 // an mpls onto others
		}
		h = append([]int{kind + p(2)}, h...)
	}
	return h
}

// Network: any that may be, of at most three routers, and from one to five links.
func (p Pick) Network() net.Net {
	var n net.Net
	for i := range 1 + p(3) {
		n.Topo.Routers = append(n.Topo.Routers, "r"+strconv.Itoa(i))
	}
	for i := range 1 + p(5) {
		l := topo.Link{Name: "l" + strconv.Itoa(i), From: p(len(n.Topo.Routers)), To: p(len(n.Topo.Routers)), Dist: p.cost()}
		n.Topo.Links = append(n.Topo.Links, l)
	}
	for i, kind := range Kinds() {
		n.Labels = append(n.Labels, net.Label{Name: "abmnst"[i : i+1], Kind: kind})
	}
	for in, l := range n.Topo.Links {
		out := n.Topo.Out(l.To).List()
		for top := range n.Labels {
			if len(out) > 0 && p(5) > 0 {
				n.Rows = append(n.Rows, p.row(in, top, out))
			}
		}
	}
	return n
}

// row: any of a link and a label, with entries by some links.
func (p Pick) row(in, top int, out []int) table.Row {
	r := table.Row{In: in, Top: top}
	for range 1 + p(3) {
		var group []table.Entry
		for range 1 + p(3) {
			group = append(group, table.Entry{Out: out[p(len(out))], Ops: p.chain(top)})
		}
		r.Groups = append(r.Groups, group)
	}
	return r
}

// chain: any that can be done to some header of a top; most are short.
func (p Pick) chain(top int) []ops.Op {
	var chain []ops.Op
	tries := p(4)
	if p(6) == 0 {
		tries += 30
	}
	for range tries {
		more := append(chain, ops.Op{Kind: ops.Pop + p(3), Label: p(len(Kinds()))})
		if ops.Check(Kinds(), top, more) == nil {
			chain = more
		}
	}
	return chain
}

// Trace: any that a network does under failed links, of at most so many links: it
// begins with one that didn't fail, if there is one.
func (p Pick) Trace(n net.Net, failed bits.Set, most int) trace.Trace {
	var t trace.Trace
	left := bits.Upto(len(n.Topo.Links)).Less(failed).List()
	if len(left) == 0 {
		return t
	}
	now := net.Move{Link: left[p(len(left))], Header: p.Header()}
	for range most {
		t.Links, t.Headers = append(t.Links, now.Link), append(t.Headers, now.Header)
		moves := n.Moves(now.Link, now.Header, failed)
		if len(moves) == 0 {
			break
		}
		now = moves[p(len(moves))]
	}
	return t
}

// NFA: any that may be, of at most so many states, over numbers below one.
func (p Pick) NFA(states, below int) nfa.NFA {
	var a nfa.NFA
	count := 1 + p(states)
	for range count {
		var next []int
		for s := 1; s < count; s++ {
			if p(2) == 0 {
				next = append(next, s)
			}
		}
		a.On = append(a.On, p.Set(below).With(p(below)))
		a.Next = append(a.Next, next)
		a.Final = append(a.Final, p(2) == 0)
	}
	return a
}
