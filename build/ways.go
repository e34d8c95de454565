package build

import (
	"slices"

	"fairlead/amount"
	"fairlead/bits"
	"fairlead/header"
	"fairlead/net"
	"fairlead/ops"
	"fairlead/table"
	"fairlead/weigh"
)

// same stands in a word for the label that was taken away last, whichever it was:
// it is laid on again. No label is so great.
const same = 0xff

// rest is what is left to be done of an entry: to take a label away for each of
// deep, from the top on, to lay word on, from its front on, and to go out.
// So chains that do the same are the same, and few rules do what each does.
type rest struct {
	deep, word string // of each label of deep its kinds: the bit i tells whether i is one of them
	out        int
}

// way is the rest of an entry, and what no rule told of it yet.
type way struct {
	rest
	needs bits.Set // the links of the groups ahead
	cost  uint64
}

// row has all entries of a row that may be gone by, once its top was taken away.
type row struct {
	top  int
	ways []way
}

// rows: of each link.
func rows(n net.Net, w weigh.Weight, mode Mode) [][]row {
	l := make([][]row, len(n.Topo.Links))
	kinds := n.Kinds()
	for _, r := range n.Rows {
		if !stands(kinds, r.Top) {
			continue
		}
		x := row{top: r.Top}
		for g, group := range r.Groups {
			for _, e := range group {
				if !mode.open(r, g, e) {
					continue
				}
				cost := amount.Add(w.Link(n.Topo.Links[e.Out].Dist), w.Cost(0, 0, uint64(ops.Pushes(e.Ops))))
				x.ways = append(x.ways, way{restOf(kinds, r.Top, e), r.Need(g), cost})
			}
		}
		l[r.In] = append(l[r.In], x)
	}
	return l
}

// open: may an entry be gone by, where nothing is counted as failed yet?
func (m Mode) open(r table.Row, g int, e table.Entry) bool {
	if m.Kind == Fixed {
		return r.Active(m.Failed) == g && !m.Failed.Has(e.Out)
	}
	needs := r.Need(g)
	_, ok := m.counts(0, needs)
	return ok && !needs.Has(r.In) && !needs.Has(e.Out)
}

// counts: how many links are counted as failed, once some more must have, and may
// as many be?
func (m Mode) counts(fails int, needs bits.Set) (int, bool) {
	counted, all := 0, needs.Len()
	switch m.Kind {
	case Under:
		all += fails
		counted = all
		fallthrough
	case Over:
		return counted, all <= m.Fails
	}
	return 0, true
}

// stands: is there a header with such a top? An mpls stands above an smpls, be it
// further down, and that above an ip.
func stands(kinds []int, top int) bool {
	return bits.Upto(kinds[top]).Without(0).Under(bits.Of(kinds...))
}

// restOf: what an entry of a row of a top does, once the top was taken away.
func restOf(kinds []int, top int, e table.Entry) rest {
	c := chain{kinds: kinds, may: bits.Of(kinds[top])}
	for _, op := range e.Ops {
		c.do(op)
	}
	if len(c.deep) == 0 {
		c.again(byte(top))
	} else if c.asked {
		c.again(same)
	}
	return rest{deep: string(c.deep[1:]), word: string(c.word), out: e.Out}
}

// chain follows what ops do to a header of which the top's kind alone is known.
type chain struct {
	kinds []int
	deep  []byte   // of each label that was taken away the kinds it may have had
	word  []byte   // what was laid on what is left, the top last
	may   bits.Set // the kinds that the first label of what is left may have
	asked bool     // whether an op that was done asks for one of them
}

// do: an op.
func (c *chain) do(op ops.Op) {
	if len(c.word) == 0 {
		c.may = c.may.And(c.tops(op))
		c.asked = true
	}
	switch op.Kind {
	case ops.Pop:
		c.off()
	case ops.Swap:
		c.off()
		fallthrough
	case ops.Push:
		c.word = append(c.word, byte(op.Label))
	}
}

// tops: the kinds of a top with which an op can be done.
func (c *chain) tops(op ops.Op) bits.Set {
	switch op.Kind {
	case ops.Swap:
		return bits.Of(c.kinds[op.Label])
	case ops.Push:
		return header.Onto(c.kinds[op.Label])
	}
	return bits.Of(header.Bottom, header.Mid)
}

// off: the top is taken away.
func (c *chain) off() {
	if last := len(c.word) - 1; last >= 0 {
		c.word = c.word[:last]
		return
	}
	c.deep = append(c.deep, byte(c.may[0]))
	var under bits.Set
	for kind := range c.may.All() {
		under = under.Or(header.Below(kind))
	}
	c.may, c.asked = under, false
}

// again: the first label of what is left is taken away, and laid on again.
func (c *chain) again(label byte) {
	word := c.word
	c.word = nil
	c.off()
	c.word = slices.Insert(word, 0, label)
}
