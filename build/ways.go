package build

import (
	"slices"

	"fairlead/amount"
	"fairlead/bits"
	"fairlead/header"
	"fairlead/net"
	"fairlead/ops"
	"fairlead/table"
	"fairlead/weigh"
)

// same stands in a word for the label that was taken away last, whichever it was:
// it is laid on again. No label is so great.
const same = 0xff

// way is an entry of a row. What its chain does is to take away the row's top, then
// a label of each of deep, from the top on, and to lay on word, from its front on.
// So chains that do the same are the same, and few rules do what each does.
type way struct {
	top, out int
	needs    bits.Set // the links of the groups ahead
	active   bool     // whether its group is, under the failed links
	cost     uint64
	deep     string // of each label its kinds: the bit i tells whether i is one of them
	word     string
}

// ways: of each link all entries of its rows.
func ways(n net.Net, w weigh.Weight, failed bits.Set) [][]way {
	l := make([][]way, len(n.Topo.Links))
	kinds := n.Kinds()
	for _, row := range n.Rows {
		if !stands(kinds, row.Top) {
			continue
		}
		for g, group := range row.Groups {
			for _, e := range group {
				x := wayOf(kinds, row.Top, e)
				x.needs, x.active = row.Need(g), row.Active(failed) == g
				x.cost = amount.Add(w.Link(n.Topo.Links[e.Out].Dist), w.Cost(0, 0, uint64(ops.Pushes(e.Ops))))
				l[row.In] = append(l[row.In], x)
			}
		}
	}
	return l
}

// stands: is there a header with such a top? An mpls stands above an smpls, be it
// further down, and that above an ip.
func stands(kinds []int, top int) bool {
	return bits.Upto(kinds[top]).Without(0).Under(bits.Of(kinds...))
}

// wayOf: what an entry of a row of a top does.
func wayOf(kinds []int, top int, e table.Entry) way {
	c := chain{kinds: kinds, may: bits.Of(kinds[top])}
	for _, op := range e.Ops {
		c.do(op)
	}
	if len(c.deep) == 0 {
		c.again(byte(top))
	} else if c.asked {
		c.again(same)
	}
	return way{top: top, out: e.Out, deep: string(c.deep[1:]), word: string(c.word)}
}

// chain follows what ops do to a header of which the top's kind alone is known.
type chain struct {
	kinds []int
	deep  []byte   // of each label that was taken away the kinds it may have had
	word  []byte   // what was laid on what is left, the top last
	may   bits.Set // the kinds that the first label of what is left may have
	asked bool     // whether an op that was done asks for one of them
}

// do: an op.
func (c *chain) do(op ops.Op) {
	if len(c.word) == 0 {
		c.may = c.may.And(c.tops(op))
		c.asked = true
	}
	switch op.Kind {
	case ops.Pop:
		c.off()
	case ops.Swap:
		c.off()
		fallthrough
	case ops.Push:
		c.word = append(c.word, byte(op.Label))
	}
}

// tops: the kinds of a top with which an op can be done.
func (c *chain) tops(op ops.Op) bits.Set {
	switch op.Kind {
	case ops.Swap:
		return bits.Of(c.kinds[op.Label])
	case ops.Push:
		return header.Onto(c.kinds[op.Label])
	}
	return bits.Of(header.Bottom, header.Mid)
}

// off: the top is taken away.
func (c *chain) off() {
	if last := len(c.word) - 1; last >= 0 {
		c.word = c.word[:last]
		return
	}
	c.deep = append(c.deep, byte(c.may[0]))
	var under bits.Set
	for kind := range c.may.All() {
		under = under.Or(header.Below(kind))
	}
	c.may, c.asked = under, false
}

// again: the first label of what is left is taken away, and laid on again.
func (c *chain) again(label byte) {
	word := c.word
	c.word = nil
	c.off()
	c.word = slices.Insert(word, 0, label)
}
