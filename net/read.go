package net

import (
	"cmp"
	"errors"
	"slices"
	"strconv"
	"strings"

	"fairlead/api"
	"fairlead/header"
	"fairlead/oops"
	"fairlead/ops"
	"fairlead/scan"
	"fairlead/table"
	"fairlead/topo"
	"fairlead/tree"
)

// read: the network that a value tells. What names others comes behind them, so
// that their numbers are known by then.
func read(v tree.Value) (Net, error) {
	var n Net
	err := told(v, "routers", "labels", "links", "table")
	if err == nil {
		n.Topo.Routers, err = member(v, "routers", routers)
	}
	if err == nil {
		n.Labels, err = member(v, "labels", labels)
	}
	if err == nil {
		n.Topo.Links, err = member(v, "links", n.links)
	}
	if err == nil {
		n.Rows, err = member(v, "table", n.rows)
	}
	return n, err
}

// routers: the names that an array tells, rising.
func routers(v tree.Value) ([]string, error) {
	var l []string
	err := each(v, tree.Array, api.MaxThings, func(_ string, v tree.Value) error {
		name, err := text(v)
		switch {
		case err != nil:
			return err
		case !scan.IsName(name):
			return fault(api.ErrForm, v)
		case slices.Contains(l, name):
			return fault(api.ErrTwice, v)
		}
		l = append(l, name)
		return nil
	})
	slices.Sort(l)
	return l, err
}

// labels: those that an object's members tell, by rising names.
func labels(v tree.Value) ([]Label, error) {
	var l []Label
	err := eachNamed(v, func(name string, v tree.Value) error {
		kind, err := found(v, header.Of, 0, api.ErrArg)
		l = append(l, Label{Name: name, Kind: kind})
		return err
	})
	slices.SortFunc(l, func(a, b Label) int { return cmp.Compare(a.Name, b.Name) })
	return l, err
}

// links: those that an object's members tell, by rising names.
func (n Net) links(v tree.Value) ([]topo.Link, error) {
	var l []topo.Link
	err := eachNamed(v, func(name string, v tree.Value) error {
		link, err := n.link(name, v)
		l = append(l, link)
		return err
	})
	slices.SortFunc(l, func(a, b topo.Link) int { return cmp.Compare(a.Name, b.Name) })
	return l, err
}

// link: of a name, what an object tells.
func (n Net) link(name string, v tree.Value) (topo.Link, error) {
	l := topo.Link{Name: name}
	err := told(v, "from", "to", "dist")
	if err == nil {
		l.From, err = member(v, "from", numbered(n.Topo.Router))
	}
	if err == nil {
		l.To, err = member(v, "to", numbered(n.Topo.Router))
	}
	if err == nil {
		l.Dist, err = member(v, "dist", number)
	}
	return l, err
}

// rows: those that an array tells, rising.
func (n Net) rows(v tree.Value) ([]table.Row, error) {
	var l []table.Row
	err := each(v, tree.Array, api.MaxRows, func(_ string, v tree.Value) error {
		r, err := n.row(v, l)
		l = append(l, r)
		return err
	})
	slices.SortFunc(l, func(a, b table.Row) int {
		return cmp.Or(cmp.Compare(a.In, b.In), cmp.Compare(a.Top, b.Top))
	})
	return l, err
}

// row: what an object tells, unlike the rows ahead.
func (n Net) row(v tree.Value, ahead []table.Row) (table.Row, error) {
	var r table.Row
	err := told(v, "in", "top", "groups")
	if err == nil {
		r.In, err = member(v, "in", numbered(n.Topo.Link))
	}
	if err == nil {
		r.Top, err = member(v, "top", numbered(n.Label))
	}
	if err == nil {
		err = unlike(v, r, ahead)
	}
	if err == nil {
		r.Groups, err = member(v, "groups", func(v tree.Value) ([][]table.Entry, error) {
			return n.groups(v, r)
		})
	}
	return r, err
}

// unlike: is there no row ahead of a row's link and label?
func unlike(v tree.Value, r table.Row, ahead []table.Row) error {
	if _, twice := table.Find(ahead, r.In, r.Top); twice {
		return fault(api.ErrTwice, v)
	}
	return nil
}

// groups: a row's, that an array of arrays tells.
func (n Net) groups(v tree.Value, r table.Row) ([][]table.Entry, error) {
	return few(v, 1, api.MaxGroups, func(v tree.Value) ([]table.Entry, error) {
		return few(v, 1, api.MaxGroups, func(v tree.Value) (table.Entry, error) {
			return n.entry(v, r)
		})
	})
}

// entry: a row's, that an object tells.
func (n Net) entry(v tree.Value, r table.Row) (table.Entry, error) {
	var e table.Entry
	err := told(v, "out", "ops")
	if err == nil {
		e.Out, err = member(v, "out", func(v tree.Value) (int, error) { return n.out(v, r) })
	}
	if err == nil {
		e.Ops, err = member(v, "ops", func(v tree.Value) ([]ops.Op, error) { return n.chain(v, r) })
	}
	return e, err
}

// out: the link by which an entry of a row goes out.
func (n Net) out(v tree.Value, r table.Row) (int, error) {
	l, err := numbered(n.Topo.Link)(v)
	if err == nil && n.Topo.Links[l].From != n.Topo.Links[r.In].To {
		err = fault(api.ErrPlace, v)
	}
	return l, err
}

// chain: one that can be done to some header of a row's top.
func (n Net) chain(v tree.Value, r table.Row) ([]ops.Op, error) {
	chain, err := few(v, 0, api.MaxOps, n.op)
	if err != nil {
		return nil, err
	}
	var f *oops.Fault
	if errors.As(ops.Check(n.Kinds(), r.Top, chain), &f) {
		return nil, oops.In(strconv.Itoa(f.At), fault(f.Code, v.List[f.At]))
	}
	return chain, nil
}

// op: what a text tells.
func (n Net) op(v tree.Value) (ops.Op, error) {
	s, err := text(v)
	if err != nil {
		return ops.Op{}, err
	}
	if s == "pop" {
		return ops.Op{Kind: ops.Pop}, nil
	}
	word, name, _ := strings.Cut(s, " ")
	kind := laying(word)
	if kind == 0 || !scan.IsName(name) {
		return ops.Op{}, fault(api.ErrForm, v)
	}
	label := n.Label(name)
	if label < 0 {
		return ops.Op{}, fault(api.ErrNone, v)
	}
	return ops.Op{Kind: kind, Label: label}, nil
}

// laying: the kind of op with a label that a word tells; 0 of another word.
func laying(word string) int {
	switch word {
	case "swap":
		return ops.Swap
	case "push":
		return ops.Push
	}
	return 0
}

// told: is it an object with just these members?
func told(v tree.Value, keys ...string) error {
	if err := mustBe(v, tree.Object); err != nil {
		return err
	}
	for i, key := range v.Keys {
		if !slices.Contains(keys, key) {
			return oops.In(key, fault(api.ErrNone, v.List[i]))
		}
	}
	// no key comes twice, so that one is missing just where there are fewer
	if len(v.Keys) < len(keys) {
		return fault(api.ErrLack, v)
	}
	return nil
}

// member: what an object's member tells, any error within its key.
func member[T any](v tree.Value, key string, tell func(v tree.Value) (T, error)) (T, error) {
	m, _ := v.Get(key)
	x, err := tell(m)
	return x, oops.In(key, err)
}

// eachNamed: goes through an object's members, whose keys are names.
func eachNamed(v tree.Value, tell func(name string, v tree.Value) error) error {
	return each(v, tree.Object, api.MaxThings, func(key string, v tree.Value) error {
		if !scan.IsName(key) {
			return fault(api.ErrForm, v)
		}
		return tell(key, v)
	})
}

// each: goes through an array's values, or an object's members, each within its
// place, as far as there may be so many.
func each(v tree.Value, kind, most int, tell func(place string, v tree.Value) error) error {
	if err := mustBe(v, kind); err != nil {
		return err
	}
	for i, m := range v.List {
		place := strconv.Itoa(i)
		if kind == tree.Object {
			place = v.Keys[i]
		}
		if i >= most {
			return oops.In(place, fault(api.ErrMany, m))
		}
		if err := tell(place, m); err != nil {
			return oops.In(place, err)
		}
	}
	return nil
}

// few: what the values of an array tell, of which there must be so many, and
// may be no more than so many.
func few[T any](v tree.Value, least, most int, tell func(v tree.Value) (T, error)) ([]T, error) {
	err := mustBe(v, tree.Array)
	switch {
	case err != nil:
		return nil, err
	case len(v.List) < least:
		return nil, fault(api.ErrEmpty, v)
	case len(v.List) > most:
		return nil, fault(api.ErrMany, v)
	}
	var l []T
	err = each(v, tree.Array, most, func(_ string, v tree.Value) error {
		x, err := tell(v)
		l = append(l, x)
		return err
	})
	return l, err
}

// numbered: tells the number of a name, of which find answers -1, if it isn't
// there.
func numbered(find func(name string) int) func(v tree.Value) (int, error) {
	return func(v tree.Value) (int, error) { return found(v, find, -1, api.ErrNone) }
}

// found: what is found of a text, or an error of that number, if that is none.
func found(v tree.Value, find func(s string) int, none int, code api.Errno) (int, error) {
	s, err := text(v)
	if err != nil {
		return 0, err
	}
	i := find(s)
	if i == none {
		return 0, fault(code, v)
	}
	return i, nil
}

// text: what a text tells.
func text(v tree.Value) (string, error) { return v.Text, mustBe(v, tree.Text) }

// number: what a number tells.
func number(v tree.Value) (uint64, error) { return v.Num, mustBe(v, tree.Number) }

// mustBe: is a value of a kind?
func mustBe(v tree.Value, kind int) error {
	if v.Kind != kind {
		return fault(api.ErrKind, v)
	}
	return nil
}

// fault: an error of a number, at a value's place.
func fault(code api.Errno, v tree.Value) error { return oops.New(code, v.At) }
