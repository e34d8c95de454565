package table_test

import (
	"math"
	"slices"
	"strconv"
	"strings"
	"testing"

	"fairlead/api"
	"fairlead/bits"
	"fairlead/oops"
	"fairlead/ops"
	"fairlead/table"
	"fairlead/topo"
)

func check[T comparable](t *testing.T, what string, got, want T) {
	t.Helper()
	if got != want {
		t.Errorf("%s: got %v, want %v", what, got, want)
	}
}

// checkSet: has a set just these?
func checkSet(t *testing.T, what string, got bits.Set, want ...int) {
	t.Helper()
	if got != bits.Of(want...) {
		t.Errorf("%s: got %v, want %v", what, got.List(), want)
	}
}

// checkFault: is it just a fault of both, within these words (a blank between)?
func checkFault(t *testing.T, what string, err error, words string, code api.Errno, at int) {
	t.Helper()
	for _, word := range strings.Fields(words) {
		p, ok := err.(*oops.Place)
		if !ok || p == nil {
			t.Errorf("%s: %v, want it within %s", what, err, word)
			return
		}
		check(t, what+": within", p.Word, word)
		err = p.Err
	}
	f, ok := err.(*oops.Fault)
	if !ok || f == nil {
		t.Errorf("%s: %v is no fault, want %d at %d", what, err, code, at)
		return
	}
	check(t, what, *f, oops.Fault{Code: code, At: at})
}

// checkNil: is it no error?
func checkNil(t *testing.T, what string, err error) {
	t.Helper()
	if err != nil {
		t.Errorf("%s: %v, want nil", what, err)
	}
}

// entry: out by a link, with a chain.
func entry(out int, chain ...ops.Op) table.Entry { return table.Entry{Out: out, Ops: chain} }

// by: a group of entries out by these links, without ops.
func by(outs ...int) []table.Entry {
	var group []table.Entry
	for _, out := range outs {
		group = append(group, entry(out))
	}
	return group
}

func row(in, top int, groups ...[]table.Entry) table.Row {
	return table.Row{In: in, Top: top, Groups: groups}
}

var pop = ops.Op{Kind: ops.Pop}

func swap(label int) ops.Op { return ops.Op{Kind: ops.Swap, Label: label} }

func push(label int) ops.Op { return ops.Op{Kind: ops.Push, Label: label} }

// groupText: all that a group is.
func groupText(group []table.Entry) string {
	var words []string
	for _, e := range group {
		word := strconv.Itoa(e.Out)
		for _, op := range e.Ops {
			word += "," + strconv.Itoa(op.Kind) + "/" + strconv.Itoa(op.Label)
		}
		words = append(words, word)
	}
	return "[" + strings.Join(words, " ") + "]"
}

// text: all that rows are.
func text(rows ...table.Row) string {
	var words []string
	for _, r := range rows {
		word := strconv.Itoa(r.In) + "-" + strconv.Itoa(r.Top) + ":"
		for _, group := range r.Groups {
			word += groupText(group)
		}
		words = append(words, word)
	}
	return strings.Join(words, " ")
}

// pair is a topology of two routers: even links lead from 0 to 1, odd ones from
// 1 to 0; what comes in by an even one goes out by an odd one.
func pair() topo.Topo {
	t := topo.Topo{Routers: []string{"a", "b"}}
	for i := range 64 {
		name := "l" + strconv.Itoa(10+i)
		t.Links = append(t.Links, topo.Link{Name: name, From: i % 2, To: 1 - i%2})
	}
	return t
}

// list: 0 and 3 are ips, 1 and 4 smpls, 2 and 5 mpls, 6 and 7 have no kind.
func list() []int { return []int{1, 2, 3, 1, 2, 3, 0, 4} }

// none are numbers that are below 0, or from 64 on.
func none() []int {
	return []int{-1, -2, -64, 64, 65, 127, 128, 1 << 32, -1 << 32, math.MinInt, math.MinInt + 1, math.MaxInt}
}

// The form of the types, and the limits.
func TestForm(t *testing.T) {
	e := table.Entry{1, []ops.Op{{Kind: 3, Label: 2}}}
	r := table.Row{4, 5, [][]table.Entry{{e}}}
	check(t, "a row", text(r), "4-5:[1,3/2]")
	check(t, "MaxRows", api.MaxRows, 256)
	check(t, "MaxGroups", api.MaxGroups, 8)
}

// P12.1: links of a group.
func TestLinks(t *testing.T) {
	r := row(0, 0, by(3, 1, 3), by(1), by(), by(0, 63, 64, 127), nil, by(5, 5))
	checkSet(t, "of the first", r.Links(0), 1, 3)
	checkSet(t, "of the second", r.Links(1), 1)
	checkSet(t, "of an empty one", r.Links(2))
	checkSet(t, "of the ends", r.Links(3), 0, 63, 64, 127)
	checkSet(t, "of a nil one", r.Links(4))
	checkSet(t, "of the last", r.Links(5), 5)
	for _, g := range []int{-1, -2, 6, 7, 64, 1 << 32, math.MinInt, math.MaxInt} {
		checkSet(t, "of no group "+strconv.Itoa(g), r.Links(g))
	}
	for _, g := range append(none(), 0, 1) {
		checkSet(t, "of a row without groups", row(0, 0).Links(g))
		checkSet(t, "of the zero row", table.Row{}.Links(g))
		checkSet(t, "of groups that are none", row(0, 0, [][]table.Entry{}...).Links(g))
	}
	checkSet(t, "whatever the row is of", row(-5, math.MaxInt, by(2)).Links(0), 2)
	checkSet(t, "whatever the ops are", row(0, 0, []table.Entry{entry(2, pop, ops.Op{Kind: 9})}).Links(0), 2)
}

// P12.1: links of all groups ahead.
func TestNeed(t *testing.T) {
	r := row(0, 0, by(3, 1), by(1, 127), by(), by(0), by(64))
	wants := [][]int{nil, {1, 3}, {1, 3, 127}, {1, 3, 127}, {0, 1, 3, 127}, {0, 1, 3, 64, 127}}
	for g, want := range wants {
		checkSet(t, "of "+strconv.Itoa(g), r.Need(g), want...)
	}
	for _, g := range []int{-1, -2, -64, -1 << 32, math.MinInt, math.MinInt + 1} {
		checkSet(t, "below 0", r.Need(g))
	}
	for _, g := range []int{6, 7, 8, 9, 64, 128, 1 << 32, math.MaxInt - 1, math.MaxInt} {
		checkSet(t, "beyond", r.Need(g), 0, 1, 3, 64, 127)
	}
	for _, g := range append(none(), 0, 1) {
		checkSet(t, "of a row without groups", row(0, 0).Need(g))
		checkSet(t, "of the zero row", table.Row{}.Need(g))
	}
}

// checkNext: which group is active, and what goes out of it?
func checkNext(t *testing.T, r table.Row, failed bits.Set, active int, next string) {
	t.Helper()
	what := text(r) + " under " + groupText(by(failed.List()...))
	check(t, "Active of "+what, r.Active(failed), active)
	check(t, "Next of "+what, groupText(r.Next(failed)), next)
}

// P12.1: the chapter's example.
func TestExample(t *testing.T) {
	r := row(0, 0, by(0), by(1))
	checkNext(t, r, bits.Set{}, 0, "[0]")
	checkNext(t, r, bits.Of(0), 1, "[1]")
	checkNext(t, r, bits.Of(1), 0, "[0]")
	checkNext(t, r, bits.Of(0, 1), -1, "[]")
}

// P12.1: the active group, and its entries whose links didn't fail.
func TestActiveNext(t *testing.T) {
	a, b := entry(1, swap(4)), entry(2, push(1), push(2))
	r := row(0, 0, []table.Entry{b, a, entry(1), b}, []table.Entry{a, entry(127, pop), entry(64)}, by(5))
	checkNext(t, r, bits.Set{}, 0, "[2,3/1,3/2 1,2/4 1 2,3/1,3/2]")
	checkNext(t, r, bits.Of(1), 0, "[2,3/1,3/2 2,3/1,3/2]")
	checkNext(t, r, bits.Of(2), 0, "[1,2/4 1]")
	checkNext(t, r, bits.Of(1, 2), 1, "[127,1/0 64]")
	checkNext(t, r, bits.Of(1, 2, 64), 1, "[127,1/0]")
	checkNext(t, r, bits.Of(1, 2, 127), 1, "[64]")
	checkNext(t, r, bits.Of(1, 2, 64, 127), 2, "[5]")
	checkNext(t, r, bits.Of(1, 2, 5, 64, 127), -1, "[]")
	checkNext(t, r, bits.Upto(128), -1, "[]")
	checkNext(t, r, bits.Of(5, 64, 127), 0, "[2,3/1,3/2 1,2/4 1 2,3/1,3/2]")
	checkNext(t, r, bits.Of(0, 3, 4, 63, 126), 0, "[2,3/1,3/2 1,2/4 1 2,3/1,3/2]")
}

// P12.1: rows without groups, and groups without entries, which are never
// active.
func TestActiveEmpty(t *testing.T) {
	for _, failed := range []bits.Set{{}, bits.Of(0), bits.Upto(128)} {
		checkNext(t, table.Row{}, failed, -1, "[]")
		checkNext(t, row(0, 0, [][]table.Entry{}...), failed, -1, "[]")
		checkNext(t, row(0, 0, nil), failed, -1, "[]")
		checkNext(t, row(0, 0, by(), nil, by()), failed, -1, "[]")
	}
	r := row(0, 0, by(), by(0), nil, by(1), by())
	checkNext(t, r, bits.Set{}, 1, "[0]")
	checkNext(t, r, bits.Of(0), 3, "[1]")
	checkNext(t, r, bits.Of(0, 1), -1, "[]")
}

// P12.1: one link in several groups, and several times in one.
func TestActiveShared(t *testing.T) {
	r := row(0, 0, by(1), by(1, 2), by(2), by(1, 1, 3))
	checkNext(t, r, bits.Set{}, 0, "[1]")
	checkNext(t, r, bits.Of(1), 1, "[2]")
	checkNext(t, r, bits.Of(2), 0, "[1]")
	checkNext(t, r, bits.Of(1, 2), 3, "[3]")
	checkNext(t, r, bits.Of(1, 2, 3), -1, "[]")
	checkNext(t, row(0, 0, by(1), by(1), by(1)), bits.Of(1), -1, "[]")
}

// P12.1: groups and entries of any number, as of rows that may not be.
func TestActiveMany(t *testing.T) {
	var groups [][]table.Entry
	for i := range 128 {
		groups = append(groups, by(i))
	}
	r := row(0, 0, groups...)
	for i := range 128 {
		checkNext(t, r, bits.Upto(i), i, groupText(by(i)))
		check(t, "Need", r.Need(i), bits.Upto(i))
		checkSet(t, "Links", r.Links(i), i)
	}
	checkNext(t, r, bits.Upto(128), -1, "[]")
	check(t, "Need beyond", r.Need(128), bits.Upto(128))
}

// P12.2: the first row of a link and a label.
func TestFind(t *testing.T) {
	rows := []table.Row{
		row(3, 1, by(5, 6), []table.Entry{entry(2, push(2), pop)}),
		row(1, 3, by(1)),
		row(1, 1, by(2)),
		row(3, 1, by(3)),
		row(3, 3),
		row(1, 1, by(4)),
		row(-1, 7, by(5)),
		row(math.MaxInt, math.MinInt, by(6)),
	}
	for i, r := range rows {
		want := rows[i]
		if i == 3 || i == 5 {
			want = rows[i-3]
		}
		got, ok := table.Find(rows, r.In, r.Top)
		check(t, "it is there", ok, true)
		check(t, "the row", text(got), text(want))
	}
	for _, p := range [][2]int{{3, 2}, {2, 1}, {0, 0}, {1, 2}, {7, -1}, {-1, 1}, {3, -1}, {math.MinInt, math.MaxInt}, {3 + 1<<32, 1}} {
		got, ok := table.Find(rows, p[0], p[1])
		check(t, "it isn't there", ok, false)
		check(t, "the row beside false", text(got), text(table.Row{}))
		check(t, "its groups", len(got.Groups), 0)
	}
	for _, no := range [][]table.Row{nil, {}, rows[:0]} {
		got, ok := table.Find(no, 3, 1)
		check(t, "of no rows", ok, false)
		check(t, "the row of none", text(got), text(table.Row{}))
		_, ok = table.Find(no, 0, 0)
		check(t, "the zero row of none", ok, false)
	}
	_, ok := table.Find([]table.Row{{}}, 0, 0)
	check(t, "the zero row", ok, true)
}

// P12.2: links of groups that have another one behind them.
func TestBacked(t *testing.T) {
	checkSet(t, "of no rows", table.Backed(nil))
	checkSet(t, "of none", table.Backed([]table.Row{}))
	checkSet(t, "of rows without groups", table.Backed([]table.Row{{}, row(1, 2)}))
	checkSet(t, "of rows with one group", table.Backed([]table.Row{row(0, 0, by(1, 2)), row(0, 1, by(3))}))
	checkSet(t, "of two groups", table.Backed([]table.Row{row(0, 0, by(1, 2), by(3))}), 1, 2)
	checkSet(t, "of three", table.Backed([]table.Row{row(0, 0, by(1, 2), by(127), by(4))}), 1, 2, 127)
	checkSet(t, "the last is ahead elsewhere", table.Backed([]table.Row{row(0, 0, by(1), by(2)), row(0, 1, by(2), by(3)), row(0, 2, by(64))}), 1, 2)
	checkSet(t, "one link in both groups", table.Backed([]table.Row{row(0, 0, by(1), by(1))}), 1)
	checkSet(t, "an empty group behind", table.Backed([]table.Row{row(0, 0, by(0, 9), by())}), 0, 9)
	checkSet(t, "an empty group ahead", table.Backed([]table.Row{row(0, 0, by(), by(4))}))
	checkSet(t, "of rows that fall", table.Backed([]table.Row{row(9, 9, by(7), by(8)), row(0, 0, by(6), by(5))}), 6, 7)
}

// P12.3: rows that may be.
func TestCheck(t *testing.T) {
	p := pair()
	checkNil(t, "no rows", table.Check(p, list(), nil))
	checkNil(t, "rows that are none", table.Check(p, list(), []table.Row{}))
	checkNil(t, "of the zero topology, and of no kinds", table.Check(topo.Topo{}, nil, nil))
	checkNil(t, "a row", table.Check(p, list(), []table.Row{row(0, 0, by(1))}))
	rows := []table.Row{
		row(0, 0, by(1, 3, 1), by(63), []table.Entry{entry(5, push(1), push(2))}),
		row(0, 1, []table.Entry{entry(1, pop), entry(3, swap(4), push(5))}),
		row(0, 5, []table.Entry{entry(1, pop, pop, pop)}),
		row(1, 0, by(0, 2)),
		row(62, 3, by(1)),
		row(63, 2, []table.Entry{entry(62, swap(5))}),
	}
	checkNil(t, "several", table.Check(p, list(), rows))
	loop := topo.Topo{Routers: []string{"a"}, Links: []topo.Link{{Name: "l"}}}
	checkNil(t, "a loop", table.Check(loop, []int{1}, []table.Row{row(0, 0, by(0))}))
}

// full: as many rows as may be, and more, of two routers' links and 4 labels.
func full(n int) []table.Row {
	var rows []table.Row
	for i := range n {
		in := i / 4
		rows = append(rows, row(in, i%4, by(1-in%2)))
	}
	return rows
}

// P12.3: 256 rows may be, more may not, whatever they are.
func TestCheckMany(t *testing.T) {
	checkNil(t, "256 rows", table.Check(pair(), list(), full(256)))
	for _, n := range []int{257, 258, 512, 1000} {
		checkFault(t, "more", table.Check(pair(), list(), full(n)), "table", api.ErrMany, 256)
		checkFault(t, "rows without anything", table.Check(pair(), list(), make([]table.Row, n)), "table", api.ErrMany, 256)
		rows := full(n)
		rows[0] = row(-1, -1)
		checkFault(t, "the first is wrong, too", table.Check(pair(), list(), rows), "table", api.ErrMany, 256)
		checkFault(t, "of no links", table.Check(topo.Topo{}, nil, rows), "table", api.ErrMany, 256)
	}
	rows := full(256)
	rows[255].Groups = nil
	checkFault(t, "the last of 256", table.Check(pair(), list(), rows), "table 255", api.ErrEmpty, 0)
}

// P12.3: an In that is no link.
func TestCheckIn(t *testing.T) {
	for _, in := range none() {
		checkFault(t, "the first", table.Check(pair(), list(), []table.Row{row(in, 0, by(1))}), "table 0", api.ErrNone, 0)
		checkFault(t, "the second", table.Check(pair(), list(), []table.Row{row(0, 0, by(1)), row(in, 0, by(1)), row(in, 0, by(1))}), "table 1", api.ErrNone, 0)
	}
	small := pair()
	small.Links = small.Links[:2]
	checkNil(t, "the last link", table.Check(small, list(), []table.Row{row(1, 0, by(0))}))
	checkFault(t, "one more", table.Check(small, list(), []table.Row{row(2, 0, by(1))}), "table 0", api.ErrNone, 0)
	checkFault(t, "of no links", table.Check(topo.Topo{}, list(), []table.Row{row(0, 0, by(0))}), "table 0", api.ErrNone, 0)
}

// P12.3: a Top that has no kind.
func TestCheckTop(t *testing.T) {
	for _, top := range append(none(), 6, 7, 8, 9) {
		checkFault(t, "the first", table.Check(pair(), list(), []table.Row{row(0, top, by(1))}), "table 0", api.ErrArg, 0)
		checkFault(t, "the third", table.Check(pair(), list(), append(full(2), row(1, top, by(0)))), "table 2", api.ErrArg, 0)
	}
	for _, kinds := range [][]int{nil, {}, {0}, {4}, {-1}, {1<<32 + 1}, list()[:0]} {
		checkFault(t, "of no kind", table.Check(pair(), kinds, []table.Row{row(0, 0, by(1))}), "table 0", api.ErrArg, 0)
	}
}

// P12.3: rows that fall, or are told twice.
func TestCheckOrder(t *testing.T) {
	rows := []struct {
		pairs string // of In and Top, a blank between rows
		at    int    // -1, where they may be
	}{
		{"00 01 02", -1},
		{"00 10 20", -1},
		{"05 10", -1},
		{"00 00", 1},
		{"01 00", 1},
		{"10 00", 1},
		{"10 05", 1},
		{"10 01", 1},
		{"15 15", 1},
		{"00 01 01 02", 2},
		{"00 20 10 30", 2},
		{"00 20 10 20", 2},
		{"05 14 13 23", 2},
		{"00 01 02 10 11 10", 5},
	}
	for _, r := range rows {
		var l []table.Row
		for _, p := range strings.Fields(r.pairs) {
			in := int(p[0] - '0')
			l = append(l, row(in, int(p[1]-'0'), by(1-in%2)))
		}
		err := table.Check(pair(), list(), l)
		if r.at < 0 {
			checkNil(t, r.pairs, err)
			continue
		}
		checkFault(t, r.pairs, err, "table "+strconv.Itoa(r.at), api.ErrOrder, 0)
	}
	many := full(256)
	many[200] = many[199]
	checkFault(t, "the 201st", table.Check(pair(), list(), many), "table 200", api.ErrOrder, 0)
	many = full(256)
	many[12], many[13] = many[13], many[12]
	checkFault(t, "two the other way round", table.Check(pair(), list(), many), "table 13", api.ErrOrder, 0)
}

// P12.3: rows without groups, with 8, and with more; groups without entries,
// with 8, and with more.
func TestCheckLengths(t *testing.T) {
	ask := func(groups ...[]table.Entry) error {
		return table.Check(pair(), list(), append(full(1), row(0, 1, groups...)))
	}
	eight := by(1, 3, 5, 7, 9, 11, 13, 13)
	checkFault(t, "no groups", ask(), "table 1", api.ErrEmpty, 0)
	checkFault(t, "groups that are none", ask([][]table.Entry{}...), "table 1", api.ErrEmpty, 0)
	checkNil(t, "one group", ask(by(1)))
	checkNil(t, "8 groups", ask(slices.Repeat([][]table.Entry{by(1)}, 8)...))
	checkFault(t, "an empty group", ask(nil), "table 1 0", api.ErrEmpty, 0)
	checkFault(t, "another", ask(by(1), by(1), []table.Entry{}, nil), "table 1 2", api.ErrEmpty, 0)
	checkNil(t, "8 entries", ask(eight))
	checkNil(t, "8 groups of 8 entries", ask(slices.Repeat([][]table.Entry{eight}, 8)...))
	for _, n := range []int{9, 10, 64, 1000} {
		checkFault(t, "more groups", ask(slices.Repeat([][]table.Entry{by(1)}, n)...), "table 1", api.ErrMany, 0)
		checkFault(t, "more groups, all empty", ask(make([][]table.Entry, n)...), "table 1", api.ErrMany, 0)
		checkFault(t, "more entries", ask(slices.Repeat(by(1), n)), "table 1 0", api.ErrMany, 0)
		checkFault(t, "more entries, all wrong", ask(by(1), slices.Repeat(by(-1), n)), "table 1 1", api.ErrMany, 0)
		checkFault(t, "more of both", ask(slices.Repeat([][]table.Entry{slices.Repeat(by(1), n)}, n)...), "table 1", api.ErrMany, 0)
	}
	checkFault(t, "the 8th of 8 groups is empty", ask(append(slices.Repeat([][]table.Entry{by(1)}, 7), nil)...), "table 1 7", api.ErrEmpty, 0)
}

// P12.3: an Out that is no link, or begins elsewhere than where In ends.
func TestCheckOut(t *testing.T) {
	for _, out := range none() {
		checkFault(t, "no link", table.Check(pair(), list(), []table.Row{row(0, 0, by(out))}), "table 0 0 0", api.ErrNone, 0)
		checkFault(t, "no link, further on", table.Check(pair(), list(), append(full(3), row(1, 0, by(0), by(0, 2, out)))), "table 3 1 2", api.ErrNone, 0)
	}
	three := topo.Topo{Routers: []string{"a", "b", "c"}}
	for i := range 9 {
		three.Links = append(three.Links, topo.Link{Name: "l" + strconv.Itoa(i), From: i / 3, To: i % 3})
	}
	for in := range 9 {
		for out := range 9 {
			rows := []table.Row{row(in, 0, by(out))}
			what := strconv.Itoa(in) + " to " + strconv.Itoa(out)
			if in%3 == out/3 {
				checkNil(t, what, table.Check(three, list(), rows))
			} else {
				checkFault(t, what, table.Check(three, list(), rows), "table 0 0 0", api.ErrPlace, 0)
			}
		}
	}
	checkFault(t, "out by where it came in", table.Check(pair(), list(), []table.Row{row(0, 0, by(1, 0))}), "table 0 0 1", api.ErrPlace, 0)
	checkFault(t, "further on", table.Check(pair(), list(), []table.Row{row(0, 0, by(1), by(1, 3), by(1, 1, 1, 2))}), "table 0 2 3", api.ErrPlace, 0)
}

// P12.3: each fault that a chain can have, with its place.
func TestCheckChain(t *testing.T) {
	rows := []struct {
		top   int
		chain []ops.Op
		code  api.Errno
		at    int
	}{
		{0, nil, api.OK, 0},
		{0, slices.Repeat([]ops.Op{swap(3)}, 8), api.OK, 0},
		{0, slices.Repeat([]ops.Op{swap(3)}, 9), api.ErrMany, 8},
		{0, slices.Repeat([]ops.Op{{Kind: 4}}, 20), api.ErrMany, 8},
		{0, []ops.Op{pop}, api.ErrKind, 0},
		{1, []ops.Op{pop, pop}, api.ErrKind, 1},
		{2, []ops.Op{pop, pop, pop}, api.OK, 0},
		{2, []ops.Op{pop, pop, pop, pop}, api.OK, 0},
		{1, []ops.Op{push(2), swap(5), swap(4)}, api.ErrKind, 2},
		{1, []ops.Op{push(1)}, api.ErrKind, 0},
		{0, []ops.Op{push(1), push(6)}, api.ErrArg, 1},
		{0, []ops.Op{swap(-1)}, api.ErrArg, 0},
		{0, []ops.Op{push(1), push(2), push(2), push(2), push(2), push(2), push(2), {Kind: 0}}, api.ErrArg, 7},
		{0, []ops.Op{push(1), {Kind: 4, Label: 2}}, api.ErrArg, 1},
		{1, []ops.Op{{Kind: 1, Label: -5}}, api.OK, 0},
	}
	for _, r := range rows {
		e := entry(1, r.chain...)
		first := []table.Row{row(0, r.top, []table.Entry{e})}
		later := []table.Row{row(0, 5, by(1)), row(62, r.top, by(1), by(3), []table.Entry{entry(5), e})}
		what := text(first...)
		if r.code == api.OK {
			checkNil(t, what, table.Check(pair(), list(), first))
			checkNil(t, what, table.Check(pair(), list(), later))
			continue
		}
		checkFault(t, what, table.Check(pair(), list(), first), "table 0 0 0", r.code, r.at)
		checkFault(t, what, table.Check(pair(), list(), later), "table 1 2 1", r.code, r.at)
	}
}

// P12.3: places in digits, each of its own list, also of several digits.
func TestCheckWords(t *testing.T) {
	for i := range 256 {
		rows := full(256)
		g, k := i%8, i/8%8
		for range g {
			rows[i].Groups = append(rows[i].Groups, rows[i].Groups[0])
		}
		out := rows[i].Groups[0][0].Out
		last := slices.Repeat(by(out), k+1)
		last[k].Ops = []ops.Op{{Kind: 9}}
		rows[i].Groups[g] = last
		where := []string{"table", strconv.Itoa(i), strconv.Itoa(g), strconv.Itoa(k)}
		checkFault(t, "an op", table.Check(pair(), list(), rows), strings.Join(where, " "), api.ErrArg, 0)
		last[k].Out = -1
		checkFault(t, "an entry", table.Check(pair(), list(), rows), strings.Join(where, " "), api.ErrNone, 0)
		rows[i].Groups[g] = nil
		checkFault(t, "a group", table.Check(pair(), list(), rows), strings.Join(where[:3], " "), api.ErrEmpty, 0)
		rows[i].In = 64
		checkFault(t, "a row", table.Check(pair(), list(), rows), strings.Join(where[:2], " "), api.ErrNone, 0)
	}
}

// P12.3: of several faults the first: a row's own ahead of its groups', a
// group's own ahead of its entries', each thing's ahead of the next one's.
func TestCheckFirst(t *testing.T) {
	bad := entry(-1, slices.Repeat([]ops.Op{{Kind: 7}}, 9)...)
	elsewhere := entry(0, ops.Op{Kind: 7})
	many := slices.Repeat([]table.Entry{bad}, 9)
	groups := slices.Repeat([][]table.Entry{many}, 9)
	fine := row(2, 2, by(1))
	rows := []struct {
		what  string
		rows  []table.Row
		words string
		code  api.Errno
		at    int
	}{
		{"no In, and all else", []table.Row{fine, row(-1, 6, groups...)}, "table 1", api.ErrNone, 0},
		{"no In, that falls", []table.Row{fine, row(-1, 0, by(1))}, "table 1", api.ErrNone, 0},
		{"no Top, and all else", []table.Row{fine, row(0, 6, groups...)}, "table 1", api.ErrArg, 0},
		{"it falls, and all else", []table.Row{fine, row(2, 1, groups...)}, "table 1", api.ErrOrder, 0},
		{"it falls, without groups", []table.Row{fine, row(2, 2)}, "table 1", api.ErrOrder, 0},
		{"too many groups", []table.Row{fine, row(2, 3, groups...)}, "table 1", api.ErrMany, 0},
		{"too many entries", []table.Row{fine, row(2, 3, by(1), many)}, "table 1 1", api.ErrMany, 0},
		{"an empty group ahead of others", []table.Row{fine, row(2, 3, by(1), nil, many)}, "table 1 1", api.ErrEmpty, 0},
		{"no Out, and a chain", []table.Row{row(0, 0, []table.Entry{bad, elsewhere})}, "table 0 0 0", api.ErrNone, 0},
		{"elsewhere, and a chain", []table.Row{row(0, 0, []table.Entry{elsewhere, bad})}, "table 0 0 0", api.ErrPlace, 0},
		{"an entry ahead of an empty group", []table.Row{row(0, 0, []table.Entry{elsewhere}, nil)}, "table 0 0 0", api.ErrPlace, 0},
		{"a chain ahead of the next entry", []table.Row{row(0, 0, []table.Entry{entry(1, pop), bad})}, "table 0 0 0", api.ErrKind, 0},
		{"a chain ahead of the next group", []table.Row{row(0, 0, []table.Entry{entry(1, pop)}, many)}, "table 0 0 0", api.ErrKind, 0},
		{"a chain ahead of the next row", []table.Row{row(0, 0, []table.Entry{entry(1, swap(3), pop)}), row(-1, 0)}, "table 0 0 0", api.ErrKind, 1},
		{"an empty group ahead of the next row", []table.Row{row(2, 0, nil), row(0, 0)}, "table 0 0", api.ErrEmpty, 0},
		{"no groups ahead of the next row", []table.Row{row(2, 0), row(-1, 6)}, "table 0", api.ErrEmpty, 0},
	}
	for _, r := range rows {
		checkFault(t, r.what, table.Check(pair(), list(), r.rows), r.words, r.code, r.at)
	}
}

// next: a number below n, of a row that a rule makes.
func next(seed *uint32, n int) int {
	*seed = *seed*1664525 + 1013904223
	return int(*seed>>8) % n
}

// some: a row of few groups and entries, that a rule picks.
func some(seed *uint32) table.Row {
	links := []int{0, 1, 2, 3, 63, 64, 127}
	r := row(next(seed, 3), next(seed, 3))
	for range next(seed, 5) {
		var group []table.Entry
		for range next(seed, 4) {
			group = append(group, entry(links[next(seed, len(links))], push(len(group))))
		}
		r.Groups = append(r.Groups, group)
	}
	return r
}

// someFailed: links that failed, that a rule picks.
func someFailed(seed *uint32) bits.Set {
	var failed bits.Set
	for i := range bits.Of(0, 1, 2, 3, 63, 64, 127).All() {
		if next(seed, 2) == 0 {
			failed = failed.With(i)
		}
	}
	return failed
}

// alive: the entries of a group whose links didn't fail.
func alive(group []table.Entry, failed bits.Set) []table.Entry {
	return slices.DeleteFunc(slices.Clone(group), func(e table.Entry) bool { return failed.Has(e.Out) })
}

// P12.1, P12.4: what is active and goes out, told as the chapter tells it.
func TestActiveSlow(t *testing.T) {
	seed, later := uint32(3), 0
	for range 4000 {
		r, failed := some(&seed), someFailed(&seed)
		active := slices.IndexFunc(r.Groups, func(group []table.Entry) bool { return len(alive(group, failed)) > 0 })
		want := "[]"
		if active >= 0 {
			want = groupText(alive(r.Groups[active], failed))
		}
		checkNext(t, r, failed, active, want)
		if active > 0 {
			later++
		}
		for _, e := range r.Next(failed) {
			check(t, "what goes out goes by what didn't fail", failed.Has(e.Out), false)
		}
		if active >= 0 {
			check(t, "what is needed failed", r.Need(active).Under(failed), true)
			check(t, "some of its links didn't", r.Links(active).Under(failed), false)
		} else {
			check(t, "all failed", r.Need(len(r.Groups)).Under(failed), true)
		}
	}
	check(t, "many are later ones", later > 300, true)
}

// P12.4: as more links fail, the active group is no earlier one, and of the
// same one no more goes out.
func TestMoreFailed(t *testing.T) {
	seed, moved := uint32(5), 0
	for range 4000 {
		r, failed := some(&seed), someFailed(&seed)
		more := failed.Or(someFailed(&seed))
		a, b := r.Active(failed), r.Active(more)
		if a < 0 {
			check(t, "none is active any more", b, -1)
			continue
		}
		check(t, "no earlier one", b < 0 || b >= a, true)
		if a == b {
			check(t, "what is left", groupText(alive(r.Next(failed), more)), groupText(r.Next(more)))
		} else {
			moved++
			check(t, "all of it failed", len(alive(r.Next(failed), more)), 0)
		}
	}
	check(t, "many moved", moved > 500, true)
}

// P12.2: Backed, and Need behind the last but one.
func TestBackedSlow(t *testing.T) {
	seed := uint32(11)
	for range 1000 {
		var rows []table.Row
		var want bits.Set
		for range next(&seed, 4) {
			r := some(&seed)
			for g := range r.Groups {
				for _, e := range r.Groups[g] {
					if g+1 < len(r.Groups) {
						want = want.With(e.Out)
					}
				}
			}
			rows = append(rows, r)
		}
		check(t, "Backed of "+text(rows...), table.Backed(rows), want)
	}
}

// roomy: rows whose lists all have spare room.
func roomy() []table.Row {
	chain := append(make([]ops.Op, 0, 9), push(1), push(2), ops.Op{Kind: 8})[:2]
	group := append(make([]table.Entry, 0, 9), entry(1, chain...), entry(3, swap(3)), entry(9))[:2]
	groups := append(make([][]table.Entry, 0, 9), group, group, by(7))[:2]
	return append(make([]table.Row, 0, 9), row(0, 0, groups...), row(0, 3, groups...), row(8, 8))[:2]
}

// whole: all that rows are, spare room included.
func whole(rows []table.Row) string {
	s := ""
	for _, r := range rows[:cap(rows)] {
		s += text(r)
		for _, group := range r.Groups[:cap(r.Groups)] {
			s += "|" + groupText(group)
			for _, e := range group[:cap(group)] {
				s += ";" + groupText([]table.Entry{{Out: e.Out, Ops: e.Ops[:cap(e.Ops)]}})
			}
		}
	}
	return s
}

// The rule of memory: what is handed in stays, spare room included.
func TestMemory(t *testing.T) {
	rows, p, kinds := roomy(), pair(), append(list(), 9, 9)
	want, links := whole(rows), slices.Clone(p.Links)
	checkNil(t, "Check", table.Check(p, kinds[:8], rows))
	table.Backed(rows)
	for _, r := range rows {
		for g := range 4 {
			r.Links(g)
			r.Need(g)
		}
		r.Active(bits.Of(1))
		r.Next(bits.Of(1))
		r.Next(bits.Set{})
		table.Find(rows, r.In, r.Top)
	}
	check(t, "rows", whole(rows), want)
	check(t, "links", slices.Equal(p.Links, links), true)
	check(t, "kinds", slices.Equal(kinds, append(list(), 9, 9)), true)
}

// spoil: changes all that a group's memory has, spare room included.
func spoil(group []table.Entry) {
	group = group[:cap(group)]
	for i := range group {
		chain := group[i].Ops[:cap(group[i].Ops)]
		for k := range chain {
			chain[k] = ops.Op{Kind: -7, Label: -7}
		}
		group[i].Out = -7
	}
}

// The rule of memory: what Next and Find answer shares nothing with what was
// handed in, with another answer, and within itself.
func TestAnswersMemory(t *testing.T) {
	rows := roomy()
	want := whole(rows)
	first := rows[0].Next(bits.Set{})
	second := rows[0].Next(bits.Set{})
	check(t, "Next", groupText(first), "[1,3/1,3/2 3,2/3]")
	spoil(first)
	check(t, "another Next", groupText(second), "[1,3/1,3/2 3,2/3]")
	check(t, "rows behind Next", whole(rows), want)

	one, _ := table.Find(rows, 0, 0)
	two, _ := table.Find(rows, 0, 0)
	spoil(one.Groups[0])
	check(t, "another group of it", groupText(one.Groups[1]), "[1,3/1,3/2 3,2/3]")
	all := one.Groups[:cap(one.Groups)]
	for i := range all {
		all[i] = nil
	}
	check(t, "another Find", text(two), text(rows[0]))
	check(t, "rows behind Find", whole(rows), want)

	found := text(two)
	spoil(rows[0].Groups[0])
	rows[0].Groups[1] = nil
	check(t, "what was found, once rows were changed", text(two), found)
	check(t, "what went out, once rows were changed", groupText(second), "[1,3/1,3/2 3,2/3]")
	same := []ops.Op{push(1)}
	shared := row(0, 0, []table.Entry{entry(1, same...), entry(3, same...)})
	answer := shared.Next(bits.Set{})
	answer[0].Ops[0] = pop
	check(t, "entries of one chain", groupText(answer), "[1,1/0 3,3/1]")
}
