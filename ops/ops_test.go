package ops_test

import (
	"math"
	"regexp"
	"slices"
	"strconv"
	"strings"
	"testing"

	"fairlead/api"
	"fairlead/header"
	"fairlead/oops"
	"fairlead/ops"
)

func check[T comparable](t *testing.T, what string, got, want T) {
	t.Helper()
	if got != want {
		t.Errorf("%s: got %v, want %v", what, got, want)
	}
}

// checkFault: is it just a fault of both, within no words?
func checkFault(t *testing.T, what string, err error, code api.Errno, at int) {
	t.Helper()
	f, ok := err.(*oops.Fault)
	if !ok || f == nil {
		t.Errorf("%s: %v is no fault, want %d at %d", what, err, code, at)
		return
	}
	check(t, what, *f, oops.Fault{Code: code, At: at})
}

// checkNil: is it no error?
func checkNil(t *testing.T, what string, err error) {
	t.Helper()
	if err != nil {
		t.Errorf("%s: %v, want nil", what, err)
	}
}

// checkDo: does a chain make just this of a header?
func checkDo(t *testing.T, kinds, h []int, chain []ops.Op, want ...int) {
	t.Helper()
	got, ok := ops.Do(kinds, h, chain)
	check(t, digits(h...)+": "+text(chain)+" can be done", ok, true)
	check(t, digits(h...)+": "+text(chain), digits(got...), digits(want...))
}

// checkNot: can't a chain be done to a header?
func checkNot(t *testing.T, kinds, h []int, chain []ops.Op) {
	t.Helper()
	got, ok := ops.Do(kinds, h, chain)
	check(t, digits(h...)+": "+text(chain)+" can be done", ok, false)
	check(t, digits(h...)+": labels beside false", len(got), 0)
}

func digits(l ...int) string {
	var words []string
	for _, i := range l {
		words = append(words, strconv.Itoa(i))
	}
	return strings.Join(words, " ")
}

// text: a chain's, of a long one the first ops'.
func text(chain []ops.Op) string {
	var words []string
	for _, op := range chain[:min(len(chain), 10)] {
		words = append(words, strconv.Itoa(op.Kind)+"/"+strconv.Itoa(op.Label))
	}
	return "[" + strings.Join(words, " ") + "]"
}

var pop = ops.Op{Kind: 1}

func swap(label int) ops.Op { return ops.Op{Kind: 2, Label: label} }

func push(label int) ops.Op { return ops.Op{Kind: 3, Label: label} }

func of(chain ...ops.Op) []ops.Op { return chain }

// times: an op so many times.
func times(n int, op ops.Op) []ops.Op { return slices.Repeat(of(op), n) }

// list: 0 and 3 are ips, 1 and 4 smpls, 2 and 5 mpls, 6 and 7 have no kind.
func list() []int { return []int{1, 2, 3, 1, 2, 3, 0, 4} }

// high: a header with so many labels, of which 0 is the last.
func high(n int) []int {
	var h []int
	for i := range n {
		h = append(h, min(n-1-i, 2))
	}
	return h
}

// noKinds are numbers of which there is no kind of an op.
func noKinds() []int {
	return []int{0, -1, -2, -3, 4, 5, 64, 255, 1<<8 + 1, 1<<16 + 2, 1<<32 + 1, 1<<32 + 3, -1<<32 + 1, math.MinInt, math.MinInt + 1, math.MaxInt}
}

// noLabels are labels that have no kind in list.
func noLabels() []int {
	return []int{-1, -2, 6, 7, 8, 9, 64, 1 << 32, 1<<32 + 1, -1 << 32, math.MinInt, math.MinInt + 2, math.MaxInt}
}

// some are ops of each kind, of each kind of label, and wrong ones.
func some() []ops.Op {
	l := of(pop, swap(0), swap(1), swap(2), push(0), push(1), push(2), ops.Op{}, ops.Op{Kind: 4, Label: 1})
	return append(l, swap(4), push(5), swap(6), push(-1), ops.Op{Kind: 1, Label: -1})
}

// good are those that can be done to some header.
func good() []ops.Op { return of(pop, swap(0), swap(1), swap(2), push(1), push(2)) }

// chains: all of so many ops of a list.
func chains(l []ops.Op, n int) [][]ops.Op {
	if n == 0 {
		return [][]ops.Op{nil}
	}
	var all [][]ops.Op
	for _, rest := range chains(l, n-1) {
		for _, op := range l {
			all = append(all, append(slices.Clone(rest), op))
		}
	}
	return all
}

// shape is how the kinds of a header stand that may be.
var shape = regexp.MustCompile(`^(3*2)?1$`)

// may: may a header be, by the shape?
func may(kinds, h []int) bool {
	var s strings.Builder
	for _, label := range h {
		kind := 0
		if label >= 0 && label < len(kinds) {
			kind = kinds[label]
		}
		s.WriteString(strconv.Itoa(kind) + " ")
	}
	return shape.MatchString(strings.ReplaceAll(s.String(), " ", ""))
}

// slow: what Do must do: each op is done as it is told, at the list's front,
// and then looked at whether what came of it may be.
func slow(kinds, h []int, chain []ops.Op) ([]int, bool) {
	if !may(kinds, h) {
		return nil, false
	}
	for _, op := range chain {
		switch op.Kind {
		case 1:
			h = h[1:]
		case 2:
			h = append([]int{op.Label}, h[1:]...)
		case 3:
			h = append([]int{op.Label}, h...)
		default:
			return nil, false
		}
		if !may(kinds, h) {
			return nil, false
		}
	}
	return h, true
}

// tried: what Check must tell of a chain of at most 8 ops and a top that has a
// kind, by trying all headers with that top, of labels that have all kinds.
func tried(kinds []int, top int, chain []ops.Op) (api.Errno, int) {
	for i, op := range chain {
		labelled := op.Label >= 0 && op.Label < len(kinds) && kinds[op.Label] >= 1 && kinds[op.Label] <= 3
		if op.Kind < 1 || op.Kind > 3 || op.Kind != 1 && !labelled {
			return api.ErrArg, i
		}
		there := false
		for n := 1; n <= 10; n++ {
			more := append(slices.Clone(kinds), 1, 2, 3)
			h := high(n)
			for k := range h {
				h[k] += len(kinds)
			}
			h[0] = top
			_, ok := slow(more, h, chain[:i+1])
			there = there || ok
		}
		if !there {
			return api.ErrKind, i
		}
	}
	return api.OK, 0
}

// checkTried: does Check tell what is found by trying?
func checkTried(t *testing.T, kinds []int, top int, chain []ops.Op) {
	t.Helper()
	what := "kinds " + digits(kinds...) + ", top " + digits(top) + ": " + text(chain)
	code, at := tried(kinds, top, chain)
	if code == api.OK {
		checkNil(t, what, ops.Check(kinds, top, chain))
		return
	}
	checkFault(t, what, ops.Check(kinds, top, chain), code, at)
}

// The kinds' numbers, and the form of the type.
func TestForm(t *testing.T) {
	check(t, "Pop", ops.Pop, 1)
	check(t, "Swap", ops.Swap, 2)
	check(t, "Push", ops.Push, 3)
	check(t, "an op", ops.Op{1, 2}, ops.Op{Kind: 1, Label: 2})
	check(t, "MaxOps", api.MaxOps, 8)
}

// P10.1: a chain without ops does nothing.
func TestDoNothing(t *testing.T) {
	for n := 1; n < 6; n++ {
		checkDo(t, list(), high(n), nil, high(n)...)
		checkDo(t, list(), high(n), []ops.Op{}, high(n)...)
	}
	for _, h := range [][]int{nil, {}, {1}, {2, 0}, {0, 0}, {6}, {-1}, {8}, {1, 1, 0}} {
		checkNot(t, list(), h, nil)
	}
}

// P10.1: Pop of each kind of top, and of the last label.
func TestDoPop(t *testing.T) {
	checkDo(t, list(), []int{1, 0}, of(pop), 0)
	checkDo(t, list(), []int{2, 1, 0}, of(pop), 1, 0)
	checkDo(t, list(), []int{5, 2, 4, 3}, of(pop), 2, 4, 3)
	checkDo(t, list(), []int{2, 1, 0}, of(pop, pop), 0)
	checkNot(t, list(), []int{0}, of(pop))
	checkNot(t, list(), []int{1, 0}, of(pop, pop))
	checkNot(t, list(), []int{2, 1, 0}, of(pop, pop, pop))
	checkNot(t, list(), []int{2, 1, 0}, of(pop, pop, pop, pop))
}

// P10.1: a Pop's label doesn't count.
func TestDoPopOfAnyLabel(t *testing.T) {
	for _, label := range append(noLabels(), 0, 1, 2, 3, 4, 5) {
		op := ops.Op{Kind: 1, Label: label}
		checkDo(t, list(), []int{1, 0}, of(op), 0)
		checkDo(t, list(), []int{2, 1, 0}, of(op), 1, 0)
		checkNot(t, list(), []int{0}, of(op))
	}
}

// P10.1: Swap to the same kind, and to each other one.
func TestDoSwap(t *testing.T) {
	for _, h := range [][]int{{0}, {1, 0}, {2, 1, 0}, {2, 5, 4, 3}} {
		for label := range 6 {
			if label%3 == h[0] {
				checkDo(t, list(), h, of(swap(label)), append([]int{label}, h[1:]...)...)
			} else {
				checkNot(t, list(), h, of(swap(label)))
			}
		}
		for _, label := range noLabels() {
			checkNot(t, list(), h, of(swap(label)))
		}
	}
}

// P10.1: Push of each kind onto each.
func TestDoPush(t *testing.T) {
	for _, h := range [][]int{{0}, {1, 0}, {2, 1, 0}, {2, 5, 4, 3}} {
		for label := range 6 {
			if label%3 == 1 && h[0] == 0 || label%3 == 2 && h[0] != 0 {
				checkDo(t, list(), h, of(push(label)), append([]int{label}, h...)...)
			} else {
				checkNot(t, list(), h, of(push(label)))
			}
		}
		for _, label := range noLabels() {
			checkNot(t, list(), h, of(push(label)))
		}
	}
}

// P10.1: an op of an unknown kind can't be done.
func TestDoUnknown(t *testing.T) {
	for _, kind := range noKinds() {
		for _, h := range [][]int{{0}, {1, 0}, {2, 1, 0}} {
			for label := -1; label < 4; label++ {
				op := ops.Op{Kind: kind, Label: label}
				checkNot(t, list(), h, of(op))
				checkNot(t, list(), h, of(swap(h[0]), op))
				checkNot(t, list(), h, of(op, swap(h[0])))
			}
		}
	}
}

// P10.1: several ops, each done to what came of those ahead.
func TestDoSome(t *testing.T) {
	checkDo(t, list(), []int{0}, of(push(1), push(2), swap(5), push(2)), 2, 5, 1, 0)
	checkDo(t, list(), []int{0}, of(swap(3), push(4), pop, push(1), swap(4)), 4, 3)
	checkDo(t, list(), []int{2, 1, 0}, of(pop, swap(4), pop, push(1), push(5)), 5, 1, 0)
	checkDo(t, list(), []int{2, 2, 1, 0}, of(pop, pop, pop), 0)
	checkNot(t, list(), []int{0}, of(push(2), pop))
	checkNot(t, list(), []int{0}, of(push(1), pop, pop, push(1)))
	checkNot(t, list(), []int{2, 1, 0}, of(pop, swap(5), swap(4)))
	checkNot(t, list(), []int{0}, of(push(1), push(2), push(2), push(6)))
	checkNot(t, list(), []int{0}, of(push(1), push(2), push(2), push(1), pop))
}

// P10.1: chains of 8 ops, and of more, are done as well.
func TestDoLong(t *testing.T) {
	for _, n := range []int{7, 8, 9, 10, 64, 100000} {
		checkDo(t, list(), []int{1, 0}, times(n, push(2)), high(n+2)...)
		checkDo(t, list(), high(n+2), times(n, pop), 1, 0)
		checkDo(t, list(), high(n+2), times(n+1, pop), 0)
		checkNot(t, list(), high(n+2), times(n+2, pop))
		checkDo(t, list(), []int{2, 1, 0}, times(n, swap(5)), 5, 1, 0)
		checkNot(t, list(), []int{0}, append(times(n, swap(3)), pop))
	}
}

// P10.1: of headers that may not be nothing comes, though the ops could be
// done to their tops.
func TestDoToWhatMayNotBe(t *testing.T) {
	for _, h := range [][]int{nil, {}, {1}, {2}, {2, 0}, {2, 1}, {1, 1, 0}, {1, 2, 1, 0}, {2, 6, 1, 0}, {2, 1, 6}, {2, 1, -1}, {6, 1, 0}, {2, 1, 0, 0}} {
		for _, op := range some() {
			checkNot(t, list(), h, of(op))
			checkNot(t, list(), h, of(op, op))
		}
	}
	for _, kinds := range [][]int{nil, {}, {0, 4, -1}} {
		for _, h := range [][]int{nil, {0}, {1, 0}, {2, 1, 0}} {
			for _, op := range some() {
				checkNot(t, kinds, h, of(op))
			}
		}
	}
}

// P10.1: all chains of up to 4 ops, as they are told.
func TestDoAll(t *testing.T) {
	for n := range 5 {
		for _, chain := range chains(some(), n) {
			for _, h := range [][]int{{0}, {1, 0}, {2, 1, 0}, {2, 5, 4, 3}, {2, 0}} {
				want, can := slow(list(), h, chain)
				if can {
					checkDo(t, list(), h, chain, want...)
				} else {
					checkNot(t, list(), h, chain)
				}
			}
		}
	}
}

// P10.1, and the rule of memory: what is handed in stays, spare room included,
// and what is answered is new.
func TestDoMemory(t *testing.T) {
	for _, chain := range [][]ops.Op{nil, of(swap(5)), of(pop), of(push(5)), of(pop, push(5)), of(pop, pop, swap(3)), of(pop, pop, pop), of(push(5), push(2), pop, swap(2), swap(0))} {
		kinds := append(list(), 9, 8)
		h := []int{2, 1, 0, 7, 7, 7}
		ask := append(slices.Clone(chain), push(1), push(1))
		got, ok := ops.Do(kinds[:8], h[:3], ask[:len(chain)])
		check(t, "kinds", digits(kinds...), digits(append(list(), 9, 8)...))
		check(t, "header", digits(h...), "2 1 0 7 7 7")
		check(t, "chain", text(ask), text(append(slices.Clone(chain), push(1), push(1))))
		if !ok {
			continue
		}
		want := digits(got...)
		again, _ := ops.Do(kinds[:8], h[:3], ask[:len(chain)])
		h[0], h[1], h[2] = 6, 6, 6
		check(t, "once the header was changed", digits(got...), want)
		for i := range again[:cap(again)] {
			again[:cap(again)][i] = 9
		}
		check(t, "once another answer was changed", digits(got...), want)
		check(t, "the header", digits(h...), "6 6 6 7 7 7")
	}
}

// P10.2: chains that can be done to some header of a top.
func TestCheck(t *testing.T) {
	for top := range 6 {
		checkNil(t, "no ops", ops.Check(list(), top, nil))
		checkNil(t, "an empty chain", ops.Check(list(), top, []ops.Op{}))
		for label := range 6 {
			same := top%3 == label%3
			onto := label%3 == 1 && top%3 == 0 || label%3 == 2 && top%3 != 0
			if same {
				checkNil(t, "a Swap to the same kind", ops.Check(list(), top, of(swap(label))))
			} else {
				checkFault(t, "a Swap to another one", ops.Check(list(), top, of(swap(label))), api.ErrKind, 0)
			}
			if onto {
				checkNil(t, "a Push that may be", ops.Check(list(), top, of(push(label))))
			} else {
				checkFault(t, "a Push that may not be", ops.Check(list(), top, of(push(label))), api.ErrKind, 0)
			}
		}
	}
	checkFault(t, "a Pop of an ip", ops.Check(list(), 0, of(pop)), api.ErrKind, 0)
	checkNil(t, "a Pop of an smpls", ops.Check(list(), 1, of(pop)))
	checkNil(t, "a Pop of an mpls", ops.Check(list(), 2, of(pop)))
}

// P10.2: a top that has no kind, whatever else is wrong.
func TestCheckTop(t *testing.T) {
	for _, top := range noLabels() {
		for _, chain := range [][]ops.Op{nil, of(pop), of(swap(0)), of(push(1)), of(ops.Op{}), of(push(6)), times(9, swap(0)), times(9, push(6))} {
			checkFault(t, "top "+digits(top)+": "+text(chain), ops.Check(list(), top, chain), api.ErrArg, -1)
		}
	}
	for _, kinds := range [][]int{nil, {}, {0}, {4}, {-1}, {math.MinInt}, {1<<32 + 1}, list()[:0]} {
		checkFault(t, "of kinds "+digits(kinds...), ops.Check(kinds, 0, nil), api.ErrArg, -1)
		checkFault(t, "of kinds "+digits(kinds...)+", a Pop", ops.Check(kinds, 0, of(pop)), api.ErrArg, -1)
	}
}

// P10.2: 8 ops may be, more may not, whatever they are.
func TestCheckMany(t *testing.T) {
	checkNil(t, "8 Pushes", ops.Check(list(), 1, times(8, push(2))))
	checkNil(t, "8 Swaps", ops.Check(list(), 0, times(8, swap(3))))
	checkNil(t, "8 Pops", ops.Check(list(), 2, times(8, pop)))
	checkFault(t, "the 8th is wrong", ops.Check(list(), 1, append(times(7, push(2)), push(1))), api.ErrKind, 7)
	checkFault(t, "the 8th is unknown", ops.Check(list(), 1, append(times(7, push(2)), ops.Op{})), api.ErrArg, 7)
	for _, n := range []int{9, 10, 16, 64, 100000} {
		for _, op := range some() {
			for top := range 3 {
				checkFault(t, digits(n)+" ops", ops.Check(list(), top, times(n, op)), api.ErrMany, 8)
			}
		}
	}
	checkFault(t, "9, the 9th is wrong", ops.Check(list(), 0, append(times(8, swap(0)), pop)), api.ErrMany, 8)
	checkFault(t, "9, the first is unknown", ops.Check(list(), 0, append(of(ops.Op{Kind: 7}), times(8, swap(0))...)), api.ErrMany, 8)
}

// P10.2: an op of no kind, or whose label has none.
func TestCheckArg(t *testing.T) {
	for _, kind := range noKinds() {
		for label := -1; label < 3; label++ {
			op := ops.Op{Kind: kind, Label: label}
			checkFault(t, "alone", ops.Check(list(), 0, of(op)), api.ErrArg, 0)
			checkFault(t, "behind others", ops.Check(list(), 0, of(push(1), push(2), op, op)), api.ErrArg, 2)
		}
	}
	for _, label := range noLabels() {
		for top := range 3 {
			checkFault(t, "Swap "+digits(label), ops.Check(list(), top, of(swap(label))), api.ErrArg, 0)
			checkFault(t, "Push "+digits(label), ops.Check(list(), top, of(push(label))), api.ErrArg, 0)
			checkFault(t, "behind another", ops.Check(list(), top, of(swap(top), swap(label))), api.ErrArg, 1)
		}
		op := ops.Op{Kind: 1, Label: label}
		checkNil(t, "a Pop's label", ops.Check(list(), 2, of(op, op, push(1), op)))
		checkFault(t, "a Pop's label, of an ip", ops.Check(list(), 0, of(op)), api.ErrKind, 0)
	}
}

// P10.2: of the first op at which something is wrong, the first thing.
func TestCheckFirst(t *testing.T) {
	unknown := ops.Op{Kind: 4, Label: 2}
	rows := []struct {
		top   int
		chain []ops.Op
		code  api.Errno
		at    int
	}{
		{0, of(pop, unknown), api.ErrKind, 0},
		{0, of(unknown, pop), api.ErrArg, 0},
		{0, of(pop, swap(6)), api.ErrKind, 0},
		{0, of(swap(6), pop), api.ErrArg, 0},
		{0, of(push(-1), push(2)), api.ErrArg, 0},
		{0, of(push(2), push(-1)), api.ErrKind, 0},
		{0, of(push(1), push(2), swap(1), unknown, push(6)), api.ErrKind, 2},
		{0, of(push(1), push(2), swap(5), unknown, push(1)), api.ErrArg, 3},
		{0, of(push(1), push(6), unknown, pop), api.ErrArg, 1},
		{1, of(pop, pop, pop, unknown), api.ErrKind, 1},
		{1, of(push(2), pop, pop, swap(3), pop, push(8)), api.ErrKind, 4},
		{2, of(push(2), swap(2), push(1), swap(7)), api.ErrKind, 2},
		{1, append(of(push(2), swap(1)), times(6, unknown)...), api.ErrKind, 1},
	}
	for _, r := range rows {
		checkFault(t, "top "+digits(r.top)+": "+text(r.chain), ops.Check(list(), r.top, r.chain), r.code, r.at)
	}
}

// P10.2: what is told of labels that come to the top, of which nothing was laid.
func TestCheckBelow(t *testing.T) {
	may := [][]ops.Op{
		of(pop, pop),
		of(pop, swap(1)),
		of(pop, swap(2)),
		of(pop, push(2)),
		of(pop, pop, swap(0)),
		of(pop, pop, swap(4)),
		of(pop, pop, push(1)),
		of(pop, pop, push(2)),
		of(pop, push(2), pop, swap(1), pop, swap(0)),
		of(pop, push(2), pop, swap(2), pop, pop),
		of(pop, pop, push(1), push(2), pop, pop, swap(3)),
		of(swap(5), pop, swap(5), pop, swap(4), pop),
	}
	for _, chain := range may {
		checkNil(t, "of an mpls: "+text(chain), ops.Check(list(), 2, chain))
	}
	rows := []struct {
		top   int
		chain []ops.Op
		at    int
	}{
		{1, of(pop, pop), 1},
		{1, of(pop, swap(1)), 1},
		{1, of(pop, swap(2)), 1},
		{1, of(pop, push(2)), 1},
		{1, of(swap(4), pop, swap(0), pop), 3},
		{2, of(pop, swap(0)), 1},
		{2, of(pop, push(1)), 1},
		{2, of(pop, swap(1), swap(2)), 2},
		{2, of(pop, swap(1), pop, pop), 3},
		{2, of(pop, swap(1), pop, swap(1)), 3},
		{2, of(pop, swap(2), swap(1)), 2},
		{2, of(pop, swap(2), pop, swap(0)), 3},
		{2, of(pop, swap(2), pop, push(1)), 3},
		{2, of(pop, pop, swap(0), pop), 3},
		{2, of(pop, pop, push(1), pop, pop), 4},
		{2, of(pop, pop, push(1), pop, push(2)), 4},
		{2, of(pop, pop, push(2), pop, swap(0)), 4},
		{2, of(pop, pop, push(2), pop, push(1)), 4},
		{2, of(push(2), pop, pop, swap(0)), 3},
		{2, of(pop, push(2), pop, pop, swap(2), swap(1)), 5},
	}
	for _, r := range rows {
		checkFault(t, "top "+digits(r.top)+": "+text(r.chain), ops.Check(list(), r.top, r.chain), api.ErrKind, r.at)
	}
}

// P10.2: all chains of up to 4 ops, by trying; also of lists that lack kinds,
// since the header may have labels of all three.
func TestCheckTried(t *testing.T) {
	lists := [][]int{{1, 2, 3}, {3, 3, 3}, {2, 3, 2}, {1, 0, 2}, {3, 1, 4}, {3}, {2}, {1}, list()}
	for _, kinds := range lists {
		for top := range min(len(kinds), 3) {
			if kinds[top] < 1 || kinds[top] > 3 {
				continue
			}
			for n := range 4 {
				for _, chain := range chains(some(), n) {
					checkTried(t, kinds, top, chain)
				}
			}
		}
	}
	for top := range 3 {
		for _, chain := range chains(good(), 4) {
			checkTried(t, list(), top, chain)
		}
		for _, chain := range chains(of(pop, swap(2), push(2), push(1)), 5) {
			checkTried(t, list(), top, chain)
		}
	}
}

// picked: a chain of at most 8 ops, of those that a rule picks; most of those
// that can't be done behind the others are left out.
func picked(top int, n *uint32) []ops.Op {
	var chain []ops.Op
	for range 40 {
		*n = *n*1664525 + 1013904223
		more := append(slices.Clone(chain), good()[*n>>16%6])
		code, _ := tried(list(), top, more)
		if len(chain) < 8 && (code == api.OK || *n>>24%32 == 0) {
			chain = more
		}
	}
	return chain
}

// P10.2: chains of 8 ops, by trying.
func TestCheckTriedLong(t *testing.T) {
	n, done := uint32(1), 0
	for i := range 600 {
		chain := picked(i%3, &n)
		checkTried(t, list(), i%3, chain)
		if ops.Check(list(), i%3, chain) == nil && len(chain) == 8 {
			done++
		}
	}
	check(t, "many of them can be done", done > 100, true)
	check(t, "many of them can't", done < 500, true)
}

// P10.2, and the rule of memory: what is handed in stays, spare room included.
func TestCheckMemory(t *testing.T) {
	for _, chain := range chains(some(), 2) {
		kinds := append(list(), 9, 8)
		ask := append(slices.Clone(chain), push(1), push(1))
		ops.Check(kinds[:8], 2, ask[:len(chain)])
		ops.Pushes(ask[:len(chain)])
		ops.Grows(ask[:len(chain)])
		check(t, "kinds", digits(kinds...), digits(append(list(), 9, 8)...))
		check(t, "chain", text(ask), text(append(slices.Clone(chain), push(1), push(1))))
	}
}

// P10.3: how many Pushes there are, and how many more labels.
func TestPushesGrows(t *testing.T) {
	rows := []struct {
		chain         []ops.Op
		pushes, grows int
	}{
		{nil, 0, 0},
		{[]ops.Op{}, 0, 0},
		{of(pop), 0, -1},
		{of(swap(1)), 0, 0},
		{of(push(1)), 1, 1},
		{of(push(1), pop), 1, 0},
		{of(pop, push(1)), 1, 0},
		{of(push(1), push(2), swap(1), pop, push(3)), 3, 2},
		{of(pop, swap(0), pop, pop), 0, -3},
		{of(push(-1), push(math.MaxInt), push(math.MinInt)), 3, 3},
		{times(8, push(2)), 8, 8},
		{times(9, pop), 0, -9},
		{times(100000, push(2)), 100000, 100000},
		{times(100000, pop), 0, -100000},
		{times(100000, swap(2)), 0, 0},
		{append(times(1000, pop), times(700, push(0))...), 700, -300},
	}
	for _, r := range rows {
		check(t, "Pushes of "+text(r.chain), ops.Pushes(r.chain), r.pushes)
		check(t, "Grows of "+text(r.chain), ops.Grows(r.chain), r.grows)
	}
	for _, kind := range noKinds() {
		op := ops.Op{Kind: kind, Label: 1}
		check(t, "Pushes of no kind", ops.Pushes(of(op, push(1), op)), 1)
		check(t, "Grows of no kind", ops.Grows(of(op, pop, op)), -1)
	}
}

// P10.4: what comes of a header that may be may be, and is as much longer as
// Grows tells.
func TestWhatComesMayBe(t *testing.T) {
	done := 0
	for n := range 6 {
		for _, chain := range chains(good(), n) {
			for _, h := range [][]int{{0}, {1, 0}, {2, 1, 0}, high(9)} {
				got, ok := ops.Do(list(), h, chain)
				if !ok {
					continue
				}
				done++
				check(t, digits(got...)+" may be", header.Valid(list(), got), true)
				check(t, "grown by "+text(chain), len(got)-len(h), ops.Grows(chain))
			}
		}
	}
	check(t, "many were done", done > 1000, true)
}

// P10.4: chains one behind the other are one chain.
func TestOneBehindTheOther(t *testing.T) {
	l := append(chains(some(), 2), chains(some(), 1)...)
	l = append(l, nil, of(push(1), push(2), push(2)), times(9, push(2)), times(9, pop))
	for _, first := range l {
		for _, second := range l {
			both := append(slices.Clone(first), second...)
			check(t, "Pushes", ops.Pushes(both), ops.Pushes(first)+ops.Pushes(second))
			check(t, "Grows", ops.Grows(both), ops.Grows(first)+ops.Grows(second))
			for _, h := range [][]int{{0}, {1, 0}, {2, 1, 0}, high(12)} {
				middle, ok := ops.Do(list(), h, first)
				if !ok {
					checkNot(t, list(), h, both)
					continue
				}
				if want, can := ops.Do(list(), middle, second); can {
					checkDo(t, list(), h, both, want...)
				} else {
					checkNot(t, list(), h, both)
				}
			}
		}
	}
}

// P10.2, P10.4: a chain that Check refuses can be done to no header of that top,
// and one of up to 3 ops that it allows to one of 6 labels at most.
func TestCheckAndDo(t *testing.T) {
	for n := range 4 {
		for _, chain := range chains(some(), n) {
			for top := range 3 {
				can := false
				for more := range 6 {
					h := append([]int{top}, high(more)...)
					_, ok := ops.Do(list(), h, chain)
					can = can || ok
				}
				check(t, digits(top)+": "+text(chain), ops.Check(list(), top, chain) == nil, can)
			}
		}
	}
}

// The chapter's examples.
func TestExamples(t *testing.T) {
	kinds := []int{1, 2, 3}
	checkDo(t, kinds, []int{0}, of(push(1)), 1, 0)
	checkFault(t, "a Pop of 0", ops.Check(kinds, 0, of(pop)), api.ErrKind, 0)
}
