package heap_test

import (
	"cmp"
	"math"
	"slices"
	"strconv"
	"testing"

	"fairlead/api"
	"fairlead/heap"
)

func check[T comparable](t *testing.T, what string, got, want T) {
	t.Helper()
	if got != want {
		t.Errorf("%s: got %v, want %v", what, got, want)
	}
}

// told is what Take and Peek answer.
type told[T any] struct {
	thing T
	cost  uint64
	ok    bool
}

func take[T any](h *heap.Heap[T]) told[T] {
	x, cost, ok := h.Take()
	return told[T]{x, cost, ok}
}

func peek[T any](h *heap.Heap[T]) told[T] {
	x, cost, ok := h.Peek()
	return told[T]{x, cost, ok}
}

// checkNone: is there none, by all that can be asked?
func checkNone[T comparable](t *testing.T, what string, h *heap.Heap[T]) {
	t.Helper()
	check(t, what+": Len", h.Len(), 0)
	check(t, what+": Peek", peek(h), told[T]{})
	check(t, what+": Take", take(h), told[T]{})
	check(t, what+": Len, behind them", h.Len(), 0)
}

// checkTakes: do just these come, in this order?
func checkTakes[T comparable](t *testing.T, what string, h *heap.Heap[T], want ...told[T]) {
	t.Helper()
	for i, w := range want {
		at := what + ", " + strconv.Itoa(i)
		check(t, at+": Len", h.Len(), len(want)-i)
		check(t, at+": Peek", peek(h), w)
		check(t, at+": Peek again", peek(h), w)
		check(t, at+": Take", take(h), w)
	}
	checkNone(t, what+", emptied", h)
}

// slow: what a heap must do, as a list in the order in which it was put.
type slow []told[int]

func (l *slow) put(cost uint64, x int) { *l = append(*l, told[int]{x, cost, true}) }

// least: the place of the first one; -1 of none.
func (l *slow) least() int {
	at := -1
	for i, x := range *l {
		if at < 0 || x.cost < (*l)[at].cost {
			at = i
		}
	}
	return at
}

func (l *slow) peek() told[int] {
	at := l.least()
	if at < 0 {
		return told[int]{}
	}
	return (*l)[at]
}

func (l *slow) take() told[int] {
	x := l.peek()
	if x.ok {
		at := l.least()
		*l = slices.Delete(*l, at, at+1)
	}
	return x
}

// P8.1: of a zero heap there is none; what is put then comes.
func TestZero(t *testing.T) {
	var h heap.Heap[string]
	checkNone(t, "zero", &h)
	h.Put(5, "a")
	checkTakes(t, "one", &h, told[string]{"a", 5, true})
	checkNone(t, "new", new(heap.Heap[int]))
	checkNone(t, "a literal", &heap.Heap[[2]bool]{})
}

// P8.1: of nil nothing is put, and there is none.
func TestNil(t *testing.T) {
	var h *heap.Heap[string]
	checkNone(t, "nil", h)
	h.Put(0, "a")
	h.Put(math.MaxUint64, "")
	checkNone(t, "nil, behind Put", h)
	checkNone(t, "another nil", (*heap.Heap[float64])(nil))
}

// P8.1: what costs least comes first, with its cost.
func TestLeastFirst(t *testing.T) {
	var h heap.Heap[string]
	h.Put(5, "a")
	h.Put(3, "b")
	h.Put(5, "c")
	checkTakes(t, "three", &h, told[string]{"b", 3, true}, told[string]{"a", 5, true}, told[string]{"c", 5, true})
}

// P8.1: each order in which six costs may be put.
func TestEachOrder(t *testing.T) {
	var grow func(order []int)
	grow = func(order []int) {
		if len(order) == 6 {
			var h heap.Heap[int]
			for _, i := range order {
				h.Put(uint64(i), i)
			}
			for i := range 6 {
				check(t, "Take", take(&h), told[int]{i, uint64(i), true})
			}
			return
		}
		for i := range 6 {
			if !slices.Contains(order, i) {
				grow(append(slices.Clip(order), i))
			}
		}
	}
	grow(nil)
}

// P8.1: Peek leaves what it tells, and Take doesn't.
func TestPeekStays(t *testing.T) {
	var h heap.Heap[string]
	h.Put(2, "b")
	h.Put(1, "a")
	for range 5 {
		check(t, "Peek", peek(&h), told[string]{"a", 1, true})
		check(t, "Len", h.Len(), 2)
	}
	check(t, "Take", take(&h), told[string]{"a", 1, true})
	check(t, "Peek, behind Take", peek(&h), told[string]{"b", 2, true})
	h.Put(0, "c")
	check(t, "Peek, behind Put", peek(&h), told[string]{"c", 0, true})
	check(t, "Len", h.Len(), 2)
}

// P8.1: one cost many times: the one that was put first comes first.
func TestOneCost(t *testing.T) {
	for _, cost := range []uint64{0, 1, 7, api.MaxCost, math.MaxUint64} {
		for n := range 40 {
			var h heap.Heap[int]
			var want []told[int]
			for i := range n {
				h.Put(cost, i)
				want = append(want, told[int]{i, cost, true})
			}
			checkTakes(t, strconv.Itoa(n)+" of one cost", &h, want...)
		}
	}
}

// P8.1: one thing many times, at one cost and at others.
func TestOneThing(t *testing.T) {
	var h heap.Heap[string]
	h.Put(2, "a")
	h.Put(1, "a")
	h.Put(2, "a")
	a, b := told[string]{"a", 1, true}, told[string]{"a", 2, true}
	checkTakes(t, "three times", &h, a, b, b)
}

// P8.1: so it is behind things that were taken in between, too.
func TestOneCostWithTakesBetween(t *testing.T) {
	var h heap.Heap[int]
	next, wanted := 0, 0
	for round := range 50 {
		for range 5 + round%3 {
			h.Put(9, next)
			next++
		}
		for range 4 + round%2 {
			check(t, "Take", take(&h), told[int]{wanted, 9, true})
			wanted++
		}
	}
	check(t, "Len", h.Len(), next-wanted)
	for ; wanted < next; wanted++ {
		check(t, "Take", take(&h), told[int]{wanted, 9, true})
	}
	checkNone(t, "emptied", &h)
}

// P8.1: a cheaper one that comes and goes leaves the order of the others.
func TestCheaperOnesBetween(t *testing.T) {
	var h heap.Heap[int]
	for i := range 100 {
		h.Put(5, i)
		h.Put(3, -i)
		check(t, "cheaper", take(&h), told[int]{-i, 3, true})
		h.Put(8, 1000+i)
	}
	for i := range 100 {
		check(t, "of 5", take(&h), told[int]{i, 5, true})
	}
	for i := range 100 {
		check(t, "of 8", take(&h), told[int]{1000 + i, 8, true})
	}
	checkNone(t, "emptied", &h)
}

// P8.1: costs 0 and the greatest, and those about the ends of numbers.
func TestEndsOfCosts(t *testing.T) {
	costs := []uint64{0, 1, math.MaxInt32, math.MaxInt32 + 1, math.MaxUint32, math.MaxUint32 + 1, api.MaxCost - 1, api.MaxCost, api.MaxCost + 1, math.MaxUint64 - 1, math.MaxUint64}
	var up, down heap.Heap[int]
	var want []told[int]
	for i, cost := range costs {
		up.Put(cost, i)
		back := len(costs) - 1 - i
		down.Put(costs[back], back)
		want = append(want, told[int]{i, cost, true})
	}
	checkTakes(t, "put rising", &up, want...)
	checkTakes(t, "put falling", &down, want...)
	var h heap.Heap[string]
	h.Put(math.MaxUint64, "a")
	h.Put(0, "b")
	h.Put(math.MaxUint64, "c")
	h.Put(0, "d")
	checkTakes(t, "both twice", &h, told[string]{"b", 0, true}, told[string]{"d", 0, true},
		told[string]{"a", math.MaxUint64, true}, told[string]{"c", math.MaxUint64, true})
}

// P8.1: a heap that was emptied is as one that is new.
func TestEmptiedAndFilledAgain(t *testing.T) {
	var h heap.Heap[int]
	for round := range 20 {
		for i := range round {
			h.Put(uint64(i*7%5), i)
		}
		var want []told[int]
		for i := range round {
			want = append(want, told[int]{i, uint64(i * 7 % 5), true})
		}
		slices.SortStableFunc(want, func(a, b told[int]) int { return cmp.Compare(a.cost, b.cost) })
		checkTakes(t, "round "+strconv.Itoa(round), &h, want...)
		checkNone(t, "emptied, again", &h)
	}
}

// P8.1: whatever is asked, up to eight times, a heap does what a list does.
func TestAsList(t *testing.T) {
	var grow func(h heap.Heap[int], l slow, asked int)
	grow = func(h heap.Heap[int], l slow, asked int) {
		check(t, "Len", h.Len(), len(l))
		check(t, "Peek", peek(&h), l.peek())
		if asked == 8 {
			return
		}
		for cost := range uint64(3) {
			more, longer := h, slices.Clone(l)
			more.Put(cost, asked)
			longer.put(cost, asked)
			grow(more, longer, asked+1)
		}
		less, shorter := h, slices.Clone(l)
		check(t, "Take", take(&less), shorter.take())
		grow(less, shorter, asked+1)
	}
	grow(heap.Heap[int]{}, nil, 0)
}

// P8.1: so it does with many things, put and taken by turns.
func TestAsListWithMany(t *testing.T) {
	var h heap.Heap[int]
	var l slow
	spread := uint64(1)
	for i := range 3000 {
		spread = spread*6364136223846793005 + 1442695040888963407
		if spread>>60 < 10 {
			h.Put(spread>>33%50, i)
			l.put(spread>>33%50, i)
		} else {
			check(t, "Take", take(&h), l.take())
		}
		check(t, "Peek", peek(&h), l.peek())
		check(t, "Len", h.Len(), len(l))
	}
	for len(l) > 0 {
		check(t, "Take, at last", take(&h), l.take())
	}
	checkNone(t, "emptied", &h)
}

// A copy of a heap is one of its own: neither sees what is asked of the other.
func TestCopies(t *testing.T) {
	var h heap.Heap[string]
	h.Put(4, "d")
	h.Put(2, "b")
	h.Put(3, "c")
	copied := h
	h.Put(1, "a")
	h.Take()
	h.Take()
	h.Put(9, "h")
	copied.Put(2, "x")
	checkTakes(t, "the copy", &copied, told[string]{"b", 2, true}, told[string]{"x", 2, true}, told[string]{"c", 3, true}, told[string]{"d", 4, true})
	checkTakes(t, "the heap", &h, told[string]{"c", 3, true}, told[string]{"d", 4, true}, told[string]{"h", 9, true})
}

// P8.1: things of any type, one heap beside another.
func TestThings(t *testing.T) {
	type pair struct{ a, b int }
	var pairs heap.Heap[pair]
	pairs.Put(2, pair{1, 2})
	pairs.Put(1, pair{})
	checkTakes(t, "pairs", &pairs, told[pair]{pair{}, 1, true}, told[pair]{pair{1, 2}, 2, true})
	one, other := new(int), new(int)
	var pointers heap.Heap[*int]
	pointers.Put(2, one)
	pointers.Put(1, other)
	pointers.Put(3, nil)
	checkTakes(t, "pointers", &pointers, told[*int]{other, 1, true}, told[*int]{one, 2, true}, told[*int]{nil, 3, true})
	var lists heap.Heap[[]int]
	lists.Put(1, []int{7})
	x, cost, ok := lists.Take()
	check(t, "list", slices.Equal(x, []int{7}) && cost == 1 && ok, true)
	x, cost, ok = lists.Take()
	check(t, "no list", x == nil && cost == 0 && !ok, true)
	checkNone(t, "things without fields", new(heap.Heap[struct{}]))
}

// P8.2: what is taken doesn't fall in its cost, as long as nothing is put, of
// many things that were put in all manners.
func TestTakenDoesNotFall(t *testing.T) {
	const many = 50000
	manners := []func(i uint64) uint64{
		func(i uint64) uint64 { return i },
		func(i uint64) uint64 { return many - i },
		func(i uint64) uint64 { return 5 },
		func(i uint64) uint64 { return i % 10 },
		func(i uint64) uint64 { return i * 0x9e3779b97f4a7c15 },
		func(i uint64) uint64 { return i ^ 1023 },
		func(i uint64) uint64 { return i & 1 * math.MaxUint64 },
	}
	for at, costOf := range manners {
		var h heap.Heap[uint64]
		for i := range uint64(many) {
			h.Put(costOf(i), i)
		}
		last, taken := told[uint64]{}, 0
		for x := take(&h); x.ok; x = take(&h) {
			what := "manner " + strconv.Itoa(at)
			check(t, what+": its own cost", x.cost, costOf(x.thing))
			check(t, what+": falls", taken > 0 && x.cost < last.cost, false)
			check(t, what+": put first", taken > 0 && x.cost == last.cost && x.thing < last.thing, false)
			last, taken = x, taken+1
		}
		check(t, "how many", taken, many)
	}
}
