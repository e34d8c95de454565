package cover_test

import (
	"math/rand"
	"slices"
	"testing"

	"fairlead/cover"
)

// room: how much is kept.
func room(sets [][]int, split []bool) int {
	kept, members := 0, map[int]bool{}
	for i, set := range sets {
		if !split[i] {
			kept++
			continue
		}
		for _, member := range set {
			members[member] = true
		}
	}
	return kept + len(members)
}

// best: the least room of all choices, and with as few sets taken apart as then
// can be.
func best(sets [][]int) (int, int) {
	least, apart := len(sets)+1, 0
	for choice := range 1 << len(sets) {
		split, n := make([]bool, len(sets)), 0
		for i := range sets {
			split[i] = choice>>i&1 == 1
			if split[i] {
				n++
			}
		}
		if r := room(sets, split); r < least || r == least && n < apart {
			least, apart = r, n
		}
	}
	return least, apart
}

// count: how many are to be taken apart.
func count(split []bool) int {
	n := 0
	for _, s := range split {
		if s {
			n++
		}
	}
	return n
}

// anySets: some small ones; none is empty.
func anySets(r *rand.Rand, below int) [][]int {
	sets := make([][]int, r.Intn(8))
	for i := range sets {
		for member := range below {
			if r.Intn(3) == 0 {
				sets[i] = append(sets[i], member)
			}
		}
		if len(sets[i]) == 0 {
			sets[i] = []int{r.Intn(below)}
		}
	}
	return sets
}

// What is kept is as little as it can be; and the same each time.
func TestSplit(t *testing.T) {
	r := rand.New(rand.NewSource(1))
	apart := 0
	for range 5000 {
		below := 1 + r.Intn(9)
		sets := anySets(r, below)
		split := cover.Split(sets, below)
		least, n := best(sets)
		if room(sets, split) != least || count(split) != n || len(split) != len(sets) {
			t.Fatalf("%v: %v keeps %d, takes %d apart; not %d, %d", sets, split, room(sets, split), count(split), least, n)
		}
		if !slices.Equal(split, cover.Split(sets, below)) {
			t.Fatal("not the same each time")
		}
		apart += count(split)
	}
	if apart < 1000 {
		t.Errorf("only %d were taken apart", apart)
	}
}

// Where it makes no difference, sets are kept.
func TestEven(t *testing.T) {
	for _, c := range []struct {
		sets  [][]int
		apart int
	}{
		{[][]int{{0, 1}}, 0},
		{[][]int{{0}}, 0},
		{[][]int{{0, 1}, {0, 1}}, 0},
		{[][]int{{0, 1}, {0, 1}, {1}}, 3},
		{[][]int{{0, 1, 2}, {3}, {3}}, 2},
		{nil, 0},
	} {
		if got := count(cover.Split(c.sets, 4)); got != c.apart {
			t.Errorf("%v: %d are taken apart, not %d", c.sets, got, c.apart)
		}
	}
}

// A long chain of sets, each with a member that the next one has, too.
func TestLong(t *testing.T) {
	const n = 100000
	var sets [][]int
	for i := range n {
		sets = append(sets, []int{i, i + 1})
	}
	sets = append(sets, []int{0})
	sets = append(sets, []int{n})
	split := cover.Split(sets, n+1)
	if got := room(sets, split); got != n+1 {
		t.Errorf("%d are kept", got)
	}
}
