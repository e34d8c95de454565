package cover_test

import (
	"math/rand"
	"slices"
	"testing"

	"fairlead/cover"
)

// room: how much is kept.
func room(sets [][]int, split []bool) int {
	kept, members := 0, map[int]bool{}
	for i, set := range sets {
		if !split[i] {
			kept++
			continue
		}
		for _, member := range set {
			members[member] = true
		}
	}
	return kept + len(members)
}

// best: the least room of all choices, and with as few sets taken apart as then
// can be.
func best(sets [][]int) (int, int) {
	least, apart := len(sets)+1, 0
	for choice := range 1 << len(sets) {
		split, n := make([]bool, len(sets)), 0
		for i := range sets {
			split[i] = choice>>i&1 == 1
			if split[i] {
				n++
			}
		}
		if r := room(sets, split); r < least || r == least && n < apart {
			least, apart = r, n
		}
	}
	return least, apart
}

// count: how many are to be taken apart.
func count(split []bool) int {
	n := 0
	for _, s := range split {
		if s {
			n++
		}
	}
	return n
}

// anySets: some small ones; none is empty.
func anySets(r *rand.Rand, below int) [][]int {
	sets := make([][]int, r.Intn(8))
	for i := range sets {
		for member := range below {
			if r.Intn(3) == 0 {
				sets[i] = append(sets[i], member)
			}
		}
		if len(sets[i]) == 0 {
			sets[i] = []int{r.Intn(below)}
		}
	}
	return sets
}

// What is kept is as little as it can be; and the same each time.
func TestSplit(t *testing.T) {
	r := rand.New(rand.NewSource(1))
	apart := 0
	for range 5000 {
		below := 1 + r.Intn(9)
		sets := anySets(r, below)
		split := cover.Split(sets, below)
		least, n := best(sets)
		if room(sets, split) != least || count(split) != n || len(split) != len(sets) {
			t.Fatalf("%v: %v keeps %d, takes %d apart; not %d, %d", sets, split, room(sets, split), count(split), least, n)
		}
		if !slices.Equal(split, cover.Split(sets, below)) {
			t.Fatal("not the same each time")
		}
		apart += count(split)
	}
	if apart < 1000 {
		t.Errorf("only %d were taken apart", apart)
	}
}

// Where it makes no difference, sets are kept.
func TestEven(t *testing.T) {
	for _, c := range []struct {
		sets  [][]int
		apart int
	}{
		{[][]int{{0, 1}}, 0},
		{[][]int{{0}}, 0},
		{[][]int{{0, 1}, {0, 1}}, 0},
		{[][]int{{0, 1}, {0, 1}, {1}}, 3},
		{[][]int{{0, 1, 2}, {3}, {3}}, 2},
		{nil, 0},
	} {
		if got := count(cover.Split(c.sets, 4)); got != c.apart {
			t.Errorf("%v: %d are taken apart, not %d", c.sets, got, c.apart)
		}
	}
}

// A long chain of sets, each with a member that the next one has, too.
func TestLong(t *testing.T) {
	const n = 100000
	var sets [][]int
	for i := range n {
		sets = append(sets, []int{i, i + 1})
	}
	sets = append(sets, []int{0})
	sets = append(sets, []int{n})
	split := cover.Split(sets, n+1)
	if got := room(sets, split); got != n+1 {
		t.Errorf("%d are kept", got)
	}
}

// anyMembers: some sets of members in tones.
func anyMembers(r *rand.Rand) [][]cover.Member {
	sets := make([][]cover.Member, 1+r.Intn(5))
	for i := range sets {
		groups := r.Intn(8)
		for id := range 6 {
			if groups>>(id/2)&1 == 1 && r.Intn(8) > 0 {
				sets[i] = append(sets[i], cover.Member{ID: 10 * id, Tone: r.Intn(8) / 7})
			}
		}
	}
	return sets
}

// tone: of an ID in a set; none, where it isn't there.
func tone(set []cover.Member, id int) int {
	for _, m := range set {
		if m.ID == id {
			return m.Tone
		}
	}
	return -1
}

// alike: can both be in one part?
func alike(sets [][]cover.Member, a, b int) bool {
	for _, set := range sets {
		if tone(set, a) != tone(set, b) {
			return false
		}
	}
	return true
}

// classes: of each set the numbers of the first ones that are alike, each once.
func classes(sets [][]cover.Member) [][]int {
	l := make([][]int, len(sets))
	for i, set := range sets {
		for _, m := range set {
			first := 0
			for !alike(sets, 10*first, m.ID) {
				first++
			}
			if !slices.Contains(l[i], first) {
				l[i] = append(l[i], first)
			}
		}
	}
	return l
}

// Parts are of what is alike, make up their sets, and there are as few as can be.
func TestParts(t *testing.T) {
	r := rand.New(rand.NewSource(2))
	great := 0
	for range 5000 {
		sets := anyMembers(r)
		parts := cover.Parts(sets)
		made := classes(sets)
		split := make([]bool, len(sets))
		for i, set := range sets {
			split[i] = parts[i] != nil
			var all []int
			for _, part := range parts[i] {
				for _, id := range part {
					if !alike(sets, id, part[0]) {
						t.Fatalf("%v: %v: %v has what isn't alike", sets, parts, part)
					}
				}
				all = append(all, part...)
				great += min(len(part), 2) - 1
			}
			if split[i] && len(parts[i]) != len(made[i]) {
				t.Fatalf("%v: %v: not the greatest parts", sets, parts)
			}
			slices.Sort(all)
			for at, id := range all {
				if len(all) != len(set) || set[at].ID != id {
					t.Fatalf("%v: %v doesn't make up the set %d", sets, parts, i)
				}
			}
		}
		least, _ := best(made)
		for i := range made {
			if len(made[i]) == 0 && !split[i] {
				t.Fatalf("%v: %v keeps an empty set", sets, parts)
			}
		}
		if got := room(made, split); got != least {
			t.Fatalf("%v: %v keeps %d, not %d", sets, parts, got, least)
		}
	}
	if great < 1000 {
		t.Errorf("only %d parts are of several", great)
	}
}

// One ID may be in a set several times, in several tones; parts are lists of their own.
func TestTones(t *testing.T) {
	twice := [][]cover.Member{{{1, 0}, {1, 5}, {2, 0}, {2, 5}, {3, 0}}, {{1, 0}, {2, 0}, {3, 0}}, {{1, 0}, {2, 0}}, {{3, 1}}}
	parts := cover.Parts(twice)
	for i := range 2 {
		if len(parts[i]) != 2 || !slices.Equal(parts[i][0], []int{1, 2}) || !slices.Equal(parts[i][1], []int{3}) {
			t.Errorf("%d: %v", i, parts)
		}
		parts[i][0][0] = 9
	}
	if parts := cover.Parts([][]cover.Member{{{1, 0}, {2, 0}}, {{1, 0}, {2, 1}}}); parts[0] != nil || parts[1] != nil {
		t.Errorf("of tones that differ: %v", parts)
	}
	if len(cover.Parts(nil)) != 0 {
		t.Error("of no sets there are parts")
	}
}
