package auto_test

import (
	"math/rand"
	"strings"
	"testing"

	"fairlead/auto"
	"fairlead/bits"
	"fairlead/nfa"
)

// differ: do sets of states into which the same rows lead tell two automata, of
// few states over the numbers 0 to 2, apart?
func differ(a, b nfa.NFA) bool {
	ends := func(n nfa.NFA, l []int) bool {
		for _, s := range l {
			if n.Final[s] {
				return true
			}
		}
		return false
	}
	type sets struct{ a, b []int }
	work := []sets{{[]int{0}, []int{0}}}
	seen := map[string]int{}
	for i := 0; i < len(work); i++ {
		w := work[i]
		if ends(a, w.a) != ends(b, w.b) {
			return true
		}
		key := numbers(w.a) + "|" + numbers(w.b)
		if seen[key]++; seen[key] > 1 {
			continue
		}
		for on := range 3 {
			work = append(work, sets{a.Step(w.a, on), b.Step(w.b, on)})
		}
	}
	return false
}

// P18.3: whether both accept the same rows.
func TestSame(t *testing.T) {
	r := rand.New(rand.NewSource(184))
	alike := 0
	for i := range 6000 {
		a, b := anyAutomaton(r, 4), anyAutomaton(r, 4)
		if i%2 == 0 {
			a, b = anyOf(r, 4), anyOf(r, 4)
		}
		was := whole(a) + " and " + whole(b)
		same := !differ(a, b)
		check(t, was, auto.Same(a, b), same)
		check(t, was+" turned about", auto.Same(b, a), same)
		check(t, "what was handed in", whole(a)+" and "+whole(b), was)
		if same && !auto.Empty(a) {
			alike++
		}
	}
	check(t, "some were the same", alike > 150, true)
}

// P18.3: an automaton, and one that differs from it little.
func TestSameNear(t *testing.T) {
	r := rand.New(rand.NewSource(185))
	unlike := 0
	for range 3000 {
		a := anyAutomaton(r, 6)
		b := auto.Trim(a)
		check(t, whole(a), auto.Same(a, b), true)
		switch s := r.Intn(b.Len()); {
		case r.Intn(2) == 0:
			b.Final[s] = !b.Final[s]
		case len(b.Next[s]) > 0:
			b.Next[s] = b.Next[s][1:]
		}
		same := !differ(a, b)
		check(t, whole(a)+" and "+whole(b), auto.Same(a, b), same)
		if !same {
			unlike++
		}
	}
	check(t, "some weren't the same", unlike > 500, true)
}

// P18.3: of expressions.
func TestSameOf(t *testing.T) {
	for _, c := range [][2]string{
		{"a", "a"}, {"()", "()"}, {"a|b", "b|a"}, {"a|b", "[a,b]"}, {".", "a|b|c|d"}, {"a+", "a a*"}, {"a?", "a|()"}, {"(a*)*", "a*"},
		{"(a|b)*", "(a* b*)*"}, {"(a b)* a", "a (b a)*"}, {"a (b|c)", "a b|a c"}, {".* a .*", "[^a]* a .*"}, {"(. .)*|. (. .)*", ".*"},
		{"$mpls", "$smpls $smpls"}, {"a $mpls", "$mpls a"}, {"$mpls*", "()"}, {"a|$mpls b", "a"}, {"(a|$mpls)*", "a*"}, {"(()|a)+", "a*"},
		{"(. . .)*|(. .)*|. (. . . . . .)*|. . . . . (. . . . . .)*", ".*"},
	} {
		check(t, c[0]+" and "+c[1], auto.Same(of(t, c[0]), of(t, c[1])), true)
		check(t, c[1]+" and "+c[0], auto.Same(of(t, c[1]), of(t, c[0])), true)
	}
	for _, c := range [][2]string{
		{"a", "b"}, {"a", "()"}, {"()", "$mpls"}, {"a", "$mpls"}, {"a", "a|b"}, {"a", "a|()"}, {"a+", "a*"}, {"a b", "b a"}, {"a*", "b*"},
		{"[a,b]", "[a,c]"}, {"(a b)*", "a* b*"}, {"(. .)*", ".*"}, {".* a .", ".* a"}, {"(a|b)*", "a*|b*"}, {"a b c", "a b d"}, {".*", ".+"},
		{"(. . .)*|(. .)*|. (. . . . . .)*", ".*"}, {strings.Repeat(". ", 90) + "a", strings.Repeat(". ", 90) + "b"}, {"[^d]*", ".*"},
	} {
		check(t, c[0]+" and "+c[1], auto.Same(of(t, c[0]), of(t, c[1])), false)
		check(t, c[1]+" and "+c[0], auto.Same(of(t, c[1]), of(t, c[0])), false)
	}
}

// P18.3: numbers up to the greatest tell automata apart.
func TestSameNumbers(t *testing.T) {
	one := func(on ...int) nfa.NFA { return made([]bits.Set{{}, bits.Of(on...)}, [][]int{{1}, {1}}, 1) }
	check(t, "127", auto.Same(one(127), one(127)), true)
	check(t, "127 and none", auto.Same(one(127), one()), false)
	check(t, "63 and 64", auto.Same(one(63), one(64)), false)
	check(t, "all but one", auto.Same(one(bits.Upto(127).List()...), one(bits.Upto(128).List()...)), false)
	check(t, "all", auto.Same(one(bits.Upto(128).List()...), one(bits.Upto(128).List()...)), true)
	odd := made([]bits.Set{bits.Of(3), bits.Of(5), bits.Of(127)}, [][]int{{1, 2}, {1, 2}, {1, 2}}, 1, 2)
	check(t, "of two states", auto.Same(odd, one(5, 127)), true)
	check(t, "of two states, and more", auto.Same(odd, one(5, 126, 127)), false)
	odd.Final[0] = true
	check(t, "of two states, and the empty row", auto.Same(odd, one(5, 127)), false)
}

// P18.3: there may be more sets of states than could be gone through.
func TestSameMany(t *testing.T) {
	points := func(n int) string { return strings.Repeat(" .", n) }
	for _, c := range []struct {
		a, b string
		same bool
	}{
		{".* a" + points(60), ".* a" + points(60), true},
		{".* a" + points(60), "([^a]|a)* a" + points(60), true},
		{".* a" + points(60), ".* a" + points(59), false},
		{".* a" + points(60), "[^c]* a" + points(60), false},
		{".* a" + points(40), ".* a" + points(39) + " [^c]", false},
		{".* (a|b)" + points(60), ".* [a,b]" + points(60), true},
		{"(.* a" + points(30) + ")+", ".* a" + points(30), true},
		{".* a" + points(30) + "|.* b" + points(30), ".* [a,b]" + points(30), true},
	} {
		check(t, c.a+" and "+c.b, auto.Same(of(t, c.a), of(t, c.b)), c.same)
	}
	a, b := of(t, ".* a"+points(40)), of(t, ".* b"+points(30))
	check(t, "turned about", auto.Same(auto.Meet(a, b), auto.Meet(b, a)), true)
	check(t, "with itself", auto.Same(auto.Meet(a, a), a), true)
	either := strings.Repeat(" [a,b]", 11)
	c := func(last string) nfa.NFA { // its sets follow from no smaller ones
		return of(t, "[a,b]* (a"+either+" a|b"+either+" b) "+last)
	}
	check(t, "as many as there are", auto.Same(c("[a,b]*"), c("([a,b]+)?")), true)
	check(t, "as many as there are, but for one", auto.Same(c("[a,b]*"), c("[a,c]*")), false)
}

// P18.4: Meet can be turned about, and put together; an automaton and itself
// have all its rows in common.
func TestMeetLaws(t *testing.T) {
	r := rand.New(rand.NewSource(186))
	rows := upTo(3, 4)
	for i := range 400 {
		a, b, c := anyAutomaton(r, 4), anyAutomaton(r, 4), anyAutomaton(r, 4)
		if i%2 == 0 {
			a, b, c = anyOf(r, 5), anyOf(r, 5), anyOf(r, 5)
		}
		ab, ba := auto.Meet(a, b), auto.Meet(b, a)
		left, right := auto.Meet(ab, c), auto.Meet(a, auto.Meet(b, c))
		self := auto.Meet(a, a)
		same(t, "turned about", ab, ba, rows)
		same(t, "put together", left, right, rows)
		same(t, "with itself", self, a, rows)
		check(t, "turned about", auto.Same(ab, ba), true)
		check(t, "put together", auto.Same(left, right), true)
		check(t, "with itself", auto.Same(self, a), true)
		check(t, "with all", auto.Same(auto.Meet(a, of(t, ".*")), a), true)
		check(t, "with none", auto.Empty(auto.Meet(a, of(t, "$mpls"))), true)
	}
}
