package auto_test

import (
	"math/rand"
	"slices"
	"strconv"
	"strings"
	"testing"

	"fairlead/api"
	"fairlead/auto"
	"fairlead/bits"
	"fairlead/class"
	"fairlead/header"
	"fairlead/net"
	"fairlead/nfa"
	"fairlead/regex"
)

func check[T comparable](t *testing.T, what string, got, want T) {
	t.Helper()
	if got != want {
		t.Errorf("%s: got %v, want %v", what, got, want)
	}
}

// numbers: a list's text, with commas between.
func numbers(l []int) string {
	var words []string
	for _, i := range l {
		words = append(words, strconv.Itoa(i))
	}
	return strings.Join(words, ",")
}

// whole: all that an automaton is: of each state its On, behind a > its Next,
// and a ! where it is Final.
func whole(a nfa.NFA) string {
	if len(a.Next) != len(a.On) || len(a.Final) != len(a.On) {
		return "not of one length"
	}
	var states []string
	for s, on := range a.On {
		state := numbers(on.List()) + ">" + numbers(a.Next[s])
		if a.Final[s] {
			state += "!"
		}
		states = append(states, state)
	}
	return strings.Join(states, " ")
}

// of: the automaton of an expression over the labels a to d, which are 0 to 3.
func of(t *testing.T, s string) nfa.NFA {
	t.Helper()
	var n net.Net
	for _, name := range []string{"a", "b", "c", "d"} {
		n.Labels = append(n.Labels, net.Label{Name: name, Kind: header.IP})
	}
	expr, err := regex.Parse(s)
	if err != nil {
		t.Fatalf("%s: %v", s, err)
	}
	x, err := class.Labels(n, expr)
	if err != nil {
		t.Fatalf("%s: %v", s, err)
	}
	return nfa.Of(x)
}

// made: an automaton whose states are entered by these, have these Next, and of
// which those are Final.
func made(on []bits.Set, next [][]int, final ...int) nfa.NFA {
	a := nfa.NFA{On: on, Next: next, Final: make([]bool, len(on))}
	for _, s := range final {
		a.Final[s] = true
	}
	return a
}

// upTo: all rows over so many numbers, up to a length: shorter ones first, of
// one length those that are less at the first place at which they differ.
func upTo(count, most int) [][]int {
	rows := [][]int{nil}
	for i := 0; i < len(rows); i++ {
		for n := range count {
			if len(rows[i]) < most {
				rows = append(rows, append(slices.Clone(rows[i]), n))
			}
		}
	}
	return rows
}

// anyAutomaton: one of at most so many states, over the numbers 0 to 2.
func anyAutomaton(r *rand.Rand, most int) nfa.NFA {
	n := 1 + r.Intn(most)
	a := made(make([]bits.Set, n), make([][]int, n))
	dense := 1 + r.Intn(4)
	for s := range n {
		for i := range 3 {
			if r.Intn(5) < 2 {
				a.On[s] = a.On[s].With(i) // of 0, too, where it tells nothing
			}
		}
		for to := 1; to < n; to++ {
			if r.Intn(5) < dense {
				a.Next[s] = append(a.Next[s], to)
			}
		}
		a.Final[s] = r.Intn(4) == 0
	}
	return a
}

// anyOf: the automaton of a node of so many Atoms, over the numbers 0 to 2.
func anyOf(r *rand.Rand, atoms int) nfa.NFA { return nfa.Of(anyNode(r, atoms)) }

func anyNode(r *rand.Rand, atoms int) class.Node {
	n := 1
	if atoms > 1 {
		n += r.Intn(atoms - 1)
	}
	switch kind := r.Intn(9); {
	case kind == 0:
		return class.Node{Kind: regex.Cat}
	case kind < 4:
		return class.Node{Kind: regex.Star + kind%3, Kids: []class.Node{anyNode(r, atoms)}}
	case atoms < 2:
		return class.Node{Kind: regex.Atom, On: bits.Of(r.Intn(3), r.Intn(3))}
	case kind < 7:
		return class.Node{Kind: regex.Cat, Kids: []class.Node{anyNode(r, n), anyNode(r, atoms-n)}}
	default:
		return class.Node{Kind: regex.Alt, Kids: []class.Node{anyNode(r, n), anyNode(r, atoms-n)}}
	}
}

// same: do two automata, which may be, accept the same of some rows?
func same(t *testing.T, what string, a, b nfa.NFA, rows [][]int) {
	t.Helper()
	check(t, what+": the first may be", a.Check(), true)
	check(t, what+": the other may be", b.Check(), true)
	for _, row := range rows {
		if a.Accepts(row) != b.Accepts(row) {
			t.Errorf("%s: %s is accepted by one alone", what, numbers(row))
		}
	}
}

// P18.1: what both accept.
func TestMeet(t *testing.T) {
	r := rand.New(rand.NewSource(181))
	rows := upTo(3, 5)
	accepted := 0
	for i := range 600 {
		a, b := anyAutomaton(r, 5), anyAutomaton(r, 5)
		if i%2 == 0 {
			a, b = anyOf(r, 5), anyOf(r, 5)
		}
		wasA, wasB := whole(a), whole(b)
		both := auto.Meet(a, b)
		check(t, "it may be", both.Check() && both.On[0].Empty(), true)
		for _, row := range rows {
			want := a.Accepts(row) && b.Accepts(row)
			if both.Accepts(row) != want {
				t.Errorf("%s and %s: %s", wasA, wasB, numbers(row))
			}
			if want {
				accepted++
			}
		}
		check(t, "what was handed in", whole(a)+whole(b), wasA+wasB)
	}
	check(t, "some were accepted", accepted > 5000, true)
}

// P18.1: what both accept of some expressions.
func TestMeetOf(t *testing.T) {
	rows := upTo(4, 4)
	for _, c := range [][3]string{
		{"a b*", ". .", "a b"},
		{"[a,b]", "[b,c]", "b"},
		{"a", "b", "[^a,b,c,d]"},
		{"a*", "b*", "()"},
		{"()", "a", "[^a,b,c,d]"},
		{"()", "()", "()"},
		{".*", "a|b c", "a|b c"},
		{"(a b)*", "a .*", "a b (a b)*"},
		{"(. .)*", "(. . .)*", "(. . . . . .)*"},
		{"a* b", "a b*", "a b"},
		{"a? b? c?", ". .", "a b|a c|b c"},
		{"$mpls*", "a*", "()"},
	} {
		same(t, c[0]+" and "+c[1], auto.Meet(of(t, c[0]), of(t, c[1])), of(t, c[2]), rows)
	}
}

// P18.1: numbers up to the greatest, and many states.
func TestMeetMany(t *testing.T) {
	far := made([]bits.Set{{}, bits.Of(0, 127), bits.Of(63, 64)}, [][]int{{1, 2}, {1, 2}, {2}}, 1, 2)
	near := made([]bits.Set{{}, bits.Of(64, 127)}, [][]int{{1}, {1}}, 1)
	both := auto.Meet(far, near)
	for _, row := range [][]int{{127}, {64}, {127, 64}, {127, 127, 64, 64}} {
		check(t, numbers(row), both.Accepts(row), true)
	}
	for _, row := range [][]int{nil, {0}, {63}, {64, 127}, {127, 63}, {128}, {-1}, {1}} {
		check(t, numbers(row), both.Accepts(row), false)
	}
	a, b := of(t, strings.Repeat("(. .)* ", 20)+"a"), of(t, strings.Repeat("(. . .)* ", 15)+"a")
	both = auto.Meet(a, b)
	check(t, "many", both.Check() && both.Accepts(make([]int, 7)) && !both.Accepts(make([]int, 6)), true)
}

// useful: which states but 0 are on a way from 0 to a Final one? (By holding for
// each two whether one leads to the other.)
func useful(a nfa.NFA) []bool {
	n := a.Len()
	leads := make([][]bool, n)
	for s := range leads {
		leads[s] = make([]bool, n)
		leads[s][s] = true
		for _, to := range a.Next[s] {
			leads[s][to] = leads[s][to] || !a.On[to].Empty()
		}
	}
	for via := range n {
		for s := range n {
			for to := range n {
				leads[s][to] = leads[s][to] || leads[s][via] && leads[via][to]
			}
		}
	}
	use := make([]bool, n)
	for s := 1; s < n; s++ {
		for to := range n {
			use[s] = use[s] || leads[0][s] && leads[s][to] && a.Final[to]
		}
	}
	return use
}

// count: of how many it holds.
func count(l []bool) int {
	return len(slices.DeleteFunc(slices.Clone(l), func(b bool) bool { return !b }))
}

// P18.1: no state more than there must be, and each of use.
func TestTrim(t *testing.T) {
	r := rand.New(rand.NewSource(182))
	rows := upTo(3, 5)
	less := 0
	for range 1500 {
		a := anyAutomaton(r, 7)
		was := whole(a)
		some := auto.Trim(a)
		check(t, "what was handed in", whole(a), was)
		same(t, was, some, a, rows)
		use := useful(some)
		check(t, was+": states of use", count(use), some.Len()-1)
		check(t, was+": no more than it has", some.Len() <= 1+count(useful(a)), true)
		if some.Len() < a.Len() {
			less++
		}
	}
	check(t, "some had others", less > 300, true)
}

// P18.1: what is left of some automata.
func TestTrimSome(t *testing.T) {
	a, b, none := bits.Of(1), bits.Of(2), bits.Set{}
	for _, c := range []struct {
		what string
		a    nfa.NFA
		want string
	}{
		{"one state", made([]bits.Set{none}, [][]int{nil}), ">"},
		{"one that is Final", made([]bits.Set{none}, [][]int{nil}, 0), ">!"},
		{"one that is met", made([]bits.Set{none, a}, [][]int{{1}, nil}, 1), ">1 1>!"},
		{"one that isn't met", made([]bits.Set{none, a}, [][]int{nil, {1}}, 1), ">"},
		{"one that is met by itself", made([]bits.Set{none, a, b}, [][]int{{2}, {1, 2}, nil}, 1, 2), ">1 2>!"},
		{"one that leads nowhere", made([]bits.Set{none, a, b}, [][]int{{1, 2}, nil, {1}}, 2), ">1 2>!"},
		{"one that leads to itself", made([]bits.Set{none, a, b}, [][]int{{1, 2}, {1}, {1, 2}}, 2), ">1 2>1!"},
		{"one that isn't entered", made([]bits.Set{none, none, b}, [][]int{{1, 2}, {2}, {1}}, 1, 2), ">1 2>!"},
		{"one behind one that isn't entered", made([]bits.Set{none, none, b}, [][]int{{1}, {2}, nil}, 1, 2), ">"},
		{"Final ones on the way", made([]bits.Set{none, a, b}, [][]int{{1}, {2}, nil}, 0, 1, 2), ">1! 1>2! 2>!"},
		{"a 0 by which one can't come", made([]bits.Set{a, b}, [][]int{{1}, nil}, 0), ">!"},
		{"the last of three", made([]bits.Set{none, a, a, b}, [][]int{{1, 3}, {2}, {1}, nil}, 3), ">1 2>!"},
	} {
		check(t, c.what, whole(auto.Trim(c.a)), c.want)
	}
	many := auto.Trim(of(t, strings.Repeat(".? ", 20)+"$mpls "+strings.Repeat(". ", 40)))
	check(t, "many of no use", whole(many), ">")
}

// P18.1: just the headers that may be are accepted.
func TestHeaders(t *testing.T) {
	rows := upTo(7, 4)
	for _, kinds := range [][]int{
		{header.IP, header.Bottom, header.Mid}, {header.Mid, header.Bottom, header.IP}, {header.IP}, {header.Bottom}, {header.Mid},
		{header.IP, header.IP}, {header.IP, header.Mid}, {header.Bottom, header.IP}, {}, nil, {0}, {4}, {-1},
		{0, header.IP, 4, header.Bottom, -1, header.Mid, header.Mid}, {header.Mid, header.Mid, header.Bottom, header.Bottom, header.IP, header.IP},
		{1 << 32, header.IP, 1<<32 + header.Mid, header.Bottom},
	} {
		a := auto.Headers(kinds)
		check(t, "it may be", a.Check() && a.On[0].Empty(), true)
		for _, row := range rows {
			check(t, numbers(kinds)+": "+numbers(row), a.Accepts(row), header.Valid(kinds, row))
		}
	}
	a := auto.Headers([]int{header.IP, header.Bottom, header.Mid})
	check(t, "2 1 0", a.Accepts([]int{2, 1, 0}), true)
	check(t, "2 0", a.Accepts([]int{2, 0}), false)
	check(t, "a high one", a.Accepts(append(slices.Repeat([]int{2}, 1000), 1, 0)), true)
	check(t, "a high one without its last", a.Accepts(append(slices.Repeat([]int{2}, 1000), 1)), false)
}

// P18.1: of many labels those from 0 to 127 stand in headers.
func TestHeadersMany(t *testing.T) {
	var kinds []int
	for i := range 400 {
		kinds = append(kinds, 1+i%3)
	}
	was := slices.Clone(kinds)
	a := auto.Headers(kinds)
	check(t, "it may be", a.Check(), true)
	check(t, "what was handed in", slices.Equal(kinds, was), true)
	for i := -2; i < 300; i++ {
		inside := i >= 0 && i < api.MaxSet
		check(t, "alone "+strconv.Itoa(i), a.Accepts([]int{i}), inside && i%3 == 0)
		check(t, "on one "+strconv.Itoa(i), a.Accepts([]int{i, 126}), inside && i%3 == 1)
		check(t, "on two "+strconv.Itoa(i), a.Accepts([]int{i, 127, 126}), inside && i%3 == 2)
	}
}

// first: the first of some rows that is accepted.
func first(a nfa.NFA, rows [][]int) (string, bool) {
	for _, row := range rows {
		if a.Accepts(row) {
			return numbers(row), true
		}
	}
	return "", false
}

// P18.2: whether a row is accepted, and the first of the shortest ones.
func TestShortest(t *testing.T) {
	r := rand.New(rand.NewSource(183))
	rows := upTo(3, 6)
	lengths := make([]int, 20)
	for range 3000 {
		a := anyAutomaton(r, 7)
		was := whole(a)
		want, ok := first(a, rows)
		row, has := auto.Shortest(a)
		check(t, was+" has one", has, ok)
		check(t, was+": its shortest", numbers(row), want)
		check(t, was+" is empty", auto.Empty(a), !ok)
		check(t, "what was handed in", whole(a), was)
		lengths[len(want)]++
	}
	for _, n := range []int{0, 1, 3, 5} {
		check(t, "some were as long as "+strconv.Itoa(n), lengths[n] > 10, true)
	}
}

// P18.2: the shortest rows of some expressions.
func TestShortestOf(t *testing.T) {
	for _, c := range [][2]string{
		{"a b*", "0"}, {"()", ""}, {"a*", ""}, {"a|()", ""}, {"b|a", "0"}, {"[^a]", "1"}, {".", "0"}, {"d+ c", "3,2"},
		{"a b c|d", "3"}, {"d|c|b b", "2"}, {"a d|b a", "0,3"}, {"a d|a c|b a", "0,2"}, {"[a,b] d|b a", "0,3"}, {". d|b a", "0,3"}, {"[b,c] d|b a", "1,0"},
		{"[b,c] d d|b . a|b d b", "1,0,0"}, {"(. .)+ . . b", "0,0,0,0,1"}, {"$mpls|b", "1"}, {"$mpls* c", "2"}, {"a $mpls|c d d", "2,3,3"},
		{"b a|b b|a $mpls", "1,0"}, {"(a|b) (c|d)|b a", "0,2"},
	} {
		row, ok := auto.Shortest(of(t, c[0]))
		check(t, c[0]+" has one", ok, true)
		check(t, c[0], numbers(row), c[1])
		check(t, c[0]+" is empty", auto.Empty(of(t, c[0])), false)
	}
	for _, s := range []string{"$mpls", "$mpls+", "a $mpls", "$mpls a", "a* $mpls b*", "$mpls|a $smpls c"} {
		row, ok := auto.Shortest(of(t, s))
		check(t, s+" has one", ok, false)
		check(t, s, len(row), 0)
		check(t, s+" is empty", auto.Empty(of(t, s)), true)
	}
	row, ok := auto.Shortest(auto.Meet(of(t, "a b*"), of(t, ". .")))
	check(t, "a b* and . .", numbers(row), "0,1")
	check(t, "a b* and . . have one", ok, true)
}

// P18.2: of automata that no expression has.
func TestShortestMade(t *testing.T) {
	high := made([]bits.Set{bits.Of(0), bits.Of(127), bits.Of(64, 126), bits.Of(63)}, [][]int{{1, 2}, {3}, {3}, nil}, 3)
	row, ok := auto.Shortest(high)
	check(t, "great numbers", numbers(row), "64,63")
	check(t, "great numbers", ok && !auto.Empty(high), true)
	// a Final state that can't be entered is none that is near
	shut := made([]bits.Set{{}, {}, bits.Of(5), bits.Of(1), bits.Of(0)}, [][]int{{1, 2, 3}, {4}, {1, 4}, {1}, nil}, 1, 4)
	row, ok = auto.Shortest(shut)
	check(t, "a Final one that is shut", numbers(row), "5,0")
	check(t, "a Final one that is shut", ok && !auto.Empty(shut), true)
	long := made(make([]bits.Set, 5000), make([][]int, 5000), 4999)
	for s := range 4999 {
		long.On[s+1] = bits.Of(s%7, 100)
		long.Next[s] = []int{s + 1}
	}
	row, ok = auto.Shortest(long)
	check(t, "a long one", ok && len(row) == 4999 && row[8] == 1 && long.Accepts(row) && !auto.Empty(long), true)
	long.On[3000] = bits.Set{}
	row, ok = auto.Shortest(long)
	check(t, "a long one with a gap", !ok && len(row) == 0 && auto.Empty(long), true)
}

// Memory: nothing that is handed in is shared with an answer, and no list of an
// answer with another one.
func TestMemory(t *testing.T) {
	a, b := of(t, "(a|b)* (c|d)+ a*"), of(t, ". (.|a)* .")
	kinds := []int{3, 2, 1, 3, 2, 1}
	was := whole(a) + whole(b)
	for what, make := range map[string]func() nfa.NFA{
		"Meet":          func() nfa.NFA { return auto.Meet(a, b) },
		"Trim":          func() nfa.NFA { return auto.Trim(a) },
		"Headers":       func() nfa.NFA { return auto.Headers(kinds[:3]) },
		"Trim of Trim":  func() nfa.NFA { return auto.Trim(auto.Trim(a)) },
		"Meet with one": func() nfa.NFA { return auto.Meet(a, of(t, ".*")) },
	} {
		x := make()
		whether := whole(x)
		for s := range x.Next {
			for i := range x.Next[s] {
				x.Next[s][i] = -1
			}
			_ = append(x.Next[s], -1, -1, -1, -1, -1, -1, -1, -1)
			for u := s + 1; u < len(x.Next); u++ {
				check(t, what+": another list of the same", slices.Contains(x.Next[u], -1), false)
			}
			x.On[s], x.Final[s] = bits.Of(9), true
		}
		check(t, what+": what was handed in", whole(a)+whole(b), was)
		check(t, what+": a later answer", whole(make()), whether)
	}
	row, _ := auto.Shortest(a)
	row[0] = 9
	again, _ := auto.Shortest(a)
	check(t, "a later row", numbers(again), "2")
	check(t, "what was handed in", whole(a)+whole(b)+numbers(kinds), was+"3,2,1,3,2,1")
}
