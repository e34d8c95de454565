package nfa_test

import (
	"math"
	"math/rand"
	"slices"
	"strconv"
	"strings"
	"testing"

	"fairlead/api"
	"fairlead/bits"
	"fairlead/class"
	"fairlead/header"
	"fairlead/net"
	"fairlead/nfa"
	"fairlead/regex"
)

func check[T comparable](t *testing.T, what string, got, want T) {
	t.Helper()
	if got != want {
		t.Errorf("%s: got %v, want %v", what, got, want)
	}
}

// numbers: a list's text, with commas between.
func numbers(l []int) string {
	var words []string
	for _, i := range l {
		words = append(words, strconv.Itoa(i))
	}
	return strings.Join(words, ",")
}

// whole: all that an automaton is: of each state its On, behind a > its Next,
// and a ! where it is Final.
func whole(a nfa.NFA) string {
	if len(a.Next) != len(a.On) || len(a.Final) != len(a.On) {
		return "not of one length"
	}
	var states []string
	for s, on := range a.On {
		state := numbers(on.List()) + ">" + numbers(a.Next[s])
		if a.Final[s] {
			state += "!"
		}
		states = append(states, state)
	}
	return strings.Join(states, " ")
}

// node: that of an expression, over the labels a to d, which are 0 to 3.
func node(t *testing.T, s string) class.Node {
	t.Helper()
	var n net.Net
	for _, name := range []string{"a", "b", "c", "d"} {
		n.Labels = append(n.Labels, net.Label{Name: name, Kind: header.IP})
	}
	expr, err := regex.Parse(s)
	if err != nil {
		t.Fatalf("%s: %v", s, err)
	}
	x, err := class.Labels(n, expr)
	if err != nil {
		t.Fatalf("%s: %v", s, err)
	}
	return x
}

// of: the automaton of an expression over these labels.
func of(t *testing.T, s string) nfa.NFA {
	t.Helper()
	return nfa.Of(node(t, s))
}

func atom(l ...int) class.Node { return class.Node{Kind: regex.Atom, On: bits.Of(l...)} }

func some(kind int, kids ...class.Node) class.Node { return class.Node{Kind: kind, Kids: kids} }

// The form of the type.
func TestForm(t *testing.T) {
	check(t, "an automaton", whole(nfa.NFA{[]bits.Set{{}, bits.Of(2)}, [][]int{{1}, nil}, []bool{false, true}}), ">1 2>!")
}

// P17.1: the example.
func TestExample(t *testing.T) {
	check(t, "a b*", whole(of(t, "a b*")), ">1 0>2! 1>2!")
}

// P17.1: the automata of nodes of each kind.
func TestOf(t *testing.T) {
	for _, c := range [][2]string{
		{"a", ">1 0>!"},
		{".", ">1 0,1,2,3>!"},
		{"[^b]", ">1 0,2,3>!"},
		{"()", ">!"},
		{"a b", ">1 0>2 1>!"},
		{"a b c", ">1 0>2 1>3 2>!"},
		{"a|b", ">1,2 0>! 1>!"},
		{"b|a|()", ">1,2! 1>! 0>!"},
		{"a*", ">1! 0>1!"},
		{"a+", ">1 0>1!"},
		{"a?", ">1! 0>!"},
		{"()*", ">!"},
		{"()+", ">!"},
		{"()?", ">!"},
		{"()|()", ">!"},
		{"() a () ()", ">1 0>!"},
		{"d d", ">1 3>2 3>!"},
	} {
		check(t, c[0], whole(of(t, c[0])), c[1])
	}
}

// P17.1: what may be left out, and what may come again.
func TestOfWithin(t *testing.T) {
	for _, c := range [][2]string{
		{"a* b*", ">1,2! 0>1,2! 1>2!"},
		{"a b? c", ">1 0>2,3 1>3 2>!"},
		{"a? b? c?", ">1,2,3! 0>2,3! 1>3! 2>!"},
		{"a? b c?", ">1,2 0>2 1>3! 2>!"},
		{"(a b)*", ">1! 0>2 1>1!"},
		{"(a b)+", ">1 0>2 1>1!"},
		{"(a b)?", ">1! 0>2 1>!"},
		{"(a b*)+", ">1 0>1,2! 1>1,2!"},
		{"(a* b)*", ">1,2! 0>1,2 1>1,2!"},
		{"(a* b*)*", ">1,2! 0>1,2! 1>1,2!"},
		{"(a* b*)+ c", ">1,2,3 0>1,2,3 1>1,2,3 2>!"},
		{"(a|b)+ c", ">1,2 0>1,2,3 1>1,2,3 2>!"},
		{"(a b|c)* d", ">1,3,4 0>2 1>1,3,4 2>1,3,4 3>!"},
		{"(a|b c) (()|d)", ">1,2 0>4! 1>3 2>4! 3>!"},
		{"a*+?*", ">1! 0>1!"},
		{"(a?)+", ">1! 0>1!"},
		{"a (b c)* b", ">1 0>2,4 1>3 2>2,4 1>!"},
		{"a b|c* d|()", ">1,3,4! 0>2 1>! 2>3,4 3>!"},
	} {
		check(t, c[0], whole(of(t, c[0])), c[1])
	}
}

// P17.1: an Atom of nothing is a state as others are.
func TestOfNothing(t *testing.T) {
	for _, c := range [][2]string{
		{"[^a,b,c,d]", ">1 >!"},
		{"$mpls a", ">1 >2 0>!"},
		{"a $smpls* b", ">1 0>2,3 >2,3 1>!"},
	} {
		a := of(t, c[0])
		check(t, c[0], whole(a), c[1])
		check(t, c[0]+" may be", a.Check(), true)
	}
}

// P17.1: nodes of as many as may be.
func TestOfMany(t *testing.T) {
	row := nfa.Of(some(regex.Cat, slices.Repeat([]class.Node{atom(127)}, api.MaxNodes-1)...))
	check(t, "a row", row.Check() && row.Len() == api.MaxNodes, true)
	for s, next := range row.Next {
		last := s == api.MaxNodes-1
		check(t, "its state "+strconv.Itoa(s), row.Final[s] == last && numbers(next) == strconv.Itoa(s+1) != last, true)
	}
	all := nfa.Of(some(regex.Star, some(regex.Alt, slices.Repeat([]class.Node{atom(0, 64)}, api.MaxNodes-2)...)))
	check(t, "any of many, again and again", all.Check() && all.Len() == api.MaxNodes-1, true)
	for s, next := range all.Next {
		check(t, "its state "+strconv.Itoa(s), all.Final[s] && len(next) == api.MaxNodes-2 && next[0] == 1, true)
	}
	deep := atom(5)
	for i := range api.MaxNodes - 1 {
		deep = some(regex.Star+i%3, deep)
	}
	check(t, "kids of kids", whole(nfa.Of(deep)), ">1! 5>1!")
	deep = some(regex.Plus, atom(7))
	for i := range 32 {
		deep = some(regex.Star, some(regex.Cat, deep, atom(i)))
	}
	a := nfa.Of(deep)
	check(t, "stars of stars", a.Check() && a.Len() == 34 && a.On[1] == bits.Of(7) && a.On[33] == bits.Of(31), true)
	check(t, "what stands behind its last one", len(a.Next[33]), 32) // all but the one behind the Plus
}

// rowsOf: all rows of a node, as texts, of at most so many numbers.
func rowsOf(x class.Node, most int) map[string]int {
	rows := map[string]int{}
	switch x.Kind {
	case regex.Atom:
		for _, i := range x.On.List() {
			rows[string(rune('a'+i))] = 1
		}
		return rows
	case regex.Cat:
		rows[""] = 1
		for _, kid := range x.Kids {
			rows = joined(rows, rowsOf(kid, most), most)
		}
		return rows
	}
	for _, kid := range x.Kids {
		for row := range rowsOf(kid, most) {
			rows[row] = 1
		}
	}
	if x.Kind == regex.Star || x.Kind == regex.Plus {
		one := rows
		for n := -1; n < len(rows); {
			n = len(rows)
			more := joined(rows, one, most)
			for row := range rows {
				more[row] = 1
			}
			rows = more
		}
	}
	if x.Kind == regex.Star || x.Kind == regex.Opt {
		rows[""] = 1
	}
	return rows
}

// joined: each of a behind each of b, as far as they aren't too long.
func joined(a, b map[string]int, most int) map[string]int {
	rows := map[string]int{}
	for x := range a {
		for y := range b {
			if len(x)+len(y) <= most {
				rows[x+y] = 1
			}
		}
	}
	return rows
}

// anyNode: one of at most so many Atoms, made by those calls.
func anyNode(r *rand.Rand, atoms int, one func() class.Node) class.Node {
	switch kind := r.Intn(9); {
	case kind == 0:
		return some(regex.Cat)
	case kind < 4:
		return some(regex.Star+kind%3, anyNode(r, atoms, one))
	case atoms < 2:
		return one()
	case kind < 7:
		n := 1 + r.Intn(atoms-1)
		return some(regex.Cat, anyNode(r, n, one), anyNode(r, atoms-n, one))
	default:
		n := 1 + r.Intn(atoms-1)
		return some(regex.Alt, anyNode(r, n, one), anyNode(r, atoms-n, one))
	}
}

// P17.1: of nodes whose Atoms are all unlike, what stands in a row at first, at
// last, and behind what.
func TestOfRows(t *testing.T) {
	r := rand.New(rand.NewSource(17))
	for range 250 {
		count := 0
		x := anyNode(r, 1+r.Intn(4), func() class.Node { count++; return atom(count - 1) })
		states := make([]map[int]int, count+1)
		final := make([]bool, count+1)
		for s := range states {
			states[s] = map[int]int{}
		}
		for row := range rowsOf(x, 2*count) {
			at := 0
			for _, b := range []byte(row) {
				s := int(b-'a') + 1
				states[at][s] = 1
				at = s
			}
			final[at] = true
		}
		want := nfa.NFA{Final: final}
		for s, next := range states {
			want.On = append(want.On, bits.Of(s-1))
			var l []int
			for i := range next {
				l = append(l, i)
			}
			slices.Sort(l)
			want.Next = append(want.Next, l)
		}
		check(t, "a node", whole(nfa.Of(x)), whole(want))
	}
}

// P17.3: just the rows of a node are accepted.
func TestRows(t *testing.T) {
	r := rand.New(rand.NewSource(173))
	accepted := 0
	for range 400 {
		x := anyNode(r, 1+r.Intn(6), func() class.Node {
			return atom(slices.DeleteFunc([]int{0, 1, 2}, func(int) bool { return r.Intn(2) == 0 })...)
		})
		a := nfa.Of(x)
		check(t, "it may be", a.Check(), true)
		rows := rowsOf(x, 5)
		accepted += len(rows)
		for _, row := range upTo(3, 5) {
			check(t, whole(a)+" of "+row, a.Accepts(numbersOf(row)), rows[row] == 1)
		}
	}
	check(t, "some were accepted", accepted > 5000, true)
}

// upTo: all rows of so many numbers, up to a length.
func upTo(count, most int) []string {
	rows := []string{""}
	for i := 0; i < len(rows); i++ {
		for n := range count {
			if len(rows[i]) < most {
				rows = append(rows, rows[i]+string(rune('a'+n)))
			}
		}
	}
	return rows
}

// numbersOf: the numbers of a row's text.
func numbersOf(row string) []int {
	var l []int
	for _, b := range []byte(row) {
		l = append(l, int(b-'a'))
	}
	return l
}

// made: an automaton of so many states, none of which is entered or Final.
func made(n int, next ...[]int) nfa.NFA {
	return nfa.NFA{On: make([]bits.Set, n), Next: next, Final: make([]bool, n)}
}

// P17.2: which may be.
func TestCheck(t *testing.T) {
	for _, a := range []nfa.NFA{
		made(1, nil), made(1, []int{}), made(2, nil, nil), made(2, []int{1}, []int{1}), made(4, []int{1, 3}, []int{2}, []int{1, 2, 3}, nil),
		{On: []bits.Set{bits.Upto(128), {}}, Next: make([][]int, 2), Final: []bool{true, true}},
	} {
		check(t, whole(a)+" may be", a.Check(), true)
	}
	for what, a := range map[string]nfa.NFA{
		"the zero one": {}, "one without states": made(0), "Next alone": {Next: [][]int{nil}}, "On alone": {On: make([]bits.Set, 1)},
		"Final alone": {Final: []bool{true}}, "no On": {Next: [][]int{nil}, Final: []bool{true}}, "no Next": made(1),
		"no Final": {On: make([]bits.Set, 1), Next: [][]int{nil}}, "less Next": made(2, nil), "more Next": made(1, nil, nil),
		"less Final": {On: make([]bits.Set, 2), Next: make([][]int, 2), Final: make([]bool, 1)}, "more Final": {On: make([]bits.Set, 2), Next: make([][]int, 2), Final: make([]bool, 3)},
		"less On": {On: make([]bits.Set, 1), Next: make([][]int, 2), Final: make([]bool, 2)}, "more On": {On: make([]bits.Set, 3), Next: make([][]int, 2), Final: make([]bool, 2)},
		"0 of 0": made(1, []int{0}), "0 of 1": made(2, nil, []int{0}), "0 ahead": made(2, []int{0, 1}, nil), "below 0": made(2, []int{-1}, nil),
		"the least": made(2, []int{math.MinInt, 1}, nil), "too great": made(2, []int{2}, nil), "the greatest": made(2, []int{1}, []int{math.MaxInt}),
		"too great at last": made(3, []int{1, 2}, []int{1, 2}, []int{1, 2, 3}), "falling": made(3, []int{2, 1}, nil, nil), "twice": made(3, nil, []int{1, 1}, nil),
		"falling at last": made(4, []int{1, 2}, []int{3}, nil, []int{1, 3, 2}),
	} {
		check(t, what+" may be", a.Check(), false)
	}
}

// P17.2: how many states.
func TestLen(t *testing.T) {
	for s, want := range map[string]int{"()": 1, "a": 2, "a b*": 3, "a|b|(c . [a,b])*": 6} {
		check(t, s, of(t, s).Len(), want)
	}
	check(t, "of one that is made", made(5, nil, nil, nil, nil, nil).Len(), 5)
}

// P17.2: where one comes by a number.
func TestStep(t *testing.T) {
	a := nfa.NFA{
		On:    []bits.Set{bits.Upto(128), bits.Of(0, 1), bits.Of(1, 127), {}, bits.Of(1, 64)},
		Next:  [][]int{{1, 2, 3}, {1, 4}, {1, 2, 3, 4}, {2}, nil},
		Final: make([]bool, 5),
	}
	check(t, "it may be", a.Check(), true)
	for _, c := range []struct {
		from []int
		on   int
		want string
	}{
		{[]int{0}, 0, "1"}, {[]int{0}, 1, "1,2"}, {[]int{0}, 127, "2"}, {[]int{0}, 64, ""}, {[]int{0}, 2, ""},
		{[]int{1}, 0, "1"}, {[]int{1}, 1, "1,4"}, {[]int{1}, 64, "4"}, {[]int{1}, 127, ""},
		{[]int{3}, 1, "2"}, {[]int{4}, 1, ""}, {nil, 1, ""}, {[]int{}, 1, ""},
		{[]int{1, 0}, 1, "1,2,4"}, {[]int{0, 1}, 1, "1,2,4"}, {[]int{2, 1, 0}, 1, "1,2,4"}, {[]int{3, 1}, 1, "1,2,4"}, {[]int{1, 3}, 1, "1,2,4"},
		{[]int{0, 0, 0}, 1, "1,2"}, {[]int{1, 0, 1, 0}, 0, "1"}, {[]int{4, 3}, 127, "2"},
		{[]int{0, 1, 2, 3, 4}, -1, ""}, {[]int{0, 1, 2, 3, 4}, 128, ""}, {[]int{0, 1, 2, 3, 4}, 1 << 32, ""},
		{[]int{0, 1, 2, 3, 4}, math.MinInt, ""}, {[]int{0, 1, 2, 3, 4}, math.MaxInt, ""}, {[]int{0, 1}, -64, ""}, {[]int{0, 1}, 256, ""},
	} {
		check(t, numbers(c.from)+" by "+strconv.Itoa(c.on), numbers(a.Step(c.from, c.on)), c.want)
	}
}

// P17.2: which rows are accepted.
func TestAccepts(t *testing.T) {
	a := of(t, "a b*")
	for _, row := range []string{"a", "ab", "abbbb"} {
		check(t, row, a.Accepts(numbersOf(row)), true)
	}
	for _, row := range []string{"", "b", "aa", "ba", "abba", "ac", "abc"} {
		check(t, row, a.Accepts(numbersOf(row)), false)
	}
	check(t, "the empty row", of(t, "()").Accepts(nil), true)
	check(t, "the empty row", of(t, "a*").Accepts([]int{}), true)
	check(t, "the empty row", of(t, "a+").Accepts(nil), false)
	a = of(t, ".*")
	for _, i := range []int{-1, 4, 128, math.MinInt, math.MaxInt} {
		check(t, "a number outside", a.Accepts([]int{0, i}), false)
		check(t, "a number outside, and one behind it", a.Accepts([]int{i, 0}), false)
	}
	check(t, "a long row", a.Accepts(slices.Repeat([]int{0, 3, 1}, 10000)), true)
	check(t, "a long row, but for its last", a.Accepts(append(slices.Repeat([]int{0, 3, 1}, 10000), 4)), false)
	check(t, "an Atom of nothing", of(t, "a|$mpls").Accepts([]int{1}), false)
	check(t, "an Atom of nothing, left out", of(t, "$mpls* a").Accepts([]int{0}), true)
	// one that isn't entered stays behind, wherever else one can go
	b := nfa.NFA{On: []bits.Set{bits.Of(1), bits.Of(1), bits.Of(2)}, Next: [][]int{{1}, {2}, nil}, Final: []bool{false, false, true}}
	check(t, "both", b.Accepts([]int{1, 2}), true)
	for _, row := range [][]int{nil, {1}, {2}, {1, 1}, {2, 2}, {1, 2, 2}, {1, 1, 2}} {
		check(t, numbers(row), b.Accepts(row), false)
	}
}

// Memory: nothing that is handed in is changed or kept, and no list is shared.
func TestMemory(t *testing.T) {
	x := node(t, "(a|b)* (c|d)+ a*")
	a := nfa.Of(x)
	b := nfa.Of(x)
	was := whole(b)
	x.Kids[0].Kids[0].Kids[0].On = bits.Of(9)
	x.Kids[1] = class.Node{}
	for s := range a.Next {
		for i := range a.Next[s] {
			a.Next[s][i] = -1
		}
		_ = append(a.Next[s], 9, 9, 9, 9, 9, 9, 9, 9)
		a.On[s] = bits.Of(9)
		for u := range a.Next {
			check(t, "another list of the same", u <= s || !slices.Contains(a.Next[u], -1) && !slices.Contains(a.Next[u], 9), true)
		}
	}
	check(t, "the other automaton", whole(b), was)
	from := []int{2, 1, 0, 4, 4, 4}
	l := b.Step(from[:3], 0)
	for i := range l {
		l[i] = 9
	}
	_ = append(l, 9, 9, 9)
	check(t, "what was handed in", numbers(from), "2,1,0,4,4,4")
	check(t, "the automaton", whole(b), was)
	check(t, "a later answer", numbers(b.Step(from[:3], 0)), "1")
	row := []int{0, 1, 2, 3}
	check(t, "accepted", b.Accepts(row[:3]), true)
	check(t, "what was handed in", numbers(row), "0,1,2,3")
}

// What is no node of an expression that may be is no reason to panic.
func TestOdd(t *testing.T) {
	for _, x := range []class.Node{{}, {Kind: 99}, some(regex.Alt), some(regex.Star), some(regex.Opt, atom(1), atom(2)), {Kind: regex.Atom, Kids: []class.Node{{}}}} {
		check(t, "it may be", nfa.Of(x).Check(), true)
	}
	many := nfa.Of(some(regex.Cat, slices.Repeat([]class.Node{atom(1)}, 1000)...))
	check(t, "many", many.Check() && many.Len() == 1001 && many.Final[1000], true)
}
