package query_test

import (
	"math/rand"
	"slices"
	"strconv"
	"strings"
	"testing"

	"fairlead/api"
	"fairlead/auto"
	"fairlead/class"
	"fairlead/header"
	"fairlead/net"
	"fairlead/nfa"
	"fairlead/query"
	"fairlead/regex"
	"fairlead/topo"
)

// sample: the labels m s t x y are 0 to 4, the links ab ab2 ba l.-0 0 to 3.
func sample(t *testing.T) net.Net {
	t.Helper()
	n := net.Net{
		Topo: topo.Topo{
			Routers: []string{"a", "b"},
			Links: []topo.Link{
				{Name: "ab", From: 0, To: 1}, {Name: "ab2", From: 0, To: 1},
				{Name: "ba", From: 1, To: 0}, {Name: "l.-0", From: 1, To: 1},
			},
		},
		Labels: []net.Label{
			{Name: "m", Kind: header.Mid}, {Name: "s", Kind: header.Bottom}, {Name: "t", Kind: header.Bottom},
			{Name: "x", Kind: header.IP}, {Name: "y", Kind: header.IP},
		},
	}
	checkNil(t, "the sample may be", n.Check())
	return n
}

// parsed: the query of a text.
func parsed(t *testing.T, s string) query.Query {
	t.Helper()
	q, err := query.Parse(s)
	checkNil(t, s, err)
	return q
}

// made: a query over a network.
func made(t *testing.T, n net.Net, q query.Query) query.Auto {
	t.Helper()
	a, err := query.Of(n, q)
	checkNil(t, whole(q), err)
	for _, a := range []nfa.NFA{a.Start, a.Path, a.End} {
		check(t, whole(q)+": does each automaton hold?", a.Check(), true)
	}
	return a
}

// numbers: a list's text, with commas between.
func numbers(l []int) string {
	var words []string
	for _, i := range l {
		words = append(words, strconv.Itoa(i))
	}
	return strings.Join(words, ",")
}

// states: all that an automaton is: of each state its On, behind a > its Next,
// and a ! where it is Final.
func states(a nfa.NFA) string {
	var l []string
	for s, on := range a.On {
		state := numbers(on.List()) + ">" + numbers(a.Next[s])
		if a.Final[s] {
			state += "!"
		}
		l = append(l, state)
	}
	return strings.Join(l, " ")
}

// autos: all that a query over a network is.
func autos(a query.Auto) string {
	return states(a.Start) + ";" + states(a.Path) + ";" + states(a.End) + ";" + strconv.Itoa(a.Fails)
}

// upTo: all rows over so many numbers, up to a length.
func upTo(count, most int) [][]int {
	rows := [][]int{nil}
	for i := 0; i < len(rows); i++ {
		for n := range count {
			if len(rows[i]) < most {
				rows = append(rows, append(slices.Clone(rows[i]), n))
			}
		}
	}
	return rows
}

// accepted: those of some rows that an automaton accepts.
func accepted(a nfa.NFA, rows [][]int) string {
	var l []string
	for _, row := range rows {
		if a.Accepts(row) {
			l = append(l, strings.ReplaceAll(numbers(row), ",", ""))
		}
	}
	return strings.Join(l, " ")
}

// P19.3: the example: from a lone ip to one below one label.
func TestOfExample(t *testing.T) {
	a := made(t, sample(t), parsed(t, "<$ip> .* <. $ip> 1"))
	rows := upTo(5, 3)
	check(t, "start", accepted(a.Start, rows), "3 4")
	check(t, "path", accepted(a.Path, upTo(4, 2)), " 0 1 2 3 00 01 02 03 10 11 12 13 20 21 22 23 30 31 32 33")
	check(t, "end", accepted(a.End, rows), "13 14 23 24")
	check(t, "fails", a.Fails, 1)
}

// P19.3: Path is that of the node; of Start and End what isn't a header falls out.
func TestOf(t *testing.T) {
	n := sample(t)
	rows := upTo(5, 4)
	for _, c := range []struct{ ask, start, path, end string }{
		{"<.> ab <.> 0", "3 4", ">1 0>!", "3 4"},
		{"<()> . <.*> 4", "", ">1 0,1,2,3>!", "3 4 13 14 23 24 013 014 023 024 0013 0014 0023 0024"},
		{"<m> [^a#b,ba] <s> 0", "", ">1 3>!", ""},
		{"<m* s x?> () <[^s,x]+> 2", "13 013 0013", ">!", "4 24 024 0024"},
		{"<s s|x|m s y|y x> a#b|b#a <m . . .> 3", "3 014", ">1,2 0,1>! 2>!", "0013 0014 0023 0024"},
		{"<.> b#b a#a <.> 1", "3 4", ">1 3>2 >!", "3 4"},
	} {
		a := made(t, n, parsed(t, c.ask))
		check(t, c.ask+": start", accepted(a.Start, rows), c.start)
		check(t, c.ask+": path", states(a.Path), c.path)
		check(t, c.ask+": end", accepted(a.End, rows), c.end)
	}
}

// trimmed: has an automaton no state of no use?
func trimmed(a nfa.NFA) bool { return auto.Trim(a).Len() == a.Len() }

// P19.3: Start and End accept just the headers that the expressions have, and
// are trimmed; Path is the expression's own automaton.
func TestOfSome(t *testing.T) {
	n := sample(t)
	r := rand.New(rand.NewSource(193))
	rows := upTo(5, 4)
	for range 300 {
		q := someQuery(r)
		q.Fails %= 5
		a := made(t, n, q)
		check(t, whole(q)+": fails", a.Fails, int(q.Fails))
		for _, part := range []struct {
			x regex.Expr
			a nfa.NFA
		}{{q.Start, a.Start}, {q.End, a.End}} {
			x, err := class.Labels(n, part.x)
			checkNil(t, whole(q), err)
			for _, row := range rows {
				if want := nfa.Of(x).Accepts(row) && header.Valid(n.Kinds(), row); part.a.Accepts(row) != want {
					t.Errorf("%s: %v: %v", whole(q), row, !want)
				}
			}
			both := auto.Trim(auto.Meet(nfa.Of(x), auto.Headers(n.Kinds())))
			check(t, whole(q)+": trimmed", trimmed(part.a), true)
			check(t, whole(q)+": states", part.a.Len(), both.Len())
		}
		x, err := class.Links(n, q.Path)
		checkNil(t, whole(q), err)
		check(t, whole(q)+": path", states(a.Path), states(nfa.Of(x)))
	}
}

// noAuto: has a query that error over a network?
func noAuto(t *testing.T, n net.Net, q query.Query, code api.Errno, words ...string) {
	t.Helper()
	a, err := query.Of(n, q)
	checkFault(t, whole(q), err, code, 0, words...)
	check(t, whole(q)+": beside an error", autos(a), ";;;0")
}

// P19.3: words that mean nothing, the first part's first; then too many fails.
func TestOfErrors(t *testing.T) {
	n := sample(t)
	noAuto(t, n, parsed(t, "<z> . <.> 0"), api.ErrNone, "start", "z")
	noAuto(t, n, parsed(t, "<ab> . <.> 0"), api.ErrNone, "start", "ab")
	noAuto(t, n, parsed(t, "<a#b> . <.> 0"), api.ErrKind, "start", "a#b")
	noAuto(t, n, parsed(t, "<$x> . <.> 0"), api.ErrNone, "start", "$x")
	noAuto(t, n, parsed(t, "<.> x <.> 0"), api.ErrNone, "path", "x")
	noAuto(t, n, parsed(t, "<.> . a#c <.> 0"), api.ErrNone, "path", "a#c")
	noAuto(t, n, parsed(t, "<.> .|$ip <.> 0"), api.ErrKind, "path", "$ip")
	noAuto(t, n, parsed(t, "<.> . <. [^x,z]> 0"), api.ErrNone, "end", "z")
	noAuto(t, n, parsed(t, "<.> . <.|b#a> 0"), api.ErrKind, "end", "b#a")
	noAuto(t, n, parsed(t, "<.> . <.> 5"), api.ErrRange, "fails")
	noAuto(t, n, parsed(t, "<.> . <.> 64"), api.ErrRange, "fails")
	noAuto(t, n, parsed(t, "<.|z a#b> z <z> 64"), api.ErrNone, "start", "z")
	noAuto(t, n, parsed(t, "<.> z <$z> 64"), api.ErrNone, "path", "z")
	noAuto(t, n, parsed(t, "<.> . <$z> 64"), api.ErrNone, "end", "$z")
	made(t, n, parsed(t, "<.> . <.> 4"))
	n.Topo.Links = nil
	made(t, n, parsed(t, "<.> . <.> 0"))
	noAuto(t, n, parsed(t, "<.> . <.> 1"), api.ErrRange, "fails")
}

// P19.3: a query that may not be is told ahead of what its words mean.
func TestOfCheck(t *testing.T) {
	n := sample(t)
	none := atom("z")
	noAuto(t, n, query.Query{none, none, atom(), 99}, api.ErrForm, "end")
	noAuto(t, n, query.Query{none, of(9), atom(), 99}, api.ErrArg, "path")
	noAuto(t, n, query.Query{atom("b", "a"), none, none, 99}, api.ErrOrder, "start")
	noAuto(t, n, query.Query{none, none, none, api.MaxThings + 1}, api.ErrRange, "fails")
	noAuto(t, n, query.Query{none, none, none, 1 << 32}, api.ErrRange, "fails")
	noAuto(t, n, query.Query{none, none, none, api.MaxThings}, api.ErrNone, "start", "z")
}

// P19.3: as many links, and labels, as there may be.
func TestOfMany(t *testing.T) {
	var n net.Net
	n.Topo.Routers = []string{"a", "b"}
	for i := range api.MaxThings {
		name := "n" + strconv.Itoa(i/10) + strconv.Itoa(i%10)
		n.Topo.Links = append(n.Topo.Links, topo.Link{Name: name, From: 0, To: 1})
		n.Labels = append(n.Labels, net.Label{Name: name, Kind: 1 + i%3})
	}
	checkNil(t, "it may be", n.Check())
	a := made(t, n, parsed(t, "<[^n00]> n63|n00 <n62 n61 n63> 64"))
	check(t, "fails", a.Fails, 64)
	check(t, "path", states(a.Path), ">1,2 63>! 0>!")
	check(t, "n03", a.Start.Accepts([]int{3}), true)
	check(t, "n00", a.Start.Accepts([]int{0}), false)
	check(t, "n62 n61 n63", a.End.Accepts([]int{62, 61, 63}), true)
	check(t, "n61 n63", a.End.Accepts([]int{61, 63}), false)
}

// Memory: an answer is new memory, and shares none with another one.
func TestOfMemory(t *testing.T) {
	n := sample(t)
	q := parsed(t, "<m* s .> (ab ba)* <m* s .> 3")
	was := whole(q)
	a, b := made(t, n, q), made(t, n, q)
	want := autos(a)
	for _, one := range []nfa.NFA{a.Start, a.Path} {
		for s := range one.On {
			one.On[s] = one.On[s].With(99)
			one.Final[s] = !one.Final[s]
			for i := range one.Next[s] {
				one.Next[s][i] = 77
			}
		}
	}
	check(t, "the other answer", autos(b), want)
	check(t, "the end of the same", states(a.End), states(b.End))
	check(t, "the query", whole(q), was)
	check(t, "asked again", autos(made(t, n, q)), want)
	checkNil(t, "the network", n.Check())
}
