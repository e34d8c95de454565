package query_test

import (
	"math"
	"math/rand"
	"slices"
	"strconv"
	"testing"

	"fairlead/api"
	"fairlead/oops"
	"fairlead/query"
	"fairlead/regex"
)

func check[T comparable](t *testing.T, what string, got, want T) {
	t.Helper()
	if got != want {
		t.Errorf("%s: got %v, want %v", what, got, want)
	}
}

// checkNil: is it no error?
func checkNil(t *testing.T, what string, err error) {
	t.Helper()
	if err != nil {
		t.Errorf("%s: %v, want nil", what, err)
	}
}

// checkFault: is it just a fault there, within just these words?
func checkFault(t *testing.T, what string, err error, code api.Errno, at int, words ...string) {
	t.Helper()
	want := oops.New(code, at)
	for _, word := range slices.Backward(words) {
		want = oops.In(word, want)
	}
	if err == nil || !oops.Same(err, want) || err.Error() != want.Error() {
		t.Errorf("%s: %v, want %v", what, err, want)
	}
}

func anyOne() regex.Expr { return regex.Expr{Kind: regex.Any} }

func atom(words ...string) regex.Expr { return regex.Expr{Kind: regex.Atom, Words: words} }

func not(words ...string) regex.Expr { return regex.Expr{Kind: regex.Atom, Not: true, Words: words} }

func of(kind int, kids ...regex.Expr) regex.Expr { return regex.Expr{Kind: kind, Kids: kids} }

func cat(kids ...regex.Expr) regex.Expr { return of(regex.Cat, kids...) }

func alt(kids ...regex.Expr) regex.Expr { return of(regex.Alt, kids...) }

func star(kid regex.Expr) regex.Expr { return of(regex.Star, kid) }

// exprText: all that an expression is, in a manner of its own.
func exprText(x regex.Expr) string {
	s := strconv.Itoa(x.Kind)
	if x.Not {
		s += "!"
	}
	for _, word := range x.Words {
		s += strconv.Quote(word)
	}
	for _, kid := range x.Kids {
		s += "{" + exprText(kid) + "}"
	}
	return s
}

// whole: all that a query is.
func whole(q query.Query) string {
	return exprText(q.Start) + " " + exprText(q.Path) + " " + exprText(q.End) + " " + strconv.FormatUint(q.Fails, 10)
}

// The form of the types.
func TestForm(t *testing.T) {
	q := query.Query{anyOne(), atom("l0"), atom("$ip"), 3}
	check(t, "a query", whole(q), `0 1"l0" 1"$ip" 3`)
	var fails uint64 = q.Fails
	var number int = query.Auto{Fails: 2}.Fails
	check(t, "its fails", fails, 3)
	check(t, "an automaton's", number, 2)
}

// P19.1: a query may be, where its expressions may, and Fails is at most 64.
func TestCheck(t *testing.T) {
	for _, fails := range []uint64{0, 1, 63, api.MaxThings} {
		checkNil(t, "one that may be", query.Check(query.Query{cat(), star(anyOne()), not("a", "b"), fails}))
	}
	for _, fails := range []uint64{api.MaxThings + 1, 1 << 32, 1 << 63, math.MaxUint64} {
		refusedBoth(t, "too many fails", query.Query{Fails: fails}, api.ErrRange, "fails")
	}
	checkNil(t, "the zero query", query.Check(query.Query{}))
}

// refusedBoth: may a query neither be, nor be printed?
func refusedBoth(t *testing.T, what string, q query.Query, code api.Errno, word string) {
	t.Helper()
	checkFault(t, what, query.Check(q), code, 0, word)
	s, err := query.Print(q)
	checkFault(t, what+": printed", err, code, 0, word)
	check(t, what+": beside an error", s, "")
}

// P19.1: the first of the three that is wrong is told, with layer 15's error.
func TestCheckFirst(t *testing.T) {
	wrong := []struct {
		x    regex.Expr
		code api.Errno
	}{
		{of(7), api.ErrArg},
		{of(-1), api.ErrArg},
		{atom(), api.ErrForm},
		{of(regex.Star), api.ErrForm},
		{alt(anyOne()), api.ErrForm},
		{star(atom("b", "a")), api.ErrOrder},
		{cat(slices.Repeat([]regex.Expr{anyOne()}, api.MaxNodes)...), api.ErrMany},
	}
	good := anyOne()
	for _, w := range wrong {
		for _, more := range []uint64{0, api.MaxThings + 1} {
			refusedBoth(t, "start", query.Query{w.x, good, good, more}, w.code, "start")
			refusedBoth(t, "path", query.Query{good, w.x, good, more}, w.code, "path")
			refusedBoth(t, "end", query.Query{good, good, w.x, more}, w.code, "end")
		}
		for _, other := range wrong {
			refusedBoth(t, "start and path", query.Query{w.x, other.x, good, 0}, w.code, "start")
			refusedBoth(t, "start and end", query.Query{w.x, good, other.x, 0}, w.code, "start")
			refusedBoth(t, "path and end", query.Query{good, w.x, other.x, 99}, w.code, "path")
		}
	}
}

// P19.1: the text of a query.
func TestPrint(t *testing.T) {
	for _, c := range []struct {
		q    query.Query
		text string
	}{
		{query.Query{atom("$ip"), star(anyOne()), cat(anyOne(), atom("$ip")), 1}, "<$ip> .* <. $ip> 1"},
		{query.Query{}, "<.> . <.> 0"},
		{query.Query{cat(), cat(), cat(), 64}, "<()> () <()> 64"},
		{query.Query{alt(atom("a"), cat(atom("b"), anyOne())), alt(atom("a#b"), not("c", "d")), of(regex.Opt, alt(atom("e"), cat())), 10}, "<a|b .> a#b|[^c,d] <(e|())?> 10"},
	} {
		s, err := query.Print(c.q)
		checkNil(t, c.text, err)
		check(t, "the text", s, c.text)
	}
}

// others are queries no two of which are the same.
func others() []query.Query {
	x, y := anyOne(), atom("a")
	return []query.Query{
		{}, {Fails: 1}, {Fails: 65}, {Fails: math.MaxUint64},
		{y, x, x, 0}, {x, y, x, 0}, {x, x, y, 0}, {y, y, y, 0}, {y, x, y, 0}, {not("a"), x, x, 0},
		{x, x, atom("a", "b"), 0}, {x, x, atom("b", "a"), 0}, {x, x, of(9), 0}, {x, cat(x, y), x, 0}, {x, alt(x, y), x, 0}, {x, alt(y, x), x, 0},
	}
}

// P19.1: queries are the same just if all is.
func TestSame(t *testing.T) {
	for i, a := range others() {
		for j, b := range others() {
			check(t, whole(a)+" and "+whole(b), query.Same(a, b), i == j)
		}
	}
	empty := regex.Expr{Words: []string{}, Kids: []regex.Expr{}}
	check(t, "lists without elements", query.Same(query.Query{Path: empty}, query.Query{End: empty}), true)
}

// someExpr: one that may be, of at most so many Atoms.
func someExpr(r *rand.Rand, words []string, atoms int) regex.Expr {
	if atoms == 1 {
		l := slices.Clone(words)
		r.Shuffle(len(l), func(i, j int) { l[i], l[j] = l[j], l[i] })
		l = l[:1+r.Intn(min(len(l), 3))]
		slices.Sort(l)
		return []regex.Expr{anyOne(), atom(l...), not(l...), cat()}[r.Intn(4)]
	}
	kind := regex.Cat + r.Intn(5)
	if kind >= regex.Star {
		return of(kind, someExpr(r, words, atoms-1))
	}
	n := 1 + r.Intn(atoms-1)
	return of(kind, someExpr(r, words, n), someExpr(r, words, atoms-n))
}

// someQuery: one that may be.
func someQuery(r *rand.Rand) query.Query {
	labels := []string{"s", "t", "x", "y", "$ip", "$smpls", "$mpls"}
	links := []string{"ab", "ab2", "ba", "l.-0", "a#b", "b#a", "a#a"}
	return query.Query{
		Start: someExpr(r, labels, 1+r.Intn(5)),
		Path:  someExpr(r, links, 1+r.Intn(5)),
		End:   someExpr(r, labels, 1+r.Intn(5)),
		Fails: uint64(r.Intn(api.MaxThings + 1)),
	}
}

// P19.4: what is printed is read as it was.
func TestPrintedIsRead(t *testing.T) {
	r := rand.New(rand.NewSource(194))
	for range 5000 {
		q := someQuery(r)
		s, err := query.Print(q)
		checkNil(t, "one that may be", err)
		back, err := query.Parse(s)
		checkNil(t, s, err)
		check(t, s, whole(back), whole(q))
		check(t, s+": the same", query.Same(back, q), true)
	}
}

// Memory: nothing of a query is changed, or kept.
func TestMemory(t *testing.T) {
	words := append(make([]string, 0, 4), "a")
	q := query.Query{Start: regex.Expr{Kind: regex.Atom, Words: words}, Path: cat(anyOne(), atom("l")), Fails: 2}
	was := whole(q)
	checkNil(t, "check", query.Check(q))
	if _, err := query.Print(q); err != nil {
		t.Error(err)
	}
	check(t, "the query", whole(q), was)
	check(t, "spare room", words[:2][1], "")
}
