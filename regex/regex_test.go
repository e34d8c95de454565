package regex_test

import (
	"math"
	"math/rand"
	"slices"
	"strconv"
	"strings"
	"testing"

	"fairlead/api"
	"fairlead/oops"
	"fairlead/regex"
)

func check[T comparable](t *testing.T, what string, got, want T) {
	t.Helper()
	if got != want {
		t.Errorf("%s: got %v, want %v", what, got, want)
	}
}

// checkNil: is it no error?
func checkNil(t *testing.T, what string, err error) {
	t.Helper()
	if err != nil {
		t.Errorf("%s: %v, want nil", what, err)
	}
}

// checkFault: is it just a fault of both, within no words?
func checkFault(t *testing.T, what string, err error, code api.Errno, at int) {
	t.Helper()
	f, ok := err.(*oops.Fault)
	if !ok || f == nil {
		t.Errorf("%s: %v is no fault, want %d at %d", what, err, code, at)
		return
	}
	check(t, what, *f, oops.Fault{Code: code, At: at})
}

// short: a text, of a long one the beginning.
func short(s string) string { return strconv.Quote(s[:min(len(s), 60)]) }

func anyOne() regex.Expr { return regex.Expr{Kind: regex.Any} }

func atom(words ...string) regex.Expr { return regex.Expr{Kind: regex.Atom, Words: words} }

func not(words ...string) regex.Expr { return regex.Expr{Kind: regex.Atom, Not: true, Words: words} }

func of(kind int, kids ...regex.Expr) regex.Expr { return regex.Expr{Kind: kind, Kids: kids} }

func cat(kids ...regex.Expr) regex.Expr { return of(regex.Cat, kids...) }

func alt(kids ...regex.Expr) regex.Expr { return of(regex.Alt, kids...) }

func star(kid regex.Expr) regex.Expr { return of(regex.Star, kid) }

func plus(kid regex.Expr) regex.Expr { return of(regex.Plus, kid) }

func opt(kid regex.Expr) regex.Expr { return of(regex.Opt, kid) }

// times: an expression so many times.
func times(n int, x regex.Expr) []regex.Expr { return slices.Repeat([]regex.Expr{x}, n) }

// whole: all that an expression is, in a manner of its own.
func whole(x regex.Expr) string {
	s := strconv.Itoa(x.Kind)
	if x.Not {
		s += "!"
	}
	for _, word := range x.Words {
		s += strconv.Quote(word)
	}
	for _, kid := range x.Kids {
		s += "{" + whole(kid) + "}"
	}
	return s
}

// printed: is an expression one that may be, of just this text?
func printed(t *testing.T, x regex.Expr, want string) {
	t.Helper()
	checkNil(t, short(want)+": may be", regex.Check(x))
	s, err := regex.Print(x)
	checkNil(t, short(want)+": printed", err)
	if s != want {
		t.Errorf("printed %s, want %s", short(s), short(want))
	}
}

// wrong: may an expression not be, with that error?
func wrong(t *testing.T, what string, x regex.Expr, code api.Errno) {
	t.Helper()
	checkFault(t, what, regex.Check(x), code, 0)
	s, err := regex.Print(x)
	checkFault(t, what+": printed", err, code, 0)
	check(t, what+": a text beside an error", s, "")
}

// everywhere: the same where an expression stands within others, too, of which
// nothing else is wrong.
func everywhere(t *testing.T, what string, x regex.Expr, code api.Errno) {
	t.Helper()
	wrong(t, what, x, code)
	a := atom("a")
	for _, kind := range []int{regex.Cat, regex.Alt} {
		wrong(t, what+": first", of(kind, x, a), code)
		wrong(t, what+": last", of(kind, a, a, x), code)
	}
	for _, kind := range []int{regex.Star, regex.Plus, regex.Opt} {
		wrong(t, what+": the kid", of(kind, x), code)
		wrong(t, what+": further down", cat(a, alt(a, of(kind, x)), a), code)
	}
}

// goodWords are words.
func goodWords() []string {
	long := strings.Repeat("n", api.MaxName)
	l := []string{"a", "Z", "_", "a1", "a-b", "a.b", "a.", "a-", "ip", "$ip", "$mpls", "$x", "$_", "$a.b-9", "a#b", "a#a", "_#_", "a.#b-"}
	return append(l, long, "$"+long, long+"#"+long)
}

// badWords are none.
func badWords() []string {
	long := strings.Repeat("n", api.MaxName+1)
	l := []string{"", " ", "a ", " a", "1", "1a", "-a", ".a", ".", "$", "$$a", "$1", "$ a", "a$", "a$b", "$a$b", "#", "#a", "a#", "a##b", "a#1", "1#a"}
	l = append(l, "a#b#c", "a #b", "a# b", "a#b ", "$a#b", "a#$b", "$a#", "#$a", "a,b", "a|b", "a*", "[a]", "^a", "é", "a\x00", "\x00", "a\xff", "a\n")
	return append(l, long, "$"+long, long+"#a", "a#"+long, strings.Repeat("a", api.MaxText+1), strings.Repeat("a", 1<<20))
}

// The kinds' numbers, and the form of the type.
func TestForm(t *testing.T) {
	kinds := [7]int{regex.Any, regex.Atom, regex.Cat, regex.Alt, regex.Star, regex.Plus, regex.Opt}
	check(t, "the kinds", kinds, [7]int{0, 1, 2, 3, 4, 5, 6})
	check(t, "MaxNodes", api.MaxNodes, 100)
	x := regex.Expr{1, true, []string{"a"}, []regex.Expr{{}}}
	check(t, "an expression", whole(x), `1!"a"{0}`)
}

// P15.1: a word is a name, or $ and a name, or two names with # between.
func TestIsWord(t *testing.T) {
	for _, word := range goodWords() {
		check(t, "is "+short(word)+" a word", regex.IsWord(word), true)
	}
	for _, word := range badWords() {
		check(t, "is "+short(word)+" a word", regex.IsWord(word), false)
	}
	for i := range 256 {
		b := string([]byte{byte(i)})
		letter := i >= 'a' && i <= 'z' || i >= 'A' && i <= 'Z' || i == '_'
		more := letter || i >= '0' && i <= '9' || i == '-' || i == '.'
		check(t, short(b), regex.IsWord(b), letter)
		check(t, short("$"+b), regex.IsWord("$"+b), letter)
		check(t, short("a"+b), regex.IsWord("a"+b), more)
		check(t, short("a#"+b), regex.IsWord("a#"+b), letter)
		check(t, short("a"+b+"b"), regex.IsWord("a"+b+"b"), more || i == '#')
	}
}

// P15.1: what may be, and its text.
func TestPrint(t *testing.T) {
	a, b, c := atom("a"), atom("b"), atom("c")
	printed(t, anyOne(), ".")
	printed(t, regex.Expr{}, ".")
	printed(t, regex.Expr{Words: []string{}, Kids: []regex.Expr{}}, ".")
	printed(t, a, "a")
	printed(t, not("a"), "[^a]")
	printed(t, atom("a", "b"), "[a,b]")
	printed(t, not("$ip", "a", "a#b"), "[^$ip,a,a#b]")
	printed(t, cat(), "()")
	printed(t, regex.Expr{Kind: regex.Cat, Kids: []regex.Expr{}}, "()")
	printed(t, cat(a, b, c), "a b c")
	printed(t, alt(a, b, c), "a|b|c")
	printed(t, star(a), "a*")
	printed(t, plus(a), "a+")
	printed(t, opt(a), "a?")
	printed(t, star(plus(opt(a))), "a?+*")
	printed(t, star(anyOne()), ".*")
	printed(t, star(not("a", "b")), "[^a,b]*")
	printed(t, opt(cat()), "()?")
	printed(t, alt(cat(a, star(b)), not("c", "d")), "a b*|[^c,d]")
}

// P15.1: what stands in brackets.
func TestPrintBrackets(t *testing.T) {
	a, b, c := atom("a"), atom("b"), atom("c")
	printed(t, cat(cat(a, b), c), "(a b) c")
	printed(t, cat(a, cat(b, c)), "a (b c)")
	printed(t, cat(alt(a, b), c), "(a|b) c")
	printed(t, cat(a, alt(b, c)), "a (b|c)")
	printed(t, alt(cat(a, b), c), "a b|c")
	printed(t, alt(a, cat(b, c)), "a|b c")
	printed(t, alt(alt(a, b), c), "(a|b)|c")
	printed(t, alt(a, alt(b, c)), "a|(b|c)")
	printed(t, alt(cat(alt(a, b), c), a), "(a|b) c|a")
	printed(t, alt(cat(), cat()), "()|()")
	printed(t, cat(cat(), a, cat()), "() a ()")
	printed(t, cat(star(a), plus(b), opt(c)), "a* b+ c?")
	printed(t, alt(star(a), plus(b)), "a*|b+")
	printed(t, alt(star(cat(a, b)), star(alt(a, b)), star(star(a))), "(a b)*|(a|b)*|a**")
	for kind, sign := range map[int]string{regex.Star: "*", regex.Plus: "+", regex.Opt: "?"} {
		printed(t, of(kind, cat(a, b)), "(a b)"+sign)
		printed(t, of(kind, alt(a, b)), "(a|b)"+sign)
		printed(t, of(kind, cat()), "()"+sign)
		printed(t, of(kind, of(kind, a)), "a"+sign+sign)
		printed(t, of(kind, of(kind, cat(a, b))), "(a b)"+sign+sign)
	}
}

// P15.1: numbers that aren't kinds.
func TestCheckKind(t *testing.T) {
	for _, kind := range []int{-1, 7, 8, -7, 255, 256, 1 << 32, 1<<32 + 1, math.MinInt, math.MaxInt} {
		everywhere(t, "kind "+strconv.Itoa(kind), of(kind), api.ErrArg)
		everywhere(t, "with kids", of(kind, anyOne(), anyOne()), api.ErrArg)
		everywhere(t, "with all", regex.Expr{Kind: kind, Not: true, Words: []string{"b", "a"}, Kids: times(1, anyOne())}, api.ErrArg)
	}
}

// P15.1: what an expression hasn't to have, and how many kids there must be.
func TestCheckForm(t *testing.T) {
	may := func(kind, kids int) bool {
		switch kind {
		case regex.Any, regex.Atom:
			return kids == 0
		case regex.Cat:
			return kids != 1
		case regex.Alt:
			return kids >= 2
		}
		return kids == 1
	}
	for kind := regex.Any; kind <= regex.Opt; kind++ {
		for kids := range 5 {
			x := of(kind, times(kids, anyOne())...)
			if kind == regex.Atom {
				x.Words = []string{"a"}
			}
			what := "kind " + strconv.Itoa(kind) + " with kids: " + strconv.Itoa(kids)
			if may(kind, kids) {
				checkNil(t, what, regex.Check(x))
			} else {
				everywhere(t, what, x, api.ErrForm)
			}
			if kind == regex.Atom {
				continue
			}
			y := x
			y.Not = true
			everywhere(t, what+", with Not", y, api.ErrForm)
			y = x
			y.Words = []string{"a"}
			everywhere(t, what+", with a word", y, api.ErrForm)
		}
	}
}

// P15.1: an Atom's words.
func TestCheckWords(t *testing.T) {
	for _, make := range []func(...string) regex.Expr{atom, not} {
		everywhere(t, "no word", make(), api.ErrForm)
		for _, word := range badWords() {
			everywhere(t, short(word), make(word), api.ErrForm)
			everywhere(t, "last "+short(word), make("a", "b", word), api.ErrForm)
			everywhere(t, "first "+short(word), make(word, "~", "a"), api.ErrForm)
			everywhere(t, "behind words that don't rise: "+short(word), make("b", "a", word), api.ErrForm)
		}
		l := goodWords()
		slices.Sort(l)
		checkNil(t, "all words", regex.Check(make(l...)))
		for i, word := range l {
			checkNil(t, word, regex.Check(make(word)))
			everywhere(t, "twice "+word, make(word, word), api.ErrOrder)
			for _, higher := range l[i+1:] {
				checkNil(t, word+", "+higher, regex.Check(make(word, higher)))
				everywhere(t, higher+", "+word, make(higher, word), api.ErrOrder)
				everywhere(t, higher+", "+word+", z", make(higher, word, "zz"), api.ErrOrder)
			}
		}
		everywhere(t, "the last two", make("a", "b", "c", "c"), api.ErrOrder)
		everywhere(t, "a after b, with a kid", regex.Expr{Kind: regex.Atom, Words: []string{"b", "a"}, Kids: times(1, anyOne())}, api.ErrForm)
	}
}

// P15.1: the first that is met is told, from an expression on to its kids.
func TestCheckFirst(t *testing.T) {
	arg, form, order := of(7), not(), atom("b", "a")
	l := map[api.Errno]regex.Expr{api.ErrArg: arg, api.ErrForm: form, api.ErrOrder: order}
	for code, first := range l {
		for _, other := range l {
			wrong(t, "the first kid", cat(first, other), code)
			wrong(t, "the first kid's kid", cat(star(first), other), code)
			wrong(t, "a kid's kid, and the next kid", alt(cat(anyOne(), first), other, first), code)
			wrong(t, "further down", alt(anyOne(), opt(opt(opt(first))), other), code)
		}
	}
	for _, other := range l {
		wrong(t, "ahead of its kids: a kind", of(-1, other), api.ErrArg)
		wrong(t, "ahead of its kids: a form", alt(other), api.ErrForm)
		wrong(t, "ahead of its kids: a Not", regex.Expr{Kind: regex.Star, Not: true, Kids: []regex.Expr{other}}, api.ErrForm)
		wrong(t, "an Atom's kids", regex.Expr{Kind: regex.Atom, Words: []string{"a"}, Kids: []regex.Expr{other}}, api.ErrForm)
	}
}

// P15.1: at most 100 expressions, whatever else is wrong.
func TestCheckMany(t *testing.T) {
	checkNil(t, "100", regex.Check(cat(times(api.MaxNodes-1, anyOne())...)))
	wrong(t, "101", cat(times(api.MaxNodes, anyOne())...), api.ErrMany)
	x := anyOne()
	for range api.MaxNodes - 1 {
		x = star(x)
	}
	checkNil(t, "100 within one another", regex.Check(x))
	printed(t, x, "."+strings.Repeat("*", api.MaxNodes-1))
	wrong(t, "101 within one another", star(x), api.ErrMany)
	wrong(t, "101, and a wrong kind first", of(7, times(api.MaxNodes, anyOne())...), api.ErrMany)
	wrong(t, "101, and a wrong one", cat(append(times(api.MaxNodes-1, anyOne()), not())...), api.ErrMany)
	wrong(t, "100, and a wrong one", cat(append(times(api.MaxNodes-2, anyOne()), not())...), api.ErrForm)
	wrong(t, "an Atom's kids count", regex.Expr{Kind: regex.Atom, Kids: times(api.MaxNodes, anyOne())}, api.ErrMany)
	wrong(t, "a wrong kind's kids count", alt(of(-1, times(api.MaxNodes, anyOne())...)), api.ErrMany)
	deep := anyOne()
	for range 1 << 15 {
		deep = opt(deep)
	}
	wrong(t, "deep", deep, api.ErrMany)
}

// P15.1: how many expressions there are.
func TestSize(t *testing.T) {
	check(t, "Any", regex.Size(anyOne()), 1)
	check(t, "an Atom", regex.Size(atom("a", "b", "c")), 1)
	check(t, "a Cat of none", regex.Size(cat()), 1)
	check(t, "a Cat", regex.Size(cat(anyOne(), atom("a"))), 3)
	check(t, "the example", regex.Size(alt(cat(atom("a"), star(atom("b"))), not("c", "d"))), 6)
	check(t, "more than may be", regex.Size(cat(times(1000, star(anyOne()))...)), 2001)
	check(t, "of no kind", regex.Size(of(99, of(-1), of(7, anyOne()))), 4)
	check(t, "kids of an Atom", regex.Size(of(regex.Atom, anyOne())), 2)
}

// others are expressions of which no two are the same.
func others() []regex.Expr {
	a, b := atom("a"), atom("b")
	l := []regex.Expr{anyOne(), a, b, not("a"), not("b"), atom("a", "b"), not("a", "b"), atom("b", "a"), atom("a", "a"), atom(), not(), atom(""), atom("a", "")}
	l = append(l, cat(), cat(a), cat(a, b), cat(b, a), cat(a, a), cat(a, b, a), cat(a, b, b), cat(cat(a, b)), cat(a, cat(b)), cat(cat(a), b))
	l = append(l, alt(), alt(a), alt(a, b), alt(b, a), alt(a, b, b), star(a), star(b), plus(a), opt(a), star(star(a)), star(plus(a)), of(regex.Star), of(regex.Star, a, b))
	l = append(l, of(7), of(-1), of(7, a), regex.Expr{Not: true}, regex.Expr{Words: []string{"a"}}, regex.Expr{Kind: regex.Cat, Not: true, Kids: []regex.Expr{a, b}})
	l = append(l, regex.Expr{Kind: regex.Cat, Words: []string{"a"}, Kids: []regex.Expr{a, b}}, regex.Expr{Kind: regex.Atom, Words: []string{"a"}, Kids: []regex.Expr{a}}, star(not("a")), star(not("b")), cat(a, star(not("a"))))
	return append(l, cat(a, star(not("b"))), of(regex.Any, a), of(regex.Any, b))
}

// P15.1: two are the same, if all of both is.
func TestSame(t *testing.T) {
	for i, a := range others() {
		for k, b := range others() {
			check(t, whole(a)+" and "+whole(b), regex.Same(a, b), i == k)
		}
	}
	none := regex.Expr{Kind: regex.Cat, Words: []string{}, Kids: []regex.Expr{}}
	check(t, "lists without elements", regex.Same(none, cat()) && regex.Same(cat(), none), true)
}

// P15.1, memory: nothing that is handed in is changed.
func TestCheckMemory(t *testing.T) {
	words := []string{"a", "b", "spare"}
	kids := []regex.Expr{atom(words[:2]...), star(anyOne()), atom("spare")}
	x := cat(kids[:2]...)
	regex.Check(x)
	regex.Print(x)
	regex.Size(x)
	regex.Same(x, x)
	check(t, "the words", strings.Join(words, " "), "a b spare")
	check(t, "the kids", whole(cat(kids...)), `2{1"a""b"}{4{0}}{1"spare"}`)
}

// names are words of random expressions.
func names() []string {
	return []string{"$ip", "$x", "a", "a#b", "a.", "b", "b#a", "c-", "zz_9"}
}

// someWords are some of them, rising.
func someWords(r *rand.Rand) []string {
	var l []string
	for _, word := range names() {
		if r.Intn(4) == 0 {
			l = append(l, word)
		}
	}
	if l == nil {
		l = []string{names()[r.Intn(len(names()))]}
	}
	return l
}

// someExpr is one that may be, of at most so many expressions.
func someExpr(r *rand.Rand, size int) regex.Expr {
	switch kind := r.Intn(8); {
	case size >= 3 && kind <= 3:
		left := size - 1
		n := 2 + r.Intn(min(left-1, 4))
		var kids []regex.Expr
		for i := range n {
			kid := someExpr(r, left-(n-1-i))
			left -= regex.Size(kid)
			kids = append(kids, kid)
		}
		return of(regex.Cat+kind%2, kids...)
	case size >= 2 && kind <= 5:
		return of(regex.Star+r.Intn(3), someExpr(r, size-1))
	case kind == 6:
		return []regex.Expr{anyOne(), cat()}[r.Intn(2)]
	}
	return regex.Expr{Kind: regex.Atom, Not: r.Intn(3) == 0, Words: someWords(r)}
}

// P15.3: what is printed is read as it was.
func TestPrintedIsRead(t *testing.T) {
	r := rand.New(rand.NewSource(15))
	for range 5000 {
		x := someExpr(r, 1+r.Intn(api.MaxNodes))
		checkNil(t, whole(x), regex.Check(x))
		s, err := regex.Print(x)
		checkNil(t, whole(x)+": printed", err)
		y, err := regex.Parse(s)
		checkNil(t, s, err)
		if !regex.Same(x, y) || whole(x) != whole(y) {
			t.Fatalf("%s is printed %s, and read %s", whole(x), s, whole(y))
		}
	}
}

// P15.3: those that stand in the most brackets, too.
func TestPrintedDeepIsRead(t *testing.T) {
	for _, kinds := range [][2]int{{regex.Cat, regex.Cat}, {regex.Alt, regex.Alt}, {regex.Cat, regex.Alt}, {regex.Alt, regex.Cat}} {
		for _, last := range []bool{false, true} {
			x := cat()
			for i := range (api.MaxNodes - 1) / 2 {
				if kids := []regex.Expr{x, cat()}; last {
					x = of(kinds[i%2], kids[1], kids[0])
				} else {
					x = of(kinds[i%2], kids...)
				}
			}
			s, err := regex.Print(x)
			checkNil(t, short(s), err)
			y, err := regex.Parse(s)
			checkNil(t, short(s), err)
			check(t, short(s)+" is the same", regex.Same(x, y), true)
		}
	}
}
